import Derived.Test.YtoaaklhpmhjhkaaGreatC11
import Derived.Test.YtoaaklhpmhjhkaaGreatC12
import Derived.Test.YtoaaklhpmhjhkaaGreatC13
set_option maxRecDepth 100000
set_option maxHeartbeats 4000000
set_option linter.all false
namespace Go.Proofs.YtoaaklhpmhjhkaaGreat
open Go.RowKit
def BK (s:ByteArray) (i:Int):Int:=Pg.digitValue (Y7 s (i+1))
def Ie (s:ByteArray) (w:World) (kd pl n:Int) (ok:Bool) (f:Nat->Bool) (mo fa:Int) (e:Ending) (w':World):Prop:=
 ∃(kd' pl':Int) (f':Nat->Bool) (le' mo' fa':Int),e=.returned (.tuple #[.agg (YX kd' pl' f' le' mo' fa').toArray,.int .i64 n,.bool ok])/\Below w.heap.size w w' /\
  (ok=true->kd'=kd/\pl'=pl/\f'=f/\mo'=mo/\fa'=fa/\(kd=8->le'=BK s pl))
theorem MV (s:ByteArray) (i:Int) (w:World) (h0:0<=i) (h1:i<=300):
  Cp 207 #[.string s,I6 i] w (Ie s w 8 i (Pg.readCount (Y7 s) i).n (Pg.readCount (Y7 s) i).ok (λ_=>false) (Pg.readCount (Y7 s) i).v (Pg.countFalls (Y7 s) i)):=by
 have z:Hid (Pg.readCount (Y7 s) i=if Pg.digitValue (Y7 s (i+1))<0 then ⟨0,i+1,false⟩ else Pg.readMost (Y7 s) (i+2) (Pg.digitValue (Y7 s (i+1)))):=rfl;have hz:=XP;have D:=SC;obtain⟨o,j⟩:=OQ w;have E:=j.store 8 i (λ_=>false) 0 0 (-1);have f:=j.put 8 i (λ_=>false) 0 0 (-1);have q:=o.far (w.heap.size+1) 0 (YX 8 i (λ_=>false) 0 0 (-1)) (by omega);have G:Bl w (((w.alloc (Obj.cells (YX 0 0 (λ_=>false) 0 0 0).toArray 261)).alloc (Obj.cells (YX 0 0 (λ_=>false) 0 0 0).toArray 261)).setCells (w.heap.size+1) 0 (YX 8 i (λ_=>false) 0 0 (-1))):=(((Zk _ _).alloc (Zg _) _).alloc (by simp) _).trans (Y6 _ _ 0 (by omega) _ _ _);clear o j;go_enter Tryz.func207,Tryz.ntmps207;go_wp2_with fail;clear E hz D;generalize (((w.alloc (Obj.cells (YX 0 0 (λ_=>false) 0 0 0).toArray 261)).alloc (Obj.cells (YX 0 0 (λ_=>false) 0 0 0).toArray 261)).setCells (w.heap.size+1) 0 (YX 8 i (λ_=>false) 0 0 (-1)))=W at *;refine(YP s (i+1) _).mono ?_;rintro e W ⟨rfl,rfl⟩;have u:=f.c3;have C:=f.fr 258 (by omega);have b:=f.put3 (Pg.digitValue (Y7 s (i+1)));have d:=q.far1 (w.heap.size+1) 258 (I6 (Pg.digitValue (Y7 s (i+1)))) (by omega);have g:=G.trans ((Zk w.heap.size W).setCell (p:=(a_ (w.heap.size+1) 258)) (by simp) (I6 (Pg.digitValue (Y7 s (i+1)))));clear f q G;go_wp2_with fail;refine(Xv _ _).mono ?_;rintro e W ⟨rfl,rfl⟩;by_cases c1:Pg.digitValue (Y7 s (i+1))<0
 ·have l:Hid (Pg.readCount (Y7 s) i=⟨0,i+1,false⟩):=by show _=_;rw[z.out,if_pos c1]
  go_wp2_with (first|(with_reducible refine lP rfl b.at_ ?_)|(with_reducible refine sP rfl rfl d.free ?_));have a:=(d.put 8 i (λ_=>false) (Pg.digitValue (Y7 s (i+1))) 0 (-1)).load;refine Zr (v:=.tuple #[.agg (YX 8 i (λ_=>false) (Pg.digitValue (Y7 s (i+1))) 0 (-1)).toArray,I6 (i+1),.bool false]) (YM Tryz.results207 (by simp) a (by simp) (by simp)) rfl ?_;rw[l.out];exact⟨_,_,_,_,_,_,rfl,g.trans (Y6 _ _ 0 (Zg _) _ _ _),λh=>by cases h⟩
 have l:Hid (Pg.readCount (Y7 s) i=Pg.readMost (Y7 s) (i+2) (Pg.digitValue (Y7 s (i+1)))):=by show _=_;rw[z.out,if_neg c1]
 have y:Hid (Pg.countFalls (Y7 s) i=if (Pg.readMost (Y7 s) (i+2) (Pg.digitValue (Y7 s (i+1)))).v<Pg.digitValue (Y7 s (i+1)) then i else -1):=by show _=_;rw[Pg.countFalls,l.out]
 have x:=b.c3;go_wp2_with fail;refine(LL s (i+2) _ _ (by omega) (by omega)).mono ?_;rintro e N ⟨rfl,rfl⟩;generalize W.setCell (a_ (w.heap.size+1) 258) (Value.int .i64 (Pg.digitValue (Y7 s (i+1))))=V at *;clear u C x z;generalize Pg.readMost (Y7 s) (i+2) (Pg.digitValue (Y7 s (i+1)))=r at *;have F:Hid (Pg.digitValue (Y7 s (i+1))=BK s i):=rfl;generalize Pg.digitValue (Y7 s (i+1))=le at *;obtain⟨mo,n,ok⟩:=r;have u:=b.c3;have H:=b.c4;have L:=b.fr 259 (by omega);cases ok
 ·go_wp2_with (first|(with_reducible refine lP rfl b.at_ ?_)|(with_reducible refine sP rfl rfl d.free ?_));have a:=(d.put 8 i (λ_=>false) le 0 (-1)).load;refine Zr (v:=.tuple #[.agg (YX 8 i (λ_=>false) le 0 (-1)).toArray,I6 n,.bool false]) (YM Tryz.results207 (by simp) a (by simp) (by simp)) rfl ?_;rw[l.out,y.out];exact⟨_,_,_,_,_,_,rfl,g.trans (Y6 _ _ 0 (Zg _) _ _ _),λh=>by cases h⟩
 have c:=b.put4 mo;have k:=d.far1 (w.heap.size+1) 259 (I6 mo) (by omega);have m:=g.trans ((Zk w.heap.size V).setCell (p:=(a_ (w.heap.size+1) 259)) (by simp) (I6 mo));have I:=c.c3;have J:=c.c4;have K:=c.c5;have M:=c.fr 260 (by omega);have B:=c.put5 i;have t:=k.far1 (w.heap.size+1) 260 (I6 i) (by omega);have A:=m.trans ((Zk w.heap.size (V.setCell (a_ (w.heap.size+1) 259) (I6 mo))).setCell (p:=(a_ (w.heap.size+1) 260)) (by simp) (I6 i));by_cases c2:mo<le
 ·go_wp2_with (first|(with_reducible refine lP rfl B.at_ ?_)|(with_reducible refine sP rfl rfl t.free ?_));have a:=(t.put 8 i (λ_=>false) le mo i).load;refine Zr (v:=.tuple #[.agg (YX 8 i (λ_=>false) le mo i).toArray,I6 n,.bool true]) (YM Tryz.results207 (by simp) a (by simp) (by simp)) rfl ?_;rw[l.out,y.out];exact⟨_,_,_,_,_,_,rfl,A.trans (Y6 _ _ 0 (Zg _) _ _ _),λ_=>⟨rfl,rfl,rfl,rfl,(if_pos c2).symm,λ_=>F.out⟩⟩
 go_wp2_with (first|(with_reducible refine lP rfl c.at_ ?_)|(with_reducible refine sP rfl rfl k.free ?_));have a:=(k.put 8 i (λ_=>false) le mo (-1)).load;refine Zr (v:=.tuple #[.agg (YX 8 i (λ_=>false) le mo (-1)).toArray,I6 n,.bool true]) (YM Tryz.results207 (by simp) a (by simp) (by simp)) rfl ?_;rw[l.out,y.out];exact⟨_,_,_,_,_,_,rfl,m.trans (Y6 _ _ 0 (Zg _) _ _ _),λ_=>⟨rfl,rfl,rfl,rfl,(g_).symm,λ_=>F.out⟩⟩
theorem KK (s:ByteArray) (k0:Nat) (w:World) (hs:s.size<=40) (aw:k0<=40):
  Cp 212 #[.string s,I6 k0] w (Ie s w 1 k0 (Pg.readSet (Y7 s) s.size k0).n (Pg.readSet (Y7 s) s.size k0).ok (Pg.readSet (Y7 s) s.size k0).f 0 (Pg.readSet (Y7 s) s.size k0).fa):=by
 have hz:=XP;have aq:=SC;obtain⟨ac,U⟩:=OQ w;have ar:=U.store 1 k0 (λ_=>false) 0 0 (-1);have a:=U.put 1 k0 (λ_=>false) 0 0 (-1);have d:=ac.far (w.heap.size+1) 0 (YX 1 k0 (λ_=>false) 0 0 (-1)) (by omega);have C:Bl w (((w.alloc (Obj.cells (YX 0 0 (λ_=>false) 0 0 0).toArray 261)).alloc (Obj.cells (YX 0 0 (λ_=>false) 0 0 0).toArray 261)).setCells (w.heap.size+1) 0 (YX 1 k0 (λ_=>false) 0 0 (-1))):=(((Zk _ _).alloc (Zg _) _).alloc (by simp) _).trans (Y6 _ _ 0 (by omega) _ _ _);clear ac U;go_enter Tryz.func212,Tryz.ntmps212;go_wp2_with fail;clear ar hz aq;generalize (((w.alloc (Obj.cells (YX 0 0 (λ_=>false) 0 0 0).toArray 261)).alloc (Obj.cells (YX 0 0 (λ_=>false) 0 0 0).toArray 261)).setCells (w.heap.size+1) 0 (YX 1 k0 (λ_=>false) 0 0 (-1)))=W at *;refine(YP s ((k0:Int)+1) _).mono ?_;rintro e W ⟨rfl,rfl⟩;by_cases I:Y7 s ((k0:Int)+1)=94
 ·have ai:(Y7 s ((k0:Int)+1)==94)=true:=by simpa using I
  obtain⟨R,V⟩:=nam (Pg.setLoop (Y7 s) s.size ((k0:Int)+2) (s.size+1) ((k0:Int)+2) (-1) (λ_=>false));have T:Hid (Pg.readSet (Y7 s) s.size k0=⟨R.n,R.ok,λk=>!R.f k,R.fa⟩):=by show _=_;rw[Pg.readSet,if_pos I,V];rfl
  have A:=hyd V;clear V I;go_wp2_with fail
  go_loopw [10] (λx w'=>∃(u k:Nat) (fa:Int) (f:N_),x=I6 k/\k0+2<=k/\s.size<u+k/\1<=u/\k<=60/\YF w.heap.size 0 0 (λ_=>false) 0 0 0 w'/\YF (w.heap.size+1) 1 k0 f 0 0 fa w'/\Bl w w'/\Hid (R=Pg.setLoop (Y7 s) s.size ((k0:Int)+2) u k fa f)) (λx _=>70-(intOf x).toNat)
  ·exact⟨s.size+1,k0+2,-1,λ_=>false,by go_num,by omega,by omega,by omega,by omega,d,a,C,A⟩
  clear d a C A;obtain⟨u,k,fa,f,rfl,ap,av,au,ah,d,a,C,A⟩:=hrel;by_cases ab:k<s.size
  ·rcases u with _|u
   ·omega
   have z:Y7 s (k:Int)=(s[k].toNat:Int):=by
    have:=Lf (s:=s) (i:=(k:Int)) (by simpa using ab) (by omega);simpa using this
   have D:(k:Int)<(s.size:Int):=by omega
   by_cases m:Y7 s (k:Int)=93/\((k0:Int)+2)<(k:Int)
   ·have ae:((s[k].toNat:Int)==93)=true:=by rw[<-z];simpa using m.1
    have an:=m.2;have g:Hid (R=⟨(k:Int)+1,true,f,fa⟩):=by show _=_;rw[A.out,Pg.setLoop,if_pos D,if_pos m]
    clear A z m;go_wp2_with (first|(with_reducible refine gld 251 ?_;refine Zb rfl 251 _ rfl _ _ rfl _ _ a.set u_c rfl (by rw[YW];exact YI) ?_));refine(Oc f _).mono ?_;rintro e q ⟨rfl,b⟩;have l:=a.below a.lt b;have N:=d.below d.lt b;have L:=C.trans (b.mono C.size);have t:=l.put2 (λk=>!f k);have o:=N.far (w.heap.size+1) 2 (Ys λk=>!f k) (by omega);have r:=L.trans (Y6 w.heap.size (w.heap.size+1) 2 (by omega) (Ys λk=>!f k) q 2);go_wp2_with (first|(with_reducible refine gst 251 ?_;refine Za rfl 251 _ _ rfl _ _ _ rfl rfl (by simpa[YW]using l.setFree) (by simpa[YW]using YI) (Zj (XF _)) ?_)|(with_reducible refine lP rfl t.at_ ?_)|(with_reducible refine sP rfl rfl o.free ?_));have j:=(o.put 1 k0 (λk=>!f k) 0 0 fa).load;refine Zr (v:=.tuple #[.agg (YX 1 k0 (λk=>!f k) 0 0 fa).toArray,I6 ((k:Int)+1),.bool true]) (YM Tryz.results212 (by simp) j (by simp) (by simp)) rfl ?_;rw[T.out,g.out];exact⟨_,_,_,_,_,_,rfl,r.trans (Y6 _ _ 0 (Zg _) _ _ _),λ_=>⟨rfl,rfl,rfl,rfl,rfl,λh=>absurd h (by decide)⟩⟩
   have y:Hid (R=if (Pg.readItem (Y7 s) k).ok then Pg.setLoop (Y7 s) s.size ((k0:Int)+2) u (Pg.readItem (Y7 s) k).n (if (Pg.readItem (Y7 s) k).hi<(Pg.readItem (Y7 s) k).lo/\fa=-1 then (k:Int) else fa) (Pg.withF f (Pg.readItem (Y7 s) k).lo (Pg.readItem (Y7 s) k).hi) else ⟨(Pg.readItem (Y7 s) k).n,false,f,fa⟩):=by show _=_;rw[A.out,Pg.setLoop,if_pos D,if_neg m]
   have H:=Pg.readItem_bd (Y7 s) k (Nw s);obtain⟨ao,aa,P⟩:=H;have K:=hyd P;clear A P;have G:((s[k].toNat:Int)==93)=false\/(((s[k].toNat:Int)==93)=true/\¬((k0:Int)+2)<(k:Int)):=by
    by_cases E:Y7 s (k:Int)=93
    ·right;exact⟨by rw[<-z];simpa using E,λh=>m ⟨E,h⟩⟩
    left;rw[<-z];simpa using E
   clear z m;rcases G with G|⟨G,af⟩
   all_goals
    go_wp2_with fail;refine(Ra s (k:Int) _ (by omega) (by omega)).mono ?_;rintro e W ⟨rfl,rfl⟩;generalize Pg.readItem (Y7 s) k=it at *;obtain⟨lo,hi,n,ok⟩:=it;cases ok
    ·go_wp2_with (first|(with_reducible refine lP rfl a.at_ ?_)|(with_reducible refine sP rfl rfl d.free ?_));have j:=(d.put 1 k0 f 0 0 fa).load;refine Zr (v:=.tuple #[.agg (YX 1 k0 f 0 0 fa).toArray,I6 n,.bool false]) (YM Tryz.results212 (by simp) j (by simp) (by simp)) rfl ?_;rw[T.out,y.out];exact⟨_,_,_,_,_,_,rfl,C.trans (Y6 _ _ 0 (Zg _) _ _ _),λh=>by cases h⟩
    have g1:(k:Int)<n:=(K rfl).1;have ag:n<=(k:Int)+9:=aa;clear K;obtain⟨Q,rfl⟩:=ZA (show 0<=n by omega);have aj:=a.c5;have al:=a.fr 260 (by omega);by_cases c:hi<lo/\fa=-1
    ·have g:Hid (R=Pg.setLoop (Y7 s) s.size ((k0:Int)+2) u Q k (Pg.withF f lo hi)):=by show _=_;rw[y.out];simp only[if_pos c,if_true]
     obtain⟨ak,X⟩:=c;subst X;clear y;have F:=a.put5 (k:Int);have O:=d.far1 (w.heap.size+1) 260 (I6 (k:Int)) (by omega);have M:=C.trans ((Zk w.heap.size W).setCell (p:=(a_ (w.heap.size+1) 260)) (by simp) (I6 (k:Int)));go_wp2_with (first|(with_reducible refine gld 251 ?_;refine Zb rfl 251 _ rfl _ _ rfl _ _ F.set u_c rfl (by rw[YW];exact YI) ?_));refine(Wm f lo hi _).mono ?_;rintro e q ⟨rfl,b⟩;have l:=F.below F.lt b;have N:=O.below O.lt b;have L:=M.trans (b.mono M.size);have t:=l.put2 (Pg.withF f lo hi);have o:=N.far (w.heap.size+1) 2 (Ys (Pg.withF f lo hi)) (by omega);have r:=L.trans (Y6 w.heap.size (w.heap.size+1) 2 (by omega) (Ys (Pg.withF f lo hi)) q 2);go_wp2_with (first|(with_reducible refine gst 251 ?_;refine Za rfl 251 _ _ rfl _ _ _ rfl rfl (by simpa[YW]using l.setFree) (by simpa[YW]using YI) (Zj (XF _)) ?_));go_roundw
     ·exact⟨u,Q,k,_,rfl,by omega,by omega,by omega,by omega,o,t,r,g⟩
     simp[intOf];omega
    have g:Hid (R=Pg.setLoop (Y7 s) s.size ((k0:Int)+2) u Q fa (Pg.withF f lo hi)):=by show _=_;rw[y.out];simp only[if_neg c,if_true]
    clear y;have hS:∀q,Bl W q->(YF w.heap.size 0 0 (λ_=>false) 0 0 0 (q.setCells (w.heap.size+1) 2 (Ys (Pg.withF f lo hi)))/\YF (w.heap.size+1) 1 k0 (Pg.withF f lo hi) 0 0 fa (q.setCells (w.heap.size+1) 2 (Ys (Pg.withF f lo hi)))/\Bl w (q.setCells (w.heap.size+1) 2 (Ys (Pg.withF f lo hi)))):=λq b=>
     ⟨(d.below d.lt b).far (w.heap.size+1) 2 _ (by omega),(a.below a.lt b).put2 _,(C.trans (b.mono C.size)).trans (Y6 w.heap.size (w.heap.size+1) 2 (by omega) _ q 2)⟩
    have HS:Hid _:=hS;clear hS;by_cases Z:hi<lo
    ·have am:(fa==-1)=false:=by rw[beq_eq_false_iff_ne];intro h;exact c ⟨Z,h⟩
     clear c;go_wp2_with (first|(with_reducible refine gld 251 ?_;refine Zb rfl 251 _ rfl _ _ rfl _ _ a.set u_c rfl (by rw[YW];exact YI) ?_));refine(Wm f lo hi _).mono ?_;rintro e q ⟨rfl,b⟩;obtain⟨o,t,r⟩:=HS.out q b;have l:=a.below a.lt b;go_wp2_with (first|(with_reducible refine gst 251 ?_;refine Za rfl 251 _ _ rfl _ _ _ rfl rfl (by simpa[YW]using l.setFree) (by simpa[YW]using YI) (Zj (XF _)) ?_));go_roundw
     ·exact⟨u,Q,fa,_,rfl,by omega,by omega,by omega,by omega,o,t,r,g⟩
     simp[intOf];omega
    clear c;go_wp2_with (first|(with_reducible refine gld 251 ?_;refine Zb rfl 251 _ rfl _ _ rfl _ _ a.set u_c rfl (by rw[YW];exact YI) ?_));refine(Wm f lo hi _).mono ?_;rintro e q ⟨rfl,b⟩;obtain⟨o,t,r⟩:=HS.out q b;have l:=a.below a.lt b;go_wp2_with (first|(with_reducible refine gst 251 ?_;refine Za rfl 251 _ _ rfl _ _ _ rfl rfl (by simpa[YW]using l.setFree) (by simpa[YW]using YI) (Zj (XF _)) ?_));go_roundw
    ·exact⟨u,Q,fa,_,rfl,by omega,by omega,by omega,by omega,o,t,r,g⟩
    simp[intOf];omega
  have Y:¬(k:Int)<(s.size:Int):=by omega
  have g:Hid (∃J S B,R=⟨J,false,S,B⟩/\J=(s.size:Int)):=by
   show ∃J S B,R=⟨J,false,S,B⟩/\J=(s.size:Int);rw[A.out];rcases u with _|u
   ·omega
   exact⟨_,_,_,by rw[Pg.setLoop,if_neg Y],rfl⟩
  clear A;go_wp2_with (first|(with_reducible refine lP rfl a.at_ ?_)|(with_reducible refine sP rfl rfl d.free ?_));have j:=(d.put 1 k0 f 0 0 fa).load;refine Zr (v:=.tuple #[.agg (YX 1 k0 f 0 0 fa).toArray,I6 (s.size:Int),.bool false]) (YM Tryz.results212 (by simp) j (by simp) (by simp)) rfl ?_;obtain⟨J,S,B,h1,h2⟩:=g.out;subst h2;rw[T.out,h1];exact⟨_,_,_,_,_,_,rfl,C.trans (Y6 _ _ 0 (Zg _) _ _ _),λh=>by cases h⟩
 have ai:(Y7 s ((k0:Int)+1)==94)=false:=by simpa using I
 obtain⟨R,V⟩:=nam (Pg.setLoop (Y7 s) s.size ((k0:Int)+1) (s.size+1) ((k0:Int)+1) (-1) (λ_=>false));have T:Hid (Pg.readSet (Y7 s) s.size k0=R):=by show _=_;rw[Pg.readSet,if_neg I,V];rfl
 have A:=hyd V;clear V I;go_wp2_with fail
 go_loopw [10] (λx w'=>∃(u k:Nat) (fa:Int) (f:N_),x=I6 k/\k0+1<=k/\s.size<u+k/\1<=u/\k<=60/\YF w.heap.size 0 0 (λ_=>false) 0 0 0 w'/\YF (w.heap.size+1) 1 k0 f 0 0 fa w'/\Bl w w'/\Hid (R=Pg.setLoop (Y7 s) s.size ((k0:Int)+1) u k fa f)) (λx _=>70-(intOf x).toNat)
 ·exact⟨s.size+1,k0+1,-1,λ_=>false,by go_num,by omega,by omega,by omega,by omega,d,a,C,A⟩
 clear d a C A;obtain⟨u,k,fa,f,rfl,ap,av,au,ah,d,a,C,A⟩:=hrel;by_cases ab:k<s.size
 ·rcases u with _|u
  ·omega
  have z:Y7 s (k:Int)=(s[k].toNat:Int):=by
   have:=Lf (s:=s) (i:=(k:Int)) (by simpa using ab) (by omega);simpa using this
  have D:(k:Int)<(s.size:Int):=by omega
  by_cases m:Y7 s (k:Int)=93/\((k0:Int)+1)<(k:Int)
  ·have ae:((s[k].toNat:Int)==93)=true:=by rw[<-z];simpa using m.1
   have an:=m.2;have g:Hid (R=⟨(k:Int)+1,true,f,fa⟩):=by show _=_;rw[A.out,Pg.setLoop,if_pos D,if_pos m]
   clear A z m;go_wp2_with (first|(with_reducible refine lP rfl a.at_ ?_)|(with_reducible refine sP rfl rfl d.free ?_));have j:=(d.put 1 k0 f 0 0 fa).load;refine Zr (v:=.tuple #[.agg (YX 1 k0 f 0 0 fa).toArray,I6 ((k:Int)+1),.bool true]) (YM Tryz.results212 (by simp) j (by simp) (by simp)) rfl ?_;rw[T.out,g.out];exact⟨_,_,_,_,_,_,rfl,C.trans (Y6 _ _ 0 (Zg _) _ _ _),λ_=>⟨rfl,rfl,rfl,rfl,rfl,λh=>absurd h (by decide)⟩⟩
  have y:Hid (R=if (Pg.readItem (Y7 s) k).ok then Pg.setLoop (Y7 s) s.size ((k0:Int)+1) u (Pg.readItem (Y7 s) k).n (if (Pg.readItem (Y7 s) k).hi<(Pg.readItem (Y7 s) k).lo/\fa=-1 then (k:Int) else fa) (Pg.withF f (Pg.readItem (Y7 s) k).lo (Pg.readItem (Y7 s) k).hi) else ⟨(Pg.readItem (Y7 s) k).n,false,f,fa⟩):=by show _=_;rw[A.out,Pg.setLoop,if_pos D,if_neg m]
  have H:=Pg.readItem_bd (Y7 s) k (Nw s);obtain⟨ao,aa,P⟩:=H;have K:=hyd P;clear A P;have G:((s[k].toNat:Int)==93)=false\/(((s[k].toNat:Int)==93)=true/\¬((k0:Int)+1)<(k:Int)):=by
   by_cases E:Y7 s (k:Int)=93
   ·right;exact⟨by rw[<-z];simpa using E,λh=>m ⟨E,h⟩⟩
   left;rw[<-z];simpa using E
  clear z m;rcases G with G|⟨G,af⟩
  all_goals
   go_wp2_with fail;refine(Ra s (k:Int) _ (by omega) (by omega)).mono ?_;rintro e W ⟨rfl,rfl⟩;generalize Pg.readItem (Y7 s) k=it at *;obtain⟨lo,hi,n,ok⟩:=it;cases ok
   ·go_wp2_with (first|(with_reducible refine lP rfl a.at_ ?_)|(with_reducible refine sP rfl rfl d.free ?_));have j:=(d.put 1 k0 f 0 0 fa).load;refine Zr (v:=.tuple #[.agg (YX 1 k0 f 0 0 fa).toArray,I6 n,.bool false]) (YM Tryz.results212 (by simp) j (by simp) (by simp)) rfl ?_;rw[T.out,y.out];exact⟨_,_,_,_,_,_,rfl,C.trans (Y6 _ _ 0 (Zg _) _ _ _),λh=>by cases h⟩
   have g1:(k:Int)<n:=(K rfl).1;have ag:n<=(k:Int)+9:=aa;clear K;obtain⟨Q,rfl⟩:=ZA (show 0<=n by omega);have aj:=a.c5;have al:=a.fr 260 (by omega);by_cases c:hi<lo/\fa=-1
   ·have g:Hid (R=Pg.setLoop (Y7 s) s.size ((k0:Int)+1) u Q k (Pg.withF f lo hi)):=by show _=_;rw[y.out];simp only[if_pos c,if_true]
    obtain⟨ak,X⟩:=c;subst X;clear y;have F:=a.put5 (k:Int);have O:=d.far1 (w.heap.size+1) 260 (I6 (k:Int)) (by omega);have M:=C.trans ((Zk w.heap.size W).setCell (p:=(a_ (w.heap.size+1) 260)) (by simp) (I6 (k:Int)));go_wp2_with (first|(with_reducible refine gld 251 ?_;refine Zb rfl 251 _ rfl _ _ rfl _ _ F.set u_c rfl (by rw[YW];exact YI) ?_));refine(Wm f lo hi _).mono ?_;rintro e q ⟨rfl,b⟩;have l:=F.below F.lt b;have N:=O.below O.lt b;have L:=M.trans (b.mono M.size);have t:=l.put2 (Pg.withF f lo hi);have o:=N.far (w.heap.size+1) 2 (Ys (Pg.withF f lo hi)) (by omega);have r:=L.trans (Y6 w.heap.size (w.heap.size+1) 2 (by omega) (Ys (Pg.withF f lo hi)) q 2);go_wp2_with (first|(with_reducible refine gst 251 ?_;refine Za rfl 251 _ _ rfl _ _ _ rfl rfl (by simpa[YW]using l.setFree) (by simpa[YW]using YI) (Zj (XF _)) ?_));go_roundw
    ·exact⟨u,Q,k,_,rfl,by omega,by omega,by omega,by omega,o,t,r,g⟩
    simp[intOf];omega
   have g:Hid (R=Pg.setLoop (Y7 s) s.size ((k0:Int)+1) u Q fa (Pg.withF f lo hi)):=by show _=_;rw[y.out];simp only[if_neg c,if_true]
   clear y;have hS:∀q,Bl W q->(YF w.heap.size 0 0 (λ_=>false) 0 0 0 (q.setCells (w.heap.size+1) 2 (Ys (Pg.withF f lo hi)))/\YF (w.heap.size+1) 1 k0 (Pg.withF f lo hi) 0 0 fa (q.setCells (w.heap.size+1) 2 (Ys (Pg.withF f lo hi)))/\Bl w (q.setCells (w.heap.size+1) 2 (Ys (Pg.withF f lo hi)))):=λq b=>
    ⟨(d.below d.lt b).far (w.heap.size+1) 2 _ (by omega),(a.below a.lt b).put2 _,(C.trans (b.mono C.size)).trans (Y6 w.heap.size (w.heap.size+1) 2 (by omega) _ q 2)⟩
   have HS:Hid _:=hS;clear hS;by_cases Z:hi<lo
   ·have am:(fa==-1)=false:=by rw[beq_eq_false_iff_ne];intro h;exact c ⟨Z,h⟩
    clear c;go_wp2_with (first|(with_reducible refine gld 251 ?_;refine Zb rfl 251 _ rfl _ _ rfl _ _ a.set u_c rfl (by rw[YW];exact YI) ?_));refine(Wm f lo hi _).mono ?_;rintro e q ⟨rfl,b⟩;obtain⟨o,t,r⟩:=HS.out q b;have l:=a.below a.lt b;go_wp2_with (first|(with_reducible refine gst 251 ?_;refine Za rfl 251 _ _ rfl _ _ _ rfl rfl (by simpa[YW]using l.setFree) (by simpa[YW]using YI) (Zj (XF _)) ?_));go_roundw
    ·exact⟨u,Q,fa,_,rfl,by omega,by omega,by omega,by omega,o,t,r,g⟩
    simp[intOf];omega
   clear c;go_wp2_with (first|(with_reducible refine gld 251 ?_;refine Zb rfl 251 _ rfl _ _ rfl _ _ a.set u_c rfl (by rw[YW];exact YI) ?_));refine(Wm f lo hi _).mono ?_;rintro e q ⟨rfl,b⟩;obtain⟨o,t,r⟩:=HS.out q b;have l:=a.below a.lt b;go_wp2_with (first|(with_reducible refine gst 251 ?_;refine Za rfl 251 _ _ rfl _ _ _ rfl rfl (by simpa[YW]using l.setFree) (by simpa[YW]using YI) (Zj (XF _)) ?_));go_roundw
   ·exact⟨u,Q,fa,_,rfl,by omega,by omega,by omega,by omega,o,t,r,g⟩
   simp[intOf];omega
 have Y:¬(k:Int)<(s.size:Int):=by omega
 have g:Hid (∃J S B,R=⟨J,false,S,B⟩/\J=(s.size:Int)):=by
  show ∃J S B,R=⟨J,false,S,B⟩/\J=(s.size:Int);rw[A.out];rcases u with _|u
  ·omega
  exact⟨_,_,_,by rw[Pg.setLoop,if_neg Y],rfl⟩
 clear A;go_wp2_with (first|(with_reducible refine lP rfl a.at_ ?_)|(with_reducible refine sP rfl rfl d.free ?_));have j:=(d.put 1 k0 f 0 0 fa).load;refine Zr (v:=.tuple #[.agg (YX 1 k0 f 0 0 fa).toArray,I6 (s.size:Int),.bool false]) (YM Tryz.results212 (by simp) j (by simp) (by simp)) rfl ?_;obtain⟨J,S,B,h1,h2⟩:=g.out;subst h2;rw[T.out,h1];exact⟨_,_,_,_,_,_,rfl,C.trans (Y6 _ _ 0 (Zg _) _ _ _),λh=>by cases h⟩
theorem MX (s:ByteArray) (Z:Nat) (w:World) (hs:s.size<=40) (aa:Z<=40):
  Cp 206 #[.string s,I6 Z] w (Ie s w 1 Z (Pg.readPlace (Y7 s) s.size Z).n (Pg.readPlace (Y7 s) s.size Z).ok (Pg.readPlace (Y7 s) s.size Z).f 0 (Pg.readPlace (Y7 s) s.size Z).fa):=by
 have hz:=XP;have U:=SC;obtain⟨E,z⟩:=OQ w;have V:=z.store 1 Z (λ_=>false) 0 0 (-1);have g:=z.put 1 Z (λ_=>false) 0 0 (-1);have d:=E.far (w.heap.size+1) 0 (YX 1 Z (λ_=>false) 0 0 (-1)) (by omega);have x:Bl w (((w.alloc (Obj.cells (YX 0 0 (λ_=>false) 0 0 0).toArray 261)).alloc (Obj.cells (YX 0 0 (λ_=>false) 0 0 0).toArray 261)).setCells (w.heap.size+1) 0 (YX 1 Z (λ_=>false) 0 0 (-1))):=(((Zk _ _).alloc (Zg _) _).alloc (by simp) _).trans (Y6 _ _ 0 (by omega) _ _ _);clear E z;go_enter Tryz.func206,Tryz.ntmps206;go_wp2_with fail;clear V hz U;generalize (((w.alloc (Obj.cells (YX 0 0 (λ_=>false) 0 0 0).toArray 261)).alloc (Obj.cells (YX 0 0 (λ_=>false) 0 0 0).toArray 261)).setCells (w.heap.size+1) 0 (YX 1 Z (λ_=>false) 0 0 (-1)))=W at *;refine(YP s (Z:Int) _).mono ?_;rintro e W ⟨rfl,rfl⟩;by_cases c:Y7 s (Z:Int)=91
 ·have y:Hid (Pg.readPlace (Y7 s) s.size Z=Pg.readSet (Y7 s) s.size Z):=by show _=_;rw[Pg.readPlace,if_pos c]
  have P:(Y7 s (Z:Int)==91)=true:=by simpa using c
  clear c;go_wp2_with fail;refine(KK s Z _ hs aa).mono ?_;rintro e p ⟨J,M,f',K,L,B,rfl,a,I⟩;have N:Hid _:=I;clear I;have j:=d.below d.lt a;have i:=x.trans (a.mono x.size);go_wp2_with (first|(with_reducible refine sP rfl rfl j.free ?_));have b:=(j.put J M f' K L B).load;refine Zr (v:=.tuple #[.agg (YX J M f' K L B).toArray,I6 (Pg.readSet (Y7 s) s.size Z).n,.bool (Pg.readSet (Y7 s) s.size Z).ok]) (YM Tryz.results206 (by simp) b (by simp) (by simp)) rfl ?_;rw[y.out];exact⟨_,_,_,_,_,_,rfl,i.trans (Y6 _ _ 0 (Zg _) _ _ _),N.out⟩
 have P:(Y7 s (Z:Int)==91)=false:=by simpa using c
 by_cases l:Y7 s (Z:Int)=46
 ·have y:Hid (Pg.readPlace (Y7 s) s.size Z=⟨(Z:Int)+1,true,λk=>!(Pg.withF (λ_=>false) 10 10 k),-1⟩):=by show _=_;rw[Pg.readPlace,if_neg c,if_pos l]
  have O:(Y7 s (Z:Int)==46)=true:=by simpa using l
  have hz:=OZ;clear c l;go_wp2_with (first|(with_reducible refine gld 251 ?_;refine Zb rfl 251 _ rfl _ _ rfl _ _ g.set u_c rfl (by rw[YW];exact YI) ?_));refine(Wm _ _ _ _).mono ?_;rintro e p ⟨rfl,a⟩;have m:=g.below g.lt a;have j:=d.below d.lt a;have i:=x.trans (a.mono x.size);have Y:=Yb.boxed p (λ_=>false) 251;have D:=Y.there;have S:((p.alloc (Obj.cells (Ys λ_=>false).toArray 251)).setCells p.heap.size 0 (Ys (Pg.withF (λ_=>false) 10 10))).rangeAt p.heap.size 0 (Ys (Pg.withF (λ_=>false) 10 10)):=Zo _ _ _ _ (by rw[YW];exact D);have G:=(m.alloc (Obj.cells (Ys λ_=>false).toArray 251)).far p.heap.size 0 (Ys (Pg.withF (λ_=>false) 10 10)) (by have:=m.lt;omega);have F:=(j.alloc (Obj.cells (Ys λ_=>false).toArray 251)).far p.heap.size 0 (Ys (Pg.withF (λ_=>false) 10 10)) (by have:=j.lt;omega);have C:Bl w ((p.alloc (Obj.cells (Ys λ_=>false).toArray 251)).setCells p.heap.size 0 (Ys (Pg.withF (λ_=>false) 10 10))):=(i.alloc i.size _).trans (Y6 w.heap.size p.heap.size 0 i.size (Ys (Pg.withF (λ_=>false) 10 10)) _ 0);go_wp2_with (first|(with_reducible refine gst 251 ?_;refine Za rfl 251 _ _ rfl _ _ _ rfl rfl (by simpa[YW]using D) (by simpa[YW]using YI) (Zj (XF _)) ?_)|(with_reducible refine gld 251 ?_;refine Zb rfl 251 _ rfl _ _ rfl _ _ S u_c rfl (by rw[YW];exact YI) ?_));refine(Oc _ _).mono ?_;rintro e X ⟨rfl,A⟩;have H:=G.below G.lt A;have T:=F.below F.lt A;have R:=C.trans (A.mono C.size);have u:=H.put2 (λk=>!(Pg.withF (λ_=>false) 10 10 k));have o:=T.far (w.heap.size+1) 2 (Ys (λk=>!(Pg.withF (λ_=>false) 10 10 k))) (by omega);have t:=R.trans (Y6 w.heap.size (w.heap.size+1) 2 (by omega) (Ys (λk=>!(Pg.withF (λ_=>false) 10 10 k))) X 2);clear hz;go_wp2_with (first|(with_reducible refine gst 251 ?_;refine Za rfl 251 _ _ rfl _ _ _ rfl rfl (by simpa[YW]using H.setFree) (by simpa[YW]using YI) (Zj (XF _)) ?_)|(with_reducible refine lP rfl u.at_ ?_)|(with_reducible refine sP rfl rfl o.free ?_));have b:=(o.put 1 Z (λk=>!(Pg.withF (λ_=>false) 10 10 k)) 0 0 (-1)).load;refine Zr (v:=.tuple #[.agg (YX 1 Z (λk=>!(Pg.withF (λ_=>false) 10 10 k)) 0 0 (-1)).toArray,I6 ((Z:Int)+1),.bool true]) (YM Tryz.results206 (by simp) b (by simp) (by simp)) rfl ?_;rw[y.out];exact⟨_,_,_,_,_,_,rfl,t.trans (Y6 _ _ 0 (Zg _) _ _ _),λ_=>⟨rfl,rfl,rfl,rfl,rfl,λh=>absurd h (by decide)⟩⟩
 have O:(Y7 s (Z:Int)==46)=false:=by simpa using l
 by_cases q:Y7 s (Z:Int)=92
 ·have y:Hid (Pg.readPlace (Y7 s) s.size Z=⟨(Pg.readEscape (Y7 s) Z).n,(Pg.readEscape (Y7 s) Z).ok,Pg.withF (λ_=>false) (Pg.readEscape (Y7 s) Z).v (Pg.readEscape (Y7 s) Z).v,-1⟩):=by show _=_;rw[Pg.readPlace,if_neg c,if_neg l,if_pos q]
  have Q:(Y7 s (Z:Int)==92)=true:=by simpa using q
  clear c l q;go_wp2_with fail;refine(Tj s (Z:Int) _ (by omega) (by omega)).mono ?_;rintro e W ⟨rfl,rfl⟩;generalize Pg.readEscape (Y7 s) Z=r at *;obtain⟨v,n,ok⟩:=r;cases ok
  ·go_wp2_with (first|(with_reducible refine lP rfl g.at_ ?_)|(with_reducible refine sP rfl rfl d.free ?_));have b:=(d.put 1 Z (λ_=>false) 0 0 (-1)).load;refine Zr (v:=.tuple #[.agg (YX 1 Z (λ_=>false) 0 0 (-1)).toArray,I6 n,.bool false]) (YM Tryz.results206 (by simp) b (by simp) (by simp)) rfl ?_;rw[y.out];exact⟨_,_,_,_,_,_,rfl,x.trans (Y6 _ _ 0 (Zg _) _ _ _),λh=>by cases h⟩
  go_wp2_with (first|(with_reducible refine gld 251 ?_;refine Zb rfl 251 _ rfl _ _ rfl _ _ g.set u_c rfl (by rw[YW];exact YI) ?_));refine(Wm _ _ _ _).mono ?_;rintro e p ⟨rfl,a⟩;have m:=g.below g.lt a;have j:=d.below d.lt a;have i:=x.trans (a.mono x.size);have u:=m.put2 (Pg.withF (λ_=>false) v v);have o:=j.far (w.heap.size+1) 2 (Ys (Pg.withF (λ_=>false) v v)) (by omega);have t:=i.trans (Y6 w.heap.size (w.heap.size+1) 2 (by omega) (Ys (Pg.withF (λ_=>false) v v)) p 2);go_wp2_with (first|(with_reducible refine gst 251 ?_;refine Za rfl 251 _ _ rfl _ _ _ rfl rfl (by simpa[YW]using m.setFree) (by simpa[YW]using YI) (Zj (XF _)) ?_)|(with_reducible refine lP rfl u.at_ ?_)|(with_reducible refine sP rfl rfl o.free ?_));have b:=(o.put 1 Z (Pg.withF (λ_=>false) v v) 0 0 (-1)).load;refine Zr (v:=.tuple #[.agg (YX 1 Z (Pg.withF (λ_=>false) v v) 0 0 (-1)).toArray,I6 n,.bool true]) (YM Tryz.results206 (by simp) b (by simp) (by simp)) rfl ?_;rw[y.out];exact⟨_,_,_,_,_,_,rfl,t.trans (Y6 _ _ 0 (Zg _) _ _ _),λ_=>⟨rfl,rfl,rfl,rfl,rfl,λh=>absurd h (by decide)⟩⟩
 have Q:(Y7 s (Z:Int)==92)=false:=by simpa using q
 have y:Hid (Pg.readPlace (Y7 s) s.size Z=⟨(Z:Int)+1,true,Pg.withF (λ_=>false) (Y7 s Z) (Y7 s Z),-1⟩):=by show _=_;rw[Pg.readPlace,if_neg c,if_neg l,if_neg q]
 clear c l q;go_wp2_with (first|(with_reducible refine gld 251 ?_;refine Zb rfl 251 _ rfl _ _ rfl _ _ g.set u_c rfl (by rw[YW];exact YI) ?_));refine(Wm _ _ _ _).mono ?_;rintro e p ⟨rfl,a⟩;have m:=g.below g.lt a;have j:=d.below d.lt a;have i:=x.trans (a.mono x.size);have u:=m.put2 (Pg.withF (λ_=>false) (Y7 s Z) (Y7 s Z));have o:=j.far (w.heap.size+1) 2 (Ys (Pg.withF (λ_=>false) (Y7 s Z) (Y7 s Z))) (by omega);have t:=i.trans (Y6 w.heap.size (w.heap.size+1) 2 (by omega) (Ys (Pg.withF (λ_=>false) (Y7 s Z) (Y7 s Z))) p 2);go_wp2_with (first|(with_reducible refine gst 251 ?_;refine Za rfl 251 _ _ rfl _ _ _ rfl rfl (by simpa[YW]using m.setFree) (by simpa[YW]using YI) (Zj (XF _)) ?_)|(with_reducible refine lP rfl u.at_ ?_)|(with_reducible refine sP rfl rfl o.free ?_));have b:=(o.put 1 Z (Pg.withF (λ_=>false) (Y7 s Z) (Y7 s Z)) 0 0 (-1)).load;refine Zr (v:=.tuple #[.agg (YX 1 Z (Pg.withF (λ_=>false) (Y7 s Z) (Y7 s Z)) 0 0 (-1)).toArray,I6 ((Z:Int)+1),.bool true]) (YM Tryz.results206 (by simp) b (by simp) (by simp)) rfl ?_;rw[y.out];exact⟨_,_,_,_,_,_,rfl,t.trans (Y6 _ _ 0 (Zg _) _ _ _),λ_=>⟨rfl,rfl,rfl,rfl,rfl,λh=>absurd h (by decide)⟩⟩
theorem LM (s:ByteArray) (J:Nat) (kd:Int) (w:World) (hs:s.size<=40) (Y:J<=40):
  Cp 195 #[.string s,I6 J,I6 kd] w (Ie s w kd J (Pg.readPart (Y7 s) s.size J kd).n (Pg.readPart (Y7 s) s.size J kd).ok (Pg.readPart (Y7 s) s.size J kd).f (Pg.readPart (Y7 s) s.size J kd).mo (Pg.readPart (Y7 s) s.size J kd).fa):=by
 have hz:=XP;have E:=SC;have b:=YF.boxed w 0 0 (λ_=>false) 0 0 0 261;have r:Bl w (w.alloc (Obj.cells (YX 0 0 (λ_=>false) 0 0 0).toArray 261)):=(Zk _ _).alloc (Zg _) _;by_cases c1:kd=1
 ·subst c1;have q:Hid (Pg.readPart (Y7 s) s.size J 1=⟨(Pg.readPlace (Y7 s) s.size J).n,(Pg.readPlace (Y7 s) s.size J).ok,(Pg.readPlace (Y7 s) s.size J).f,0,(Pg.readPlace (Y7 s) s.size J).fa⟩):=rfl;go_enter Tryz.func195,Tryz.ntmps195;go_wp2_with fail;refine(MX s J _ hs Y).mono ?_;rintro e x ⟨i,l,f',j,k,c,rfl,g,p⟩;have m:Hid _:=p;have d:=b.below b.lt g;have o:=r.trans (g.mono r.size);go_wp2_with (first|(with_reducible refine sP rfl rfl d.free ?_));have a:=(d.put i l f' j k c).load;refine Zr (v:=.tuple #[.agg (YX i l f' j k c).toArray,I6 (Pg.readPlace (Y7 s) s.size J).n,.bool (Pg.readPlace (Y7 s) s.size J).ok]) (YM Tryz.results195 (by simp) a (by simp) (by simp)) rfl ?_;rw[q.out];exact⟨_,_,_,_,_,_,rfl,o.trans (Y6 _ _ 0 (Zg _) _ _ _),m.out⟩
 have G:(kd==1)=false:=by simpa using c1
 by_cases t:kd=8
 ·subst t;have q:Hid (Pg.readPart (Y7 s) s.size J 8=⟨(Pg.readCount (Y7 s) J).n,(Pg.readCount (Y7 s) J).ok,λ_=>false,(Pg.readCount (Y7 s) J).v,Pg.countFalls (Y7 s) J⟩):=rfl;go_enter Tryz.func195,Tryz.ntmps195;go_wp2_with fail;refine(MV s (J:Int) _ (by omega) (by omega)).mono ?_;rintro e x ⟨i,l,f',j,k,c,rfl,g,p⟩;have m:Hid _:=p;have d:=b.below b.lt g;have o:=r.trans (g.mono r.size);go_wp2_with (first|(with_reducible refine sP rfl rfl d.free ?_));have a:=(d.put i l f' j k c).load;refine Zr (v:=.tuple #[.agg (YX i l f' j k c).toArray,I6 (Pg.readCount (Y7 s) J).n,.bool (Pg.readCount (Y7 s) J).ok]) (YM Tryz.results195 (by simp) a (by simp) (by simp)) rfl ?_;rw[q.out];exact⟨_,_,_,_,_,_,rfl,o.trans (Y6 _ _ 0 (Zg _) _ _ _),λh=>by
   obtain⟨y,z,A,B,C,D⟩:=m.out h;exact⟨y,z,A,B,C,λ_=>D trivial⟩⟩
 have H:(kd==8)=false:=by simpa using t
 have q:Hid (Pg.readPart (Y7 s) s.size J kd=⟨(J:Int)+1,true,λ_=>false,0,-1⟩):=by show _=_;rw[Pg.readPart,if_neg c1,if_neg t]
 have F:=b.store kd J (λ_=>false) 0 0 (-1);have u:=hyd t;go_enter Tryz.func195,Tryz.ntmps195;go_wp2_with fail;have a:=(b.put kd J (λ_=>false) 0 0 (-1)).load;refine Zr (v:=.tuple #[.agg (YX kd J (λ_=>false) 0 0 (-1)).toArray,I6 ((J:Int)+1),.bool true]) (YM Tryz.results195 (by simp) a (by simp) (by simp)) rfl ?_;rw[q.out];exact⟨_,_,_,_,_,_,rfl,r.trans (Y6 _ _ 0 (Zg _) _ _ _),λ_=>⟨rfl,rfl,rfl,rfl,rfl,λh=>absurd h u.out⟩⟩
end Go.Proofs.YtoaaklhpmhjhkaaGreat
