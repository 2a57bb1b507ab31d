import Derived.Test.YtoaaklhpmhjhkaaGreatC28
import Derived.Test.YtoaaklhpmhjhkaaGreatC31
set_option maxRecDepth 100000
set_option maxHeartbeats 4000000
set_option linter.all false
namespace Go.Proofs.YtoaaklhpmhjhkaaGreat
open Go.RowKit
open Bm Bu
def Tz (e:Int) (r:Nat) (L:Nat->List Int):ByteArray:=if e=0 then ⟨(R0 (WY (E4 r L))).toArray⟩ else ⟨#[]⟩
def Ic (e:Int) (r:Nat) (L:Nat->List Int) (w:World) (en:Ending) (w':World):Prop:=Below w.heap.size w w'/\en=.returned (.tuple #[.string (Tz e r L),.int .i64 e])
theorem Iq {r:Nat}{L:Nat->List Int} (h:∀i,(L i).length<=1000000):La (E4 r L):=⟨by show(L 1).length+3<=_;have:=h 1;omega,by show(L 2).length+3<=_;have:=h 2;omega,by show(L 3).length+3<=_;have:=h 3;omega⟩
theorem Lv (ad:Option Addr) (n cap:Nat) (f:Nat->ByteArray) (e:Int) (r:Nat) (L:Nat->List Int) (w:World) (hO:Lb n f e r L) (hG:e=0->BW n r L) (had:FK ad n f w):
  Cp 13 #[.slice ad n cap] w (Ic e r L w):=by
 have hz:=WV;have Y:=UO;have D:=hyd (hO.2.2.1 _ (Or.inr rfl) ad cap w had);have F:=hyd hO.1;clear hO had;go_enter Tryz.func13,Tryz.ntmps13;go_wp2_with fail;refine D.out.mono ?_;rintro en w1 ⟨x,vv,rfl,v,_⟩;obtain⟨T,c1,I,O⟩:=(v 1 (by omega) (by omega)).il;obtain⟨U,c2,e2,P⟩:=(v 2 (by omega) (by omega)).il;obtain⟨V,c3,J,Q⟩:=(v 3 (by omega) (by omega)).il;obtain⟨M,l⟩:=nam (E4 r L);obtain⟨A,z⟩:∃A:Ux,A=⟨T,c1,U,c2,V,c3⟩:=⟨_,rfl⟩;have K:triC r vv=A.cells M:=by unfold triC;rw[I,e2,J,z,l];rfl
 have k:QH M A w1:=by rw[z,l];exact⟨O,P,Q⟩
 have m:La M:=by rw[l];exact Iq F.out
 rw[K];obtain⟨G,a⟩:=nam (w1.alloc (.cells (A.cells M) 25));have y:Bl w1 G:=by rw[a];exact Yg _ _
 have j:WD w1.heap.size M A G:=by rw[a];exact WD.boxed M A w1 _
 have g:=x.trans (y.mono x.size);have c:=hyd g;by_cases o:e=0
 ·have HS:Hid (WO M):=by show WO M;rw[l];exact Iz (hG o)
  have i:Hid (Tz e r L=⟨(R0 (WY M)).toArray⟩):=by show _=_;unfold Tz;rw[if_pos o,l]
  have s:=hyd (Og w1.heap.size M A G m j (k.below y));subst o;unfold Ux.cells at a ⊢;clear K k m l z j y g I e2 J O P Q v hG x D F;go_wp2_with fail;rw[<-a];clear a;refine s.out.mono ?_;rintro en w3 ⟨C,h⟩;rcases h with ⟨N,_⟩|⟨_,g1,g2,vb,vd,vc,vn,rfl,S⟩
  ·exact absurd HS N
  obtain⟨B,t,u⟩:=S.tb;rw[t];obtain⟨H,b⟩:=nam (w3.alloc (.cells (B.cells (WY M)) 83));have B4:Bl w3 H:=by rw[b];exact Yg _ _
  have d:UP w3.heap.size (WY M) B H:=by rw[b];exact UP.boxed _ _ _ _
  have q:=hyd (Pv w3.heap.size (WY M) B H (KB HS) d (u.below B4));have p:=hyd (c.out.trans ((C.trans (B4.mono C.size)).mono c.out.size));unfold Pc.cells at b ⊢;clear d B4 C S t u s c;go_wp2_with fail;rw[<-b];clear b;refine q.out.mono ?_;rintro en w5 ⟨R,h⟩;rcases h with ⟨_,rfl⟩|⟨W,_⟩
  ·have E:=hyd (p.out.trans (R.mono p.out.size));clear R q;go_wp2_with fail;go_ret2;exact⟨E.out,by rw[i.out];rfl⟩
  exact absurd (Qs HS) W
 have Z:(e==0)=false:=by simpa using o
 have X:(e != 0)=true:=by simp[o]
 have i:Hid (Tz e r L=⟨#[]⟩):=by show _=_;unfold Tz;rw[if_neg o]
 unfold Ux.cells at a ⊢;clear K k m l z j y g I e2 J O P Q v hG x D F;go_wp2_with fail;rw[<-a];go_ret2;exact⟨c.out,by rw[i.out];rfl⟩
theorem Jg (ad:Option Addr) (n cap:Nat) (f:Nat->ByteArray) (e:Int) (r:Nat) (L:Nat->List Int) (w:World) (hO:Lb n f e r L) (hG:e=0->BW n r L) (had:FK ad n f w):
  Cp 33 #[.slice ad n cap] w (Ic e r L w):=by
 have hz:=WV;have Z:=UO;have J:=hyd (hO.2.2.2 ad cap w had);have N:=hyd hO.1;clear hO had;go_enter Tryz.func33,Tryz.ntmps33;go_wp2_with fail;refine J.out.mono ?_;rintro en w1 ⟨E,a,c,rfl,D⟩;obtain⟨M,u⟩:=nam (E4 r L);obtain⟨A,G⟩:∃A:Ux,A=⟨a 1,c 1,a 2,c 2,a 3,c 3⟩:=⟨_,rfl⟩;have T:triC r (λi=>.slice (a i) (L i).length (c i))=A.cells M:=by unfold triC;rw[G,u];rfl
 have t:QH M A w1:=by rw[G,u];exact⟨D 1 (by omega) (by omega),D 2 (by omega) (by omega),D 3 (by omega) (by omega)⟩
 have v:La M:=by rw[u];exact Iq N.out
 rw[T];obtain⟨O,b⟩:=nam (w1.alloc (.cells (A.cells M) 25));have F:Bl w1 O:=by rw[b];exact Yg _ _
 have z:WD w1.heap.size M A O:=by rw[b];exact WD.boxed M A w1 _
 have j:=E.trans (F.mono E.size);have g:=hyd j;by_cases x:e=0
 ·have HS:Hid (WO M):=by show WO M;rw[u];exact Iz (hG x)
  have l:Hid (Tz e r L=⟨(R0 (WY M)).toArray⟩):=by show _=_;unfold Tz;rw[if_pos x,u]
  have m:=hyd (KP M A O v (t.below F));subst x;obtain⟨o,p,q,s⟩:=z;rw[b]at o p q s;unfold Ux.cells at b m o p q s ⊢;clear T t v u G F j D hG E J N;go_wp2_with fail;rw[<-b];clear b o p q s;refine m.out.mono ?_;rintro en w3 ⟨I,h⟩;rcases h with ⟨U,_⟩|⟨_,H,rfl,W⟩
  ·exact absurd HS U
  have C:=W.in_;obtain⟨P,d⟩:=nam (w3.alloc (.cells (H.cells (WY M)) 83));have B4:Bl w3 P:=by rw[d];exact Yg _ _
  have B:UP w3.heap.size (WY M) H P:=by rw[d];exact UP.boxed _ _ _ _
  have k:=hyd (M2 (WY M) H P (KB HS) (C.below B4));have y:=hyd (g.out.trans ((I.trans (B4.mono I.size)).mono g.out.size));obtain⟨o,p,q,s,Q,R,S⟩:=B;rw[d]at o p q s Q R S;unfold Pc.cells at d k o p q s Q R S ⊢;clear B4 I W C m g;go_wp2_with fail;rw[<-d];clear d o p q s Q R S;refine k.out.mono ?_;rintro en w5 ⟨V,h⟩;rcases h with ⟨_,rfl⟩|⟨X,_⟩
  ·have K:=hyd (y.out.trans (V.mono y.out.size));clear V k;go_wp2_with fail;go_ret2;exact⟨K.out,by rw[l.out];rfl⟩
  exact absurd (Qs HS) X
 have hq:(e==0)=false:=by simpa using x
 have Y:(e != 0)=true:=by simp[x]
 have l:Hid (Tz e r L=⟨#[]⟩):=by show _=_;unfold Tz;rw[if_neg x]
 unfold Ux.cells at b ⊢;clear T t v u G z F j D hG E J N;go_wp2_with fail;rw[<-b];go_ret2;exact⟨g.out,by rw[l.out];rfl⟩
theorem ML (ad:Option Addr) (n cap:Nat) (f:Nat->ByteArray) (e:Int) (r:Nat) (L:Nat->List Int) (w:World) (hn:n+3<=17592186044416) (hO:Lb n f e r L) (Z:e=0->BW n r L) (Y:FK ad n f w):
  Cp 12 #[.slice ad n cap] w λen w'=>en=.returned (.tuple #[.string (Tz e r L),.bool true])/\Bl w w':=by
 have y:Hid (Cp 21 #[.slice ad n cap] w λe w'=>e=.returned (.slice (some (a_ w.heap.size 0)) n (n+3))/\Vn w.heap.size (VC f n) (n+3) w'/\Bl w w'):=by
  show Calls _ _ _ _ _;by_cases h1:1<=n
  ·obtain⟨b,h,rfl,G,E⟩:=Y h1;exact Ka b h n cap f w hn G E
  have:n=0:=by omega
  subst this;exact J8 ad cap f w
 have z:=hyd hO;have x:=hyd Z;have j:=hyd Y;have H:(e==e)=true:=by simp
 obtain⟨F,t⟩:=nam (Tz e r L);have v:=hyd t;have I:(F.toList==F.toList)=true:=by simp
 rw[<-t];clear hO Y Z t;go_enter Tryz.func12,Tryz.ntmps12;go_wp2_with fail;refine y.out.mono ?_;rintro en w1 ⟨rfl,l,g⟩;have C:w.heap.size<w1.heap.size:=Ze w1 _ (l 0 (by omega)).1;have c:=hyd (j.out.below g);have d:FK (some (a_ w.heap.size 0)) n f w1:=λ_=>⟨_,0,rfl,C,λi o=>by have:=l.srow (m:=n) (by omega) i o;rw[this];simp[VC,o]⟩
 have A:Hid (Cp 13 #[.slice (some (a_ w.heap.size 0)) n (n+3)] w1 (Ic e r L w1)):=Lv _ _ _ f e r L w1 z.out x.out d;have q:Hid (Vn w.heap.size (VC f n) (n+3) w1/\Bl w w1):=⟨l,g⟩;clear l g y d;go_wp2_with fail;refine A.out.mono ?_;rintro en w2 ⟨k,rfl⟩;rw[<-v.out];have B:Hid (Cp 33 #[.slice ad n cap] w2 (Ic e r L w2)):=Jg _ _ _ f e r L w2 z.out x.out (c.out.below k);clear A;go_wp2_with fail;refine B.out.mono ?_;rintro en w3 ⟨u,rfl⟩;rw[<-v.out];have a:Bl w1 w3:=k.trans (u.mono k.size);have p:Hid (Bl w w3):=q.out.2.trans (a.mono q.out.2.size);have s:Hid (Cp 23 #[.slice (some (a_ w.heap.size 0)) n (n+3),.slice ad n cap] w3 λe w'=>e=.returned (.bool true)/\w'=w3):=by
  refine Hj w.heap.size n cap ad f w3 hn (q.out.1.below C a) (λi o=>?_);obtain⟨b,h,h2,_,D⟩:=(c.out.below a) (by omega);exact⟨b,h,h2,D i o⟩
 clear B k u a;go_wp2_with fail;refine s.out.mono ?_;rintro en J ⟨rfl,rfl⟩;go_wp2;go_ret2;exact⟨rfl,p⟩
theorem RY (ad:Option Addr) (n cap:Nat) (f:Nat->ByteArray) (w:World) (H:n+3<=17592186044416) (z:∀i,i<n->(f i).size<=maxLen) (y:FK ad n f w):
  Cp 4 #[.slice ad n cap] w λe w'=>e=.returned (.bool true)/\Bl w w':=by
 obtain⟨e,r,L,g,d⟩:=CE n f (by unfold maxLen;omega) z;have a:=hyd (ML ad n cap f e r L w H g d y);obtain⟨F,c⟩:=nam (Tz e r L);rw[<-c]at a;go_enter Tryz.func4,Tryz.ntmps4;go_wp2_with fail;refine a.out.mono ?_;rintro en w1 ⟨rfl,b⟩;go_wp2;go_ret;exact⟨rfl,b⟩
end Go.Proofs.YtoaaklhpmhjhkaaGreat
