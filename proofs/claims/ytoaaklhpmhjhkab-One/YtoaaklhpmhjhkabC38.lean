import Derived.Test.YtoaaklhpmhjhkabC35
import Derived.Test.YtoaaklhpmhjhkabC37
set_option maxRecDepth 100000
set_option maxHeartbeats 4000000
set_option linter.all false
namespace Go.Proofs.Ytoaaklhpmhjhkab
open Go.RowKit
open Bm
def JE (M:Mc):ByteArray:=⟨(Q8 (Wz M)).toArray⟩
def Tt (es:Nat->Rx) (n:Nat) (s:ByteArray):Prop:=YR es n<=96/\∃(ls:List (Nat->Bool)) (t:List Int) (A:Aut) (kf:Nat->Int),A=Yb ls t (TV es n).length/\Vz (Us es n) (Xx es n) (TV es n) ls.length 0 ls t/\(∀b,b<256->kf b=If es n b) /\
 GR es n A (Xy (Cl (YU A (alB A)) (cnt (alB A) A.N)) kf 256) (Xp A (alB A) (cnt (alB A) A.N)) (WY (YU A (alB A)) (reps (Cl (YU A (alB A)) (cnt (alB A) A.N)) A.K) (cnt (alB A) A.N)) /\
 s=JE (Xn n (Xy (Cl (YU A (alB A)) (cnt (alB A) A.N)) kf 256) (Xp A (alB A) (cnt (alB A) A.N)) (WY (YU A (alB A)) (reps (Cl (YU A (alB A)) (cnt (alB A) A.N)) A.K) (cnt (alB A) A.N)))
variable {x y : List UInt8}{V d n : Nat}{es : Nat → Rx}
theorem LV {es':Nat->Rx} (hP:YR es n<=96) (hP':YR es' n<=96) (h:∀r,r<n->(es r).Lq=(es' r).Lq) (w:List Nat) (hw:∀b∈w,b<256):Ja es n w=Ja es' n w:=by
 refine UJ 8 0 (fun r _ _=>?_);have h1:=Oz es n hP r w;have h2:=Oz es' n hP' r w;have h3:r<n->((es r).Lg w<->(es' r).Lg w):=fun hr=>by
  have a:=Rx.lq_lg (es r) w;have b:=Rx.lq_lg (es' r) w;rw[h r hr]at a;exact⟨fun q=>(b.1 (a.2 ⟨q,hw⟩)).1,fun q=>(a.1 (b.2 ⟨q,hw⟩)).1⟩
 rw[Bool.eq_iff_iff,h1,h2];exact⟨fun⟨a,b⟩=>⟨a,(h3 a).1 b⟩,fun⟨a,b⟩=>⟨a,(h3 a).2 b⟩⟩
theorem JK {es':Nat->Rx}{s s':ByteArray} (h:∀r,r<n->(es r).Lq=(es' r).Lq) (g:Tt es n s) (g':Tt es' n s'):s=s':=by
 obtain⟨hP,ls,t,A,kf,a1,a2,a3,a4,a5⟩:=g;obtain⟨hP',ls',t',A',kf',b1,b2,b3,b4,b5⟩:=g';obtain⟨e1,e2,e3⟩:=IH a4.snd b4.snd (Mn a4) (Mn b4) (Ou a4) (Ou b4) (fun u hu=>by
  rw[Mo hP a2 a1 a3 a4 u hu,Mo hP' b2 b1 b3 b4 u hu];exact LV hP hP' h u hu)
 rw[a5,b5,e1,e2,e3]
theorem JF (M:Mc):(JE M).toList.isEmpty=false:=by
 rw[ByteArray.toList_eq];show(Q8 (Wz M)).toArray.toList.isEmpty=false;rw[List.toList_toArray,Q8,Ss];rfl
theorem Tt.ne {s:ByteArray} (h:Tt es n s):s.toList.isEmpty=false:=by
 obtain⟨_,_,_,_,_,_,_,_,_,rfl⟩:=h;exact JF _
theorem GZ (b off cap n:Nat) (f:Nat->ByteArray) (w:World) (h1:1<=n) (h8:n<=8) (hb:b<w.heap.size) (hm:∀i,i<n->(f i).size<=maxLen) (hr:MH b off f n w) (hok:∀j,j<n->(Pg.wrong (Y5 (f j)) (f j).size).1=0) (hsum:XV (fun j=>Ym (f j)) n<=6):
  Calls Try.prog 21 #[.slice (some ⟨b,off,none⟩) n cap] w fun en w'=>(∃s,en=.returned (.tuple #[.string s,.int .i64 0])/\Tt (fun j=>VM (f j)) n s)/\Below w.heap.size w w':=by
 have hz:=Tr;have hz2:=SK;have HB:=hyd (Lz b off cap n f w h1 h8 hb hm hr hok (by omega));obtain⟨es,hes⟩:∃es:Nat->Rx,es=fun j=>VM (f j):=⟨_,rfl⟩
 have hrd:∀j,j<n->(Pg.readParts (Y5 (f j)) (f j).size).ok=true:=fun j hj=>((Xf (f j)).2 (hok j hj)).2.2
 have hns:=Py es (fun j=>Ym (f j)) n (fun i hi=>by rw[hes];exact Tf (f i) (hrd i hi)) (by omega);have hP6:YR es n<=6:=by have:=hns.1;omega
 have hfu:∀k,k<n->(es k).Full:=fun k hk=>by rw[hes];exact Mx (f k) (hok k hk)
 rw[<-hes]at HB ⊢;have HP6:=hyd3 hP6 hns.2 hfu;clear hes hrd hns hP6 hfu hm hok hsum hr hb;go_enter Try.func21,Try.ntmps21;go_wp2_with fail;refine HB.out.mono ?_;rintro en w1 ⟨B1,hp⟩;clear HB;obtain⟨x1,x2⟩:=I3 HP6.out.1;rcases hp with ⟨_,hx⟩|⟨l,t,A0,hA0,hE,⟨hc,_⟩|⟨hc,vc,vl,vn,kf,rfl,hk,o1,o2,o3,_,_,_⟩⟩
 ·exact absurd hx x1
 ·exact absurd (by rw[hA0]at hc;exact hc) (x2 l t hE)
 have hMc:=G9 h1 h8 HP6.out.2.1 HP6.out.2.2 hE hA0 hc hk;obtain⟨s,hs⟩:=nam (JE (Xn n (Xy (Cl (YU A0 (alB A0)) (cnt (alB A0) A0.N)) kf 256) (Xp A0 (alB A0) (cnt (alB A0) A0.N)) (WY (YU A0 (alB A0)) (reps (Cl (YU A0 (alB A0)) (cnt (alB A0) A0.N)) A0.K) (cnt (alB A0) A0.N))));have HG:Hid (Tt es n s):=⟨HP6.out.2.1,l,t,A0,kf,hA0,hE,hk,hMc,hs⟩;have hSn:=hMc.snd;clear x1 x2;obtain⟨lc,hlc⟩:=nam (Xy (Cl (YU A0 (alB A0)) (cnt (alB A0) A0.N)) kf 256);obtain⟨ll,hll⟩:=nam (Xp A0 (alB A0) (cnt (alB A0) A0.N));obtain⟨lx,hlx⟩:=nam (WY (YU A0 (alB A0)) (reps (Cl (YU A0 (alB A0)) (cnt (alB A0) A0.N)) A0.K) (cnt (alB A0) A0.N));rw[<-hlc,<-hll,<-hlx]at hs hSn;rw[<-hlc]at o1;rw[<-hll]at o2;rw[<-hlx]at o3;clear hMc hE hA0 hc hk hlc hll hlx;obtain⟨a1,c1,e1,i1⟩:=o1.il;obtain⟨a2,c2,e2,i2⟩:=o2.il;obtain⟨a3,c3,e3,i3⟩:=o3.il;obtain⟨M,hM⟩:=nam (Xn n lc ll lx);obtain⟨A,hA⟩:∃A:Vj,A=⟨a1,c1,a2,c2,a3,c3⟩:=⟨_,rfl⟩;have eT:(#[.int .i64 n,vc,vl,vn]:Array Value)=A.cells M:=by rw[e1,e2,e3,hA,hM];rfl
 have hIn:SM M A w1:=by rw[hA,hM];exact⟨i1,i2,i3⟩
 rw[<-hM]at hs hSn;have hk1:=hSn.k1;have hl:=hSn.hd.2.1;have hsz:NC M:=by
  have h3:M.nnx<=24576:=by rw[hSn.e];exact Nat.mul_le_mul hl.2 hk1.2
  exact⟨by rw[hSn.ncl];omega,by omega,by omega⟩
 rw[eT];obtain⟨W2,hW2⟩:=nam (w1.alloc (.cells (A.cells M) 24));have B2:Below w1.heap.size w1 W2:=by rw[hW2];exact Xu _ _
 have hAt:WT w1.heap.size M A W2:=by rw[hW2];exact WT.boxed M A w1 _
 have Bw2:=B1.trans (B2.mono B1.size);have HBw:=hyd Bw2;have HS:=hyd hSn;have HGf:=hyd hs;have HPk:=hyd (Rk w1.heap.size M A W2 hsz hAt (hIn.below B2));unfold Vj.cells at hW2 ⊢;clear eT hIn hsz hM hA hAt B2 Bw2 e1 e2 e3 i1 i2 i3 o1 o2 o3 B1 hSn hs hk1 hl;go_wp2_with fail;rw[<-hW2];clear hW2;refine HPk.out.mono ?_;rintro en w3 ⟨B3,h⟩;rcases h with ⟨hS',_⟩|⟨_,g1,g2,vb,vd,vc',vn',rfl,hP⟩
 ·exact absurd HS.out hS'
 obtain⟨A2,hA2,hI2⟩:=hP.tb;rw[hA2];obtain⟨W4,hW4⟩:=nam (w3.alloc (.cells (A2.cells (Wz M)) 28));have B4:Below w3.heap.size w3 W4:=by rw[hW4];exact Xu _ _
 have hAt4:Ve w3.heap.size (Wz M) A2 W4:=by rw[hW4];exact Ve.boxed _ _ _ _
 have HEn:=hyd (Si w3.heap.size (Wz M) A2 W4 (J0 HS.out) hAt4 (hI2.below B4));have HB4:=hyd (HBw.out.trans ((B3.trans (B4.mono B3.size)).mono HBw.out.size));unfold NA.cells at hW4 ⊢;clear hAt4 B4 B3 hP hA2 hI2 HPk HBw;go_wp2_with fail;rw[<-hW4];clear hW4;refine HEn.out.mono ?_;rintro en w5 ⟨B5,h⟩;rcases h with ⟨_,rfl⟩|⟨hn,_⟩
 ·have HB5:=hyd (HB4.out.trans (B5.mono HB4.out.size));clear B5 HEn;go_wp2_with fail;go_ret2;exact⟨⟨s,by rw[HGf.out];rfl,HG.out⟩,HB5.out⟩
 ·exact absurd (Qo HS.out) hn
def Y6 (x:List UInt8):ByteArray:=⟨x.toArray⟩
theorem Yd (x y:List UInt8):Y6 x++Y6 y=Y6 (x++y):=by
 unfold Y6;apply ByteArray.ext;simp
theorem YG (x:List UInt8):(Y6 x).size=x.length:=by simp[Y6,ByteArray.size]
theorem Vv (a:Int) (w:World) (ha:Jb a):
  Calls Try.prog 20 #[.int .i64 a] w fun e w'=>e=.returned (.string (Y6 (YB (Xt a 10))))/\Below w.heap.size w w':=by
 obtain⟨k,hk⟩:=nam (Xt a 10);have hk10:k<10:=by rw[hk];exact VL a (by omega)
 have HP:Hid (∀w',Calls Try.prog 15 #[.int .i64 a,.int .i64 ((10:Nat):Int)] w' fun e w''=>e=.returned (.int .i64 k)/\w''=w'):=fun w'=>by
  have:=OI a 10 w' ha (by omega) (by omega);rw[<-hk]at this;exact this
 rw[<-hk];obtain⟨W,hW⟩:=nam (w.alloc (.cells #[.string ⟨#[97]⟩,.string ⟨#[98]⟩,.string ⟨#[99]⟩,.string ⟨#[91,97,98,93]⟩,.string ⟨#[91,94,97,93]⟩,.string ⟨#[46]⟩,.string ⟨#[92,110]⟩,.string ⟨#[91,98,99,93]⟩,.string ⟨#[92,120,48,48]⟩,.string ⟨#[92,42]⟩] 9));have hc:W.cell? ⟨w.heap.size,k,none⟩=some (.string (Y6 (YB k))):=by
  rw[hW,World.cell?_alloc_new];have:k=0\/k=1\/k=2\/k=3\/k=4\/k=5\/k=6\/k=7\/k=8\/k=9:=by omega
  rcases this with rfl|rfl|rfl|rfl|rfl|rfl|rfl|rfl|rfl|rfl<;>rfl
 have HB:Hid (Below w.heap.size w W):=by show Below _ _ _;rw[hW];exact Xu _ _
 have hk':(k:Int)<10:=by omega
 obtain⟨S,hS⟩:=nam (Y6 (YB k));rw[<-hS]at hc ⊢;clear hS hk ha;go_enter Try.func20,Try.ntmps20;go_wp2_with fail;refine(HP.out _).mono ?_;rintro e w1 ⟨rfl,rfl⟩;rw[<-hW];clear hW;go_wp2_with fail;go_ret;exact⟨rfl,HB.out⟩
theorem IM (k:Int) (x y z:List UInt8) (w:World) (hx:x.length<=4) (hy:y.length<=4) (hz:z.length<=4) (HP:Hid (Calls Try.prog 15 #[.int .i64 k,.int .i64 20] w fun e w'=>e=.returned (.int .i64 0)/\w'=w)):
  Calls Try.prog 19 #[.int .i64 k,.string (Y6 x),.string (Y6 y),.string (Y6 z)] w fun e w'=>e=.returned (.tuple #[.string (Y6 (Y1 x y z 0).1),.string (Y6 (Y1 x y z 0).2)])/\w'=w:=by
 obtain⟨X,hX⟩:=nam (Y6 x);obtain⟨Y,hY⟩:=nam (Y6 y);obtain⟨Z,hZ⟩:=nam (Y6 z);have sx:X.size<=4:=by rw[hX,YG];exact hx
 have sy:Y.size<=4:=by rw[hY,YG];exact hy
 have n0:¬9223372036854775807<X.size+1:=by omega
 have n1:¬9223372036854775807<X.size+1+Y.size:=by omega
 have n2:¬9223372036854775807<Y.size+1:=by omega
 have n3:¬9223372036854775807<Y.size+1+X.size:=by omega
 have HX:=hyd3 hX hY hZ;rw[<-hX,<-hY,<-hZ];clear hX hY hZ hx hy hz sx sy;go_enter Try.func19,Try.ntmps19;go_wp2_with fail;refine HP.out.mono ?_;rintro e w1 ⟨rfl,rfl⟩;clear HP;go_wp2_with fail;go_ret2;refine⟨?_,rfl⟩;rw[HX.out.1,HX.out.2.1,HX.out.2.2];simp only[Y1,<-Yd];rfl
theorem IN (k:Int) (x y z:List UInt8) (w:World) (hx:x.length<=4) (hy:y.length<=4) (hz:z.length<=4) (HP:Hid (Calls Try.prog 15 #[.int .i64 k,.int .i64 20] w fun e w'=>e=.returned (.int .i64 1)/\w'=w)):
  Calls Try.prog 19 #[.int .i64 k,.string (Y6 x),.string (Y6 y),.string (Y6 z)] w fun e w'=>e=.returned (.tuple #[.string (Y6 (Y1 x y z 1).1),.string (Y6 (Y1 x y z 1).2)])/\w'=w:=by
 obtain⟨X,hX⟩:=nam (Y6 x);obtain⟨Y,hY⟩:=nam (Y6 y);obtain⟨Z,hZ⟩:=nam (Y6 z);have sx:X.size<=4:=by rw[hX,YG];exact hx
 have sy:Y.size<=4:=by rw[hY,YG];exact hy
 have sz:Z.size<=4:=by rw[hZ,YG];exact hz
 have n0:¬9223372036854775807<1+X.size:=by omega
 have n1:¬9223372036854775807<1+X.size+1:=by omega
 have n2:¬9223372036854775807<1+X.size+1+Y.size:=by omega
 have n3:¬9223372036854775807<1+X.size+1+Y.size+1:=by omega
 have n4:¬9223372036854775807<1+X.size+1+Y.size+1+Z.size:=by omega
 have n5:¬9223372036854775807<X.size+Z.size:=by omega
 have n6:¬9223372036854775807<X.size+Z.size+1:=by omega
 have n7:¬9223372036854775807<X.size+Z.size+1+Y.size:=by omega
 have n8:¬9223372036854775807<X.size+Z.size+1+Y.size+Z.size:=by omega
 have HX:=hyd3 hX hY hZ;rw[<-hX,<-hY,<-hZ];clear hX hY hZ hx hy hz sx sy sz;go_enter Try.func19,Try.ntmps19;go_wp2_with fail;refine HP.out.mono ?_;rintro e w1 ⟨rfl,rfl⟩;clear HP;go_wp2_with fail;go_ret2;refine⟨?_,rfl⟩;rw[HX.out.1,HX.out.2.1,HX.out.2.2];simp only[Y1,<-Yd];rfl
theorem IO (k:Int) (x y z:List UInt8) (w:World) (hx:x.length<=4) (hy:y.length<=4) (hz:z.length<=4) (HP:Hid (Calls Try.prog 15 #[.int .i64 k,.int .i64 20] w fun e w'=>e=.returned (.int .i64 2)/\w'=w)):
  Calls Try.prog 19 #[.int .i64 k,.string (Y6 x),.string (Y6 y),.string (Y6 z)] w fun e w'=>e=.returned (.tuple #[.string (Y6 (Y1 x y z 2).1),.string (Y6 (Y1 x y z 2).2)])/\w'=w:=by
 obtain⟨X,hX⟩:=nam (Y6 x);obtain⟨Y,hY⟩:=nam (Y6 y);obtain⟨Z,hZ⟩:=nam (Y6 z);have sx:X.size<=4:=by rw[hX,YG];exact hx
 have sy:Y.size<=4:=by rw[hY,YG];exact hy
 have n0:¬9223372036854775807<X.size+1:=by omega
 have n1:¬9223372036854775807<X.size+1+Y.size:=by omega
 have n2:¬9223372036854775807<X.size+1+Y.size+X.size:=by omega
 have n3:¬9223372036854775807<X.size+1+Y.size+X.size+2:=by omega
 have n4:¬9223372036854775807<1+X.size:=by omega
 have n5:¬9223372036854775807<1+X.size+Y.size:=by omega
 have n6:¬9223372036854775807<1+X.size+Y.size+2:=by omega
 have n7:¬9223372036854775807<1+X.size+Y.size+2+X.size:=by omega
 have HX:=hyd3 hX hY hZ;rw[<-hX,<-hY,<-hZ];clear hX hY hZ hx hy hz sx sy;go_enter Try.func19,Try.ntmps19;go_wp2_with fail;refine HP.out.mono ?_;rintro e w1 ⟨rfl,rfl⟩;clear HP;go_wp2_with fail;go_ret2;refine⟨?_,rfl⟩;rw[HX.out.1,HX.out.2.1,HX.out.2.2];simp only[Y1,<-Yd];rfl
theorem IP (k:Int) (x y z:List UInt8) (w:World) (hx:x.length<=4) (hy:y.length<=4) (hz:z.length<=4) (HP:Hid (Calls Try.prog 15 #[.int .i64 k,.int .i64 20] w fun e w'=>e=.returned (.int .i64 3)/\w'=w)):
  Calls Try.prog 19 #[.int .i64 k,.string (Y6 x),.string (Y6 y),.string (Y6 z)] w fun e w'=>e=.returned (.tuple #[.string (Y6 (Y1 x y z 3).1),.string (Y6 (Y1 x y z 3).2)])/\w'=w:=by
 obtain⟨X,hX⟩:=nam (Y6 x);obtain⟨Y,hY⟩:=nam (Y6 y);obtain⟨Z,hZ⟩:=nam (Y6 z);have sx:X.size<=4:=by rw[hX,YG];exact hx
 have n0:¬9223372036854775807<1+X.size:=by omega
 have n1:¬9223372036854775807<1+X.size+3:=by omega
 have n2:¬9223372036854775807<X.size+1:=by omega
 have HX:=hyd3 hX hY hZ;rw[<-hX,<-hY,<-hZ];clear hX hY hZ hx hy hz sx;go_enter Try.func19,Try.ntmps19;go_wp2_with fail;refine HP.out.mono ?_;rintro e w1 ⟨rfl,rfl⟩;clear HP;go_wp2_with fail;go_ret2;refine⟨?_,rfl⟩;rw[HX.out.1,HX.out.2.1,HX.out.2.2];simp only[Y1,<-Yd];rfl
theorem IQ (k:Int) (x y z:List UInt8) (w:World) (hx:x.length<=4) (hy:y.length<=4) (hz:z.length<=4) (HP:Hid (Calls Try.prog 15 #[.int .i64 k,.int .i64 20] w fun e w'=>e=.returned (.int .i64 4)/\w'=w)):
  Calls Try.prog 19 #[.int .i64 k,.string (Y6 x),.string (Y6 y),.string (Y6 z)] w fun e w'=>e=.returned (.tuple #[.string (Y6 (Y1 x y z 4).1),.string (Y6 (Y1 x y z 4).2)])/\w'=w:=by
 obtain⟨X,hX⟩:=nam (Y6 x);obtain⟨Y,hY⟩:=nam (Y6 y);obtain⟨Z,hZ⟩:=nam (Y6 z);have sx:X.size<=4:=by rw[hX,YG];exact hx
 have n0:¬9223372036854775807<X.size+1:=by omega
 have n1:¬9223372036854775807<X.size+X.size:=by omega
 have n2:¬9223372036854775807<X.size+X.size+1:=by omega
 have HX:=hyd3 hX hY hZ;rw[<-hX,<-hY,<-hZ];clear hX hY hZ hx hy hz sx;go_enter Try.func19,Try.ntmps19;go_wp2_with fail;refine HP.out.mono ?_;rintro e w1 ⟨rfl,rfl⟩;clear HP;go_wp2_with fail;go_ret2;refine⟨?_,rfl⟩;rw[HX.out.1,HX.out.2.1,HX.out.2.2];simp only[Y1,<-Yd];rfl
theorem IR (k:Int) (x y z:List UInt8) (w:World) (hx:x.length<=4) (hy:y.length<=4) (hz:z.length<=4) (HP:Hid (Calls Try.prog 15 #[.int .i64 k,.int .i64 20] w fun e w'=>e=.returned (.int .i64 5)/\w'=w)):
  Calls Try.prog 19 #[.int .i64 k,.string (Y6 x),.string (Y6 y),.string (Y6 z)] w fun e w'=>e=.returned (.tuple #[.string (Y6 (Y1 x y z 5).1),.string (Y6 (Y1 x y z 5).2)])/\w'=w:=by
 obtain⟨X,hX⟩:=nam (Y6 x);obtain⟨Y,hY⟩:=nam (Y6 y);obtain⟨Z,hZ⟩:=nam (Y6 z);have sx:X.size<=4:=by rw[hX,YG];exact hx
 have n0:¬9223372036854775807<X.size+5:=by omega
 have n1:¬9223372036854775807<X.size+X.size:=by omega
 have n2:¬9223372036854775807<X.size+X.size+1:=by omega
 have n3:¬9223372036854775807<X.size+X.size+1+X.size:=by omega
 have n4:¬9223372036854775807<X.size+X.size+1+X.size+X.size:=by omega
 have n5:¬9223372036854775807<X.size+X.size+1+X.size+X.size+X.size:=by omega
 have HX:=hyd3 hX hY hZ;rw[<-hX,<-hY,<-hZ];clear hX hY hZ hx hy hz sx;go_enter Try.func19,Try.ntmps19;go_wp2_with fail;refine HP.out.mono ?_;rintro e w1 ⟨rfl,rfl⟩;clear HP;go_wp2_with fail;go_ret2;refine⟨?_,rfl⟩;rw[HX.out.1,HX.out.2.1,HX.out.2.2];simp only[Y1,<-Yd];rfl
theorem IS (k:Int) (x y z:List UInt8) (w:World) (hx:x.length<=4) (hy:y.length<=4) (hz:z.length<=4) (HP:Hid (Calls Try.prog 15 #[.int .i64 k,.int .i64 20] w fun e w'=>e=.returned (.int .i64 6)/\w'=w)):
  Calls Try.prog 19 #[.int .i64 k,.string (Y6 x),.string (Y6 y),.string (Y6 z)] w fun e w'=>e=.returned (.tuple #[.string (Y6 (Y1 x y z 6).1),.string (Y6 (Y1 x y z 6).2)])/\w'=w:=by
 obtain⟨X,hX⟩:=nam (Y6 x);obtain⟨Y,hY⟩:=nam (Y6 y);obtain⟨Z,hZ⟩:=nam (Y6 z);have sx:X.size<=4:=by rw[hX,YG];exact hx
 have sy:Y.size<=4:=by rw[hY,YG];exact hy
 have n0:¬9223372036854775807<1+X.size:=by omega
 have n1:¬9223372036854775807<1+X.size+1:=by omega
 have n2:¬9223372036854775807<1+X.size+1+Y.size:=by omega
 have n3:¬9223372036854775807<1+X.size+1+Y.size+2:=by omega
 have n4:¬9223372036854775807<1+X.size+1+Y.size+3:=by omega
 have HX:=hyd3 hX hY hZ;rw[<-hX,<-hY,<-hZ];clear hX hY hZ hx hy hz sx sy;go_enter Try.func19,Try.ntmps19;go_wp2_with fail;refine HP.out.mono ?_;rintro e w1 ⟨rfl,rfl⟩;clear HP;go_wp2_with fail;go_ret2;refine⟨?_,rfl⟩;rw[HX.out.1,HX.out.2.1,HX.out.2.2];simp only[Y1,<-Yd];rfl
theorem IT (k:Int) (x y z:List UInt8) (w:World) (hx:x.length<=4) (hy:y.length<=4) (hz:z.length<=4) (HP:Hid (Calls Try.prog 15 #[.int .i64 k,.int .i64 20] w fun e w'=>e=.returned (.int .i64 7)/\w'=w)):
  Calls Try.prog 19 #[.int .i64 k,.string (Y6 x),.string (Y6 y),.string (Y6 z)] w fun e w'=>e=.returned (.tuple #[.string (Y6 (Y1 x y z 7).1),.string (Y6 (Y1 x y z 7).2)])/\w'=w:=by
 obtain⟨X,hX⟩:=nam (Y6 x);obtain⟨Y,hY⟩:=nam (Y6 y);obtain⟨Z,hZ⟩:=nam (Y6 z);have sx:X.size<=4:=by rw[hX,YG];exact hx
 have sy:Y.size<=4:=by rw[hY,YG];exact hy
 have n0:¬9223372036854775807<1+X.size:=by omega
 have n1:¬9223372036854775807<1+X.size+1:=by omega
 have n2:¬9223372036854775807<1+X.size+1+Y.size:=by omega
 have n3:¬9223372036854775807<1+X.size+1+Y.size+2:=by omega
 have n4:¬9223372036854775807<1+X.size+1+Y.size+2+X.size:=by omega
 have n5:¬9223372036854775807<1+X.size+1+Y.size+2+X.size+1:=by omega
 have HX:=hyd3 hX hY hZ;rw[<-hX,<-hY,<-hZ];clear hX hY hZ hx hy hz sx sy;go_enter Try.func19,Try.ntmps19;go_wp2_with fail;refine HP.out.mono ?_;rintro e w1 ⟨rfl,rfl⟩;clear HP;go_wp2_with fail;go_ret2;refine⟨?_,rfl⟩;rw[HX.out.1,HX.out.2.1,HX.out.2.2];simp only[Y1,<-Yd];rfl
theorem IU (k:Int) (x y z:List UInt8) (w:World) (hx:x.length<=4) (hy:y.length<=4) (hz:z.length<=4) (HP:Hid (Calls Try.prog 15 #[.int .i64 k,.int .i64 20] w fun e w'=>e=.returned (.int .i64 8)/\w'=w)):
  Calls Try.prog 19 #[.int .i64 k,.string (Y6 x),.string (Y6 y),.string (Y6 z)] w fun e w'=>e=.returned (.tuple #[.string (Y6 (Y1 x y z 8).1),.string (Y6 (Y1 x y z 8).2)])/\w'=w:=by
 obtain⟨X,hX⟩:=nam (Y6 x);obtain⟨Y,hY⟩:=nam (Y6 y);obtain⟨Z,hZ⟩:=nam (Y6 z);have sx:X.size<=4:=by rw[hX,YG];exact hx
 have n0:¬9223372036854775807<X.size+1:=by omega
 have n1:¬9223372036854775807<1+X.size:=by omega
 have HX:=hyd3 hX hY hZ;rw[<-hX,<-hY,<-hZ];clear hX hY hZ hx hy hz sx;go_enter Try.func19,Try.ntmps19;go_wp2_with fail;refine HP.out.mono ?_;rintro e w1 ⟨rfl,rfl⟩;clear HP;go_wp2_with fail;go_ret2;refine⟨?_,rfl⟩;rw[HX.out.1,HX.out.2.1,HX.out.2.2];simp only[Y1,<-Yd];rfl
theorem IV (k:Int) (x y z:List UInt8) (w:World) (hx:x.length<=4) (hy:y.length<=4) (hz:z.length<=4) (HP:Hid (Calls Try.prog 15 #[.int .i64 k,.int .i64 20] w fun e w'=>e=.returned (.int .i64 9)/\w'=w)):
  Calls Try.prog 19 #[.int .i64 k,.string (Y6 x),.string (Y6 y),.string (Y6 z)] w fun e w'=>e=.returned (.tuple #[.string (Y6 (Y1 x y z 9).1),.string (Y6 (Y1 x y z 9).2)])/\w'=w:=by
 obtain⟨X,hX⟩:=nam (Y6 x);obtain⟨Y,hY⟩:=nam (Y6 y);obtain⟨Z,hZ⟩:=nam (Y6 z);have sx:X.size<=4:=by rw[hX,YG];exact hx
 have n0:¬9223372036854775807<X.size+5:=by omega
 have n1:¬9223372036854775807<1+X.size:=by omega
 have n2:¬9223372036854775807<1+X.size+X.size:=by omega
 have n3:¬9223372036854775807<1+X.size+X.size+3:=by omega
 have HX:=hyd3 hX hY hZ;rw[<-hX,<-hY,<-hZ];clear hX hY hZ hx hy hz sx;go_enter Try.func19,Try.ntmps19;go_wp2_with fail;refine HP.out.mono ?_;rintro e w1 ⟨rfl,rfl⟩;clear HP;go_wp2_with fail;go_ret2;refine⟨?_,rfl⟩;rw[HX.out.1,HX.out.2.1,HX.out.2.2];simp only[Y1,<-Yd];rfl
theorem J3 (k:Int) (x y z:List UInt8) (w:World) (hx:x.length<=4) (hy:y.length<=4) (hz:z.length<=4) (HP:Hid (Calls Try.prog 15 #[.int .i64 k,.int .i64 20] w fun e w'=>e=.returned (.int .i64 10)/\w'=w)):
  Calls Try.prog 19 #[.int .i64 k,.string (Y6 x),.string (Y6 y),.string (Y6 z)] w fun e w'=>e=.returned (.tuple #[.string (Y6 (Y1 x y z 10).1),.string (Y6 (Y1 x y z 10).2)])/\w'=w:=by
 obtain⟨X,hX⟩:=nam (Y6 x);obtain⟨Y,hY⟩:=nam (Y6 y);obtain⟨Z,hZ⟩:=nam (Y6 z);have sx:X.size<=4:=by rw[hX,YG];exact hx
 have n0:¬9223372036854775807<2+X.size:=by omega
 have n1:¬9223372036854775807<2+X.size+2:=by omega
 have HX:=hyd3 hX hY hZ;rw[<-hX,<-hY,<-hZ];clear hX hY hZ hx hy hz sx;go_enter Try.func19,Try.ntmps19;go_wp2_with fail;refine HP.out.mono ?_;rintro e w1 ⟨rfl,rfl⟩;clear HP;go_wp2_with fail;go_ret2;refine⟨?_,rfl⟩;rw[HX.out.1,HX.out.2.1,HX.out.2.2];simp only[Y1,<-Yd];rfl
theorem J4 (k:Int) (x y z:List UInt8) (w:World) (hx:x.length<=4) (hy:y.length<=4) (hz:z.length<=4) (HP:Hid (Calls Try.prog 15 #[.int .i64 k,.int .i64 20] w fun e w'=>e=.returned (.int .i64 11)/\w'=w)):
  Calls Try.prog 19 #[.int .i64 k,.string (Y6 x),.string (Y6 y),.string (Y6 z)] w fun e w'=>e=.returned (.tuple #[.string (Y6 (Y1 x y z 11).1),.string (Y6 (Y1 x y z 11).2)])/\w'=w:=by
 obtain⟨X,hX⟩:=nam (Y6 x);obtain⟨Y,hY⟩:=nam (Y6 y);obtain⟨Z,hZ⟩:=nam (Y6 z);have sx:X.size<=4:=by rw[hX,YG];exact hx
 have n0:¬9223372036854775807<X.size+1:=by omega
 have n1:¬9223372036854775807<X.size+1+X.size:=by omega
 have HX:=hyd3 hX hY hZ;rw[<-hX,<-hY,<-hZ];clear hX hY hZ hx hy hz sx;go_enter Try.func19,Try.ntmps19;go_wp2_with fail;refine HP.out.mono ?_;rintro e w1 ⟨rfl,rfl⟩;clear HP;go_wp2_with fail;go_ret2;refine⟨?_,rfl⟩;rw[HX.out.1,HX.out.2.1,HX.out.2.2];simp only[Y1,<-Yd];rfl
theorem J5 (k:Int) (x y z:List UInt8) (w:World) (hx:x.length<=4) (hy:y.length<=4) (hz:z.length<=4) (HP:Hid (Calls Try.prog 15 #[.int .i64 k,.int .i64 20] w fun e w'=>e=.returned (.int .i64 12)/\w'=w)):
  Calls Try.prog 19 #[.int .i64 k,.string (Y6 x),.string (Y6 y),.string (Y6 z)] w fun e w'=>e=.returned (.tuple #[.string (Y6 (Y1 x y z 12).1),.string (Y6 (Y1 x y z 12).2)])/\w'=w:=by
 obtain⟨X,hX⟩:=nam (Y6 x);obtain⟨Y,hY⟩:=nam (Y6 y);obtain⟨Z,hZ⟩:=nam (Y6 z);have sx:X.size<=4:=by rw[hX,YG];exact hx
 have sy:Y.size<=4:=by rw[hY,YG];exact hy
 have sz:Z.size<=4:=by rw[hZ,YG];exact hz
 have n0:¬9223372036854775807<1+X.size:=by omega
 have n1:¬9223372036854775807<1+X.size+Y.size:=by omega
 have n2:¬9223372036854775807<1+X.size+Y.size+1:=by omega
 have n3:¬9223372036854775807<1+X.size+Y.size+1+Z.size:=by omega
 have n4:¬9223372036854775807<X.size+1:=by omega
 have n5:¬9223372036854775807<X.size+1+Y.size:=by omega
 have n6:¬9223372036854775807<X.size+1+Y.size+Z.size:=by omega
 have n7:¬9223372036854775807<X.size+1+Y.size+Z.size+1:=by omega
 have HX:=hyd3 hX hY hZ;rw[<-hX,<-hY,<-hZ];clear hX hY hZ hx hy hz sx sy sz;go_enter Try.func19,Try.ntmps19;go_wp2_with fail;refine HP.out.mono ?_;rintro e w1 ⟨rfl,rfl⟩;clear HP;go_wp2_with fail;go_ret2;refine⟨?_,rfl⟩;rw[HX.out.1,HX.out.2.1,HX.out.2.2];simp only[Y1,<-Yd];rfl
theorem J6 (k:Int) (x y z:List UInt8) (w:World) (hx:x.length<=4) (hy:y.length<=4) (hz:z.length<=4) (HP:Hid (Calls Try.prog 15 #[.int .i64 k,.int .i64 20] w fun e w'=>e=.returned (.int .i64 13)/\w'=w)):
  Calls Try.prog 19 #[.int .i64 k,.string (Y6 x),.string (Y6 y),.string (Y6 z)] w fun e w'=>e=.returned (.tuple #[.string (Y6 (Y1 x y z 13).1),.string (Y6 (Y1 x y z 13).2)])/\w'=w:=by
 obtain⟨X,hX⟩:=nam (Y6 x);obtain⟨Y,hY⟩:=nam (Y6 y);obtain⟨Z,hZ⟩:=nam (Y6 z);have sx:X.size<=4:=by rw[hX,YG];exact hx
 have n0:¬9223372036854775807<X.size+3:=by omega
 have HX:=hyd3 hX hY hZ;rw[<-hX,<-hY,<-hZ];clear hX hY hZ hx hy hz sx;go_enter Try.func19,Try.ntmps19;go_wp2_with fail;refine HP.out.mono ?_;rintro e w1 ⟨rfl,rfl⟩;clear HP;go_wp2_with fail;go_ret2;refine⟨?_,rfl⟩;rw[HX.out.1,HX.out.2.1,HX.out.2.2];simp only[Y1,<-Yd];rfl
theorem J8 (k:Int) (x y z:List UInt8) (w:World) (hx:x.length<=4) (hy:y.length<=4) (hz:z.length<=4) (HP:Hid (Calls Try.prog 15 #[.int .i64 k,.int .i64 20] w fun e w'=>e=.returned (.int .i64 14)/\w'=w)):
  Calls Try.prog 19 #[.int .i64 k,.string (Y6 x),.string (Y6 y),.string (Y6 z)] w fun e w'=>e=.returned (.tuple #[.string (Y6 (Y1 x y z 14).1),.string (Y6 (Y1 x y z 14).2)])/\w'=w:=by
 obtain⟨X,hX⟩:=nam (Y6 x);obtain⟨Y,hY⟩:=nam (Y6 y);obtain⟨Z,hZ⟩:=nam (Y6 z);have sx:X.size<=4:=by rw[hX,YG];exact hx
 have sy:Y.size<=4:=by rw[hY,YG];exact hy
 have n0:¬9223372036854775807<1+X.size:=by omega
 have n1:¬9223372036854775807<1+X.size+1:=by omega
 have n2:¬9223372036854775807<1+X.size+1+Y.size:=by omega
 have n3:¬9223372036854775807<1+X.size+1+Y.size+2:=by omega
 have n4:¬9223372036854775807<1+X.size+1+Y.size+2+Y.size:=by omega
 have n5:¬9223372036854775807<1+X.size+1+Y.size+2+Y.size+1:=by omega
 have n6:¬9223372036854775807<1+X.size+1+Y.size+2+Y.size+1+X.size:=by omega
 have n7:¬9223372036854775807<1+X.size+1+Y.size+2+Y.size+1+X.size+2:=by omega
 have HX:=hyd3 hX hY hZ;rw[<-hX,<-hY,<-hZ];clear hX hY hZ hx hy hz sx sy;go_enter Try.func19,Try.ntmps19;go_wp2_with fail;refine HP.out.mono ?_;rintro e w1 ⟨rfl,rfl⟩;clear HP;go_wp2_with fail;go_ret2;refine⟨?_,rfl⟩;rw[HX.out.1,HX.out.2.1,HX.out.2.2];simp only[Y1,<-Yd];rfl
theorem Ka (k:Int) (x y z:List UInt8) (w:World) (hx:x.length<=4) (hy:y.length<=4) (hz:z.length<=4) (HP:Hid (Calls Try.prog 15 #[.int .i64 k,.int .i64 20] w fun e w'=>e=.returned (.int .i64 15)/\w'=w)):
  Calls Try.prog 19 #[.int .i64 k,.string (Y6 x),.string (Y6 y),.string (Y6 z)] w fun e w'=>e=.returned (.tuple #[.string (Y6 (Y1 x y z 15).1),.string (Y6 (Y1 x y z 15).2)])/\w'=w:=by
 obtain⟨X,hX⟩:=nam (Y6 x);obtain⟨Y,hY⟩:=nam (Y6 y);obtain⟨Z,hZ⟩:=nam (Y6 z);have sx:X.size<=4:=by rw[hX,YG];exact hx
 have n0:¬9223372036854775807<1+X.size:=by omega
 have n1:¬9223372036854775807<1+X.size+5:=by omega
 have n2:¬9223372036854775807<X.size+5:=by omega
 have HX:=hyd3 hX hY hZ;rw[<-hX,<-hY,<-hZ];clear hX hY hZ hx hy hz sx;go_enter Try.func19,Try.ntmps19;go_wp2_with fail;refine HP.out.mono ?_;rintro e w1 ⟨rfl,rfl⟩;clear HP;go_wp2_with fail;go_ret2;refine⟨?_,rfl⟩;rw[HX.out.1,HX.out.2.1,HX.out.2.2];simp only[Y1,<-Yd];rfl
theorem Kb (k:Int) (x y z:List UInt8) (w:World) (hx:x.length<=4) (hy:y.length<=4) (hz:z.length<=4) (HP:Hid (Calls Try.prog 15 #[.int .i64 k,.int .i64 20] w fun e w'=>e=.returned (.int .i64 16)/\w'=w)):
  Calls Try.prog 19 #[.int .i64 k,.string (Y6 x),.string (Y6 y),.string (Y6 z)] w fun e w'=>e=.returned (.tuple #[.string (Y6 (Y1 x y z 16).1),.string (Y6 (Y1 x y z 16).2)])/\w'=w:=by
 obtain⟨X,hX⟩:=nam (Y6 x);obtain⟨Y,hY⟩:=nam (Y6 y);obtain⟨Z,hZ⟩:=nam (Y6 z);have sx:X.size<=4:=by rw[hX,YG];exact hx
 have n0:¬9223372036854775807<1+X.size:=by omega
 have n1:¬9223372036854775807<1+X.size+3:=by omega
 have n2:¬9223372036854775807<X.size+1:=by omega
 have HX:=hyd3 hX hY hZ;rw[<-hX,<-hY,<-hZ];clear hX hY hZ hx hy hz sx;go_enter Try.func19,Try.ntmps19;go_wp2_with fail;refine HP.out.mono ?_;rintro e w1 ⟨rfl,rfl⟩;clear HP;go_wp2_with fail;go_ret2;refine⟨?_,rfl⟩;rw[HX.out.1,HX.out.2.1,HX.out.2.2];simp only[Y1,<-Yd];rfl
theorem Ke (k:Int) (x y z:List UInt8) (w:World) (hx:x.length<=4) (hy:y.length<=4) (hz:z.length<=4) (HP:Hid (Calls Try.prog 15 #[.int .i64 k,.int .i64 20] w fun e w'=>e=.returned (.int .i64 17)/\w'=w)):
  Calls Try.prog 19 #[.int .i64 k,.string (Y6 x),.string (Y6 y),.string (Y6 z)] w fun e w'=>e=.returned (.tuple #[.string (Y6 (Y1 x y z 17).1),.string (Y6 (Y1 x y z 17).2)])/\w'=w:=by
 obtain⟨X,hX⟩:=nam (Y6 x);obtain⟨Y,hY⟩:=nam (Y6 y);obtain⟨Z,hZ⟩:=nam (Y6 z);have sx:X.size<=4:=by rw[hX,YG];exact hx
 have sy:Y.size<=4:=by rw[hY,YG];exact hy
 have sz:Z.size<=4:=by rw[hZ,YG];exact hz
 have n0:¬9223372036854775807<Z.size+1:=by omega
 have n1:¬9223372036854775807<Z.size+1+X.size:=by omega
 have n2:¬9223372036854775807<Z.size+1+X.size+1:=by omega
 have n3:¬9223372036854775807<Z.size+1+X.size+1+Y.size:=by omega
 have n4:¬9223372036854775807<Z.size+1+X.size+1+Y.size+1:=by omega
 have n5:¬9223372036854775807<Z.size+X.size:=by omega
 have n6:¬9223372036854775807<Z.size+X.size+1:=by omega
 have n7:¬9223372036854775807<Z.size+X.size+1+Z.size:=by omega
 have n8:¬9223372036854775807<Z.size+X.size+1+Z.size+Y.size:=by omega
 have HX:=hyd3 hX hY hZ;rw[<-hX,<-hY,<-hZ];clear hX hY hZ hx hy hz sx sy sz;go_enter Try.func19,Try.ntmps19;go_wp2_with fail;refine HP.out.mono ?_;rintro e w1 ⟨rfl,rfl⟩;clear HP;go_wp2_with fail;go_ret2;refine⟨?_,rfl⟩;rw[HX.out.1,HX.out.2.1,HX.out.2.2];simp only[Y1,<-Yd];rfl
theorem Kf (k:Int) (x y z:List UInt8) (w:World) (hx:x.length<=4) (hy:y.length<=4) (hz:z.length<=4) (HP:Hid (Calls Try.prog 15 #[.int .i64 k,.int .i64 20] w fun e w'=>e=.returned (.int .i64 18)/\w'=w)):
  Calls Try.prog 19 #[.int .i64 k,.string (Y6 x),.string (Y6 y),.string (Y6 z)] w fun e w'=>e=.returned (.tuple #[.string (Y6 (Y1 x y z 18).1),.string (Y6 (Y1 x y z 18).2)])/\w'=w:=by
 obtain⟨X,hX⟩:=nam (Y6 x);obtain⟨Y,hY⟩:=nam (Y6 y);obtain⟨Z,hZ⟩:=nam (Y6 z);have sx:X.size<=4:=by rw[hX,YG];exact hx
 have sy:Y.size<=4:=by rw[hY,YG];exact hy
 have n0:¬9223372036854775807<1+X.size:=by omega
 have n1:¬9223372036854775807<1+X.size+Y.size:=by omega
 have n2:¬9223372036854775807<1+X.size+Y.size+4:=by omega
 have n3:¬9223372036854775807<X.size+Y.size:=by omega
 have n4:¬9223372036854775807<X.size+Y.size+X.size:=by omega
 have n5:¬9223372036854775807<X.size+Y.size+X.size+Y.size:=by omega
 have HX:=hyd3 hX hY hZ;rw[<-hX,<-hY,<-hZ];clear hX hY hZ hx hy hz sx sy;go_enter Try.func19,Try.ntmps19;go_wp2_with fail;refine HP.out.mono ?_;rintro e w1 ⟨rfl,rfl⟩;clear HP;go_wp2_with fail;go_ret2;refine⟨?_,rfl⟩;rw[HX.out.1,HX.out.2.1,HX.out.2.2];simp only[Y1,<-Yd];rfl
theorem Kg (k:Int) (x y z:List UInt8) (w:World) (hx:x.length<=4) (hy:y.length<=4) (hz:z.length<=4) (HP:Hid (Calls Try.prog 15 #[.int .i64 k,.int .i64 20] w fun e w'=>e=.returned (.int .i64 19)/\w'=w)):
  Calls Try.prog 19 #[.int .i64 k,.string (Y6 x),.string (Y6 y),.string (Y6 z)] w fun e w'=>e=.returned (.tuple #[.string (Y6 (Y1 x y z 19).1),.string (Y6 (Y1 x y z 19).2)])/\w'=w:=by
 obtain⟨X,hX⟩:=nam (Y6 x);obtain⟨Y,hY⟩:=nam (Y6 y);obtain⟨Z,hZ⟩:=nam (Y6 z);have sx:X.size<=4:=by rw[hX,YG];exact hx
 have sy:Y.size<=4:=by rw[hY,YG];exact hy
 have n0:¬9223372036854775807<1+X.size:=by omega
 have n1:¬9223372036854775807<1+X.size+2:=by omega
 have n2:¬9223372036854775807<1+X.size+2+Y.size:=by omega
 have n3:¬9223372036854775807<X.size+1:=by omega
 have n4:¬9223372036854775807<X.size+1+Y.size:=by omega
 have HX:=hyd3 hX hY hZ;rw[<-hX,<-hY,<-hZ];clear hX hY hZ hx hy hz sx sy;go_enter Try.func19,Try.ntmps19;go_wp2_with fail;refine HP.out.mono ?_;rintro e w1 ⟨rfl,rfl⟩;clear HP;go_wp2_with fail;go_ret2;refine⟨?_,rfl⟩;rw[HX.out.1,HX.out.2.1,HX.out.2.2];simp only[Y1,<-Yd];rfl
theorem LF (k:Int) (x y z:List UInt8) (w:World) (hk:Jb k) (hx:x.length<=4) (hy:y.length<=4) (hz:z.length<=4):
  Calls Try.prog 19 #[.int .i64 k,.string (Y6 x),.string (Y6 y),.string (Y6 z)] w fun e w'=>e=.returned (.tuple #[.string (Y6 (Y1 x y z (Xt k 20)).1),.string (Y6 (Y1 x y z (Xt k 20)).2)])/\w'=w:=by
 have HP:=hyd (OI k 20 w hk (by omega) (by omega));have hlt:=VL k (n:=20) (by omega);generalize Xt k 20=j at *;have hj:j=0\/j=1\/j=2\/j=3\/j=4\/j=5\/j=6\/j=7\/j=8\/j=9\/j=10\/j=11\/j=12\/j=13\/j=14\/j=15\/j=16\/j=17\/j=18\/j=19:=by omega
 rcases hj with rfl|rfl|rfl|rfl|rfl|rfl|rfl|rfl|rfl|rfl|rfl|rfl|rfl|rfl|rfl|rfl|rfl|rfl|rfl|rfl
 ·exact IM k x y z w hx hy hz HP
 ·exact IN k x y z w hx hy hz HP
 ·exact IO k x y z w hx hy hz HP
 ·exact IP k x y z w hx hy hz HP
 ·exact IQ k x y z w hx hy hz HP
 ·exact IR k x y z w hx hy hz HP
 ·exact IS k x y z w hx hy hz HP
 ·exact IT k x y z w hx hy hz HP
 ·exact IU k x y z w hx hy hz HP
 ·exact IV k x y z w hx hy hz HP
 ·exact J3 k x y z w hx hy hz HP
 ·exact J4 k x y z w hx hy hz HP
 ·exact J5 k x y z w hx hy hz HP
 ·exact J6 k x y z w hx hy hz HP
 ·exact J8 k x y z w hx hy hz HP
 ·exact Ka k x y z w hx hy hz HP
 ·exact Kb k x y z w hx hy hz HP
 ·exact Ke k x y z w hx hy hz HP
 ·exact Kf k x y z w hx hy hz HP
 ·exact Kg k x y z w hx hy hz HP
def two (U V:ByteArray):Nat->ByteArray:=fun j=>if j=0 then U else V
theorem J2 {z:List UInt8} (hx:x.length<=4) (hy:y.length<=4) (hz:z.length<=4) (k:Nat):(Y1 x y z k).1.length<=40/\(Y1 x y z k).2.length<=40:=by
 rcases k with _|_|_|_|_|_|_|_|_|_|_|_|_|_|_|_|_|_|_|k<;>simp only[Y1,List.length_append,List.length_cons,List.length_nil]<;>omega
theorem WM:∀k,k<10->(YB k).length<=4
 |0,_=>by decide
 |1,_=>by decide
 |2,_=>by decide
 |3,_=>by decide
 |4,_=>by decide
 |5,_=>by decide
 |6,_=>by decide
 |7,_=>by decide
 |8,_=>by decide
 |9,_=>by decide
structure Gz (U:ByteArray) (V:Nat):Prop where
 ok:(Pg.wrong (Y5 U) U.size).1=0
 pl:Ym U=V
 sz:U.size<=maxLen
theorem Nj (h:WE x V d) (hd:d<=6) (hl:x.length<=40) (hV:V<=6):Gz (Y6 x) V:=by
 have h1:=Lu h hd hl (Y6 x) (by simp[Y6]);exact⟨h1.1,by rw[h1.2,Pg.capped,if_neg (by omega)],by rw[YG];unfold maxLen;omega⟩
theorem Gz.read {U:ByteArray} (h:Gz U V):(Pg.readParts (Y5 U) U.size).ok=true:=((Xf U).2 h.ok).2.2
theorem R8 {U U':ByteArray}{V':Nat} (h:Gz U V) (h':Gz U' V') (hV:V+V'<=6) (b cap:Nat) (w:World) (hb:b<w.heap.size) (c0:w.cell? ⟨b,0,none⟩=some (.string U)) (c1:w.cell? ⟨b,1,none⟩=some (.string U')):
  Calls Try.prog 21 #[.slice (some ⟨b,0,none⟩) 2 cap] w fun en w'=>(∃s,en=.returned (.tuple #[.string s,.int .i64 0])/\Tt (fun j=>VM (two U U' j)) 2 s)/\Below w.heap.size w w':=by
 refine GZ b 0 cap 2 (two U U') w (by omega) (by omega) hb (fun i hi=>?_) (fun i hi=>?_) (fun i hi=>?_) ?_
 ·rcases (show i=0\/i=1 by omega)with rfl|rfl
  ·exact h.sz
  ·exact h'.sz
 ·rcases (show i=0\/i=1 by omega)with rfl|rfl
  ·exact c0
  ·exact c1
 ·rcases (show i=0\/i=1 by omega)with rfl|rfl
  ·exact h.ok
  ·exact h'.ok
 ·show(0+Ym U)+Ym U'<=6;rw[h.pl,h'.pl];omega
theorem O0 {U U' Q Q':ByteArray}{s s':ByteArray} (h:(VM U).Lq=(VM Q).Lq) (h':(VM U').Lq=(VM Q').Lq) (g:Tt (fun j=>VM (two U U' j)) 2 s) (g':Tt (fun j=>VM (two Q Q' j)) 2 s'):s'=s:=
 (JK (fun r hr=>by
  rcases (show r=0\/r=1 by omega)with rfl|rfl
  ·exact h
  ·exact h') g g').symm
theorem In (k a b c d:Int) (first:Bool) (w:World) (ik:Jb k) (ia:Jb a) (ib:Jb b) (ic:Jb c) (id:Jb d):
  Calls Try.prog 6 #[.int .i64 k,.int .i64 a,.int .i64 b,.int .i64 c,.int .i64 d,.bool first] w fun e w'=>e=.returned (.bool true)/\Below w.heap.size w w':=by
 have la:=VL a (n:=10) (by omega);have lb:=VL b (n:=10) (by omega);have lc:=VL c (n:=10) (by omega);have ld:=VL d (n:=10) (by omega);have HA:Hid (∀w,Calls Try.prog 20 #[.int .i64 a] w fun e w'=>e=.returned (.string (Y6 (YB (Xt a 10))))/\Below w.heap.size w w'):=fun w=>Vv a w ia
 have HB:Hid (∀w,Calls Try.prog 20 #[.int .i64 b] w fun e w'=>e=.returned (.string (Y6 (YB (Xt b 10))))/\Below w.heap.size w w'):=fun w=>Vv b w ib
 have HC:Hid (∀w,Calls Try.prog 20 #[.int .i64 c] w fun e w'=>e=.returned (.string (Y6 (YB (Xt c 10))))/\Below w.heap.size w w'):=fun w=>Vv c w ic
 have HD:Hid (∀w,Calls Try.prog 20 #[.int .i64 d] w fun e w'=>e=.returned (.string (Y6 (YB (Xt d 10))))/\Below w.heap.size w w'):=fun w=>Vv d w id
 generalize Xt a 10=na at *;generalize Xt b 10=nb at *;generalize Xt c 10=nc at *;generalize Xt d 10=nd at *;have HPr:Hid (∀w,Calls Try.prog 19 #[.int .i64 k,.string (Y6 (YB na)),.string (Y6 (YB nb)),.string (Y6 (YB nc))] w fun e w'=>e=.returned (.tuple #[.string (Y6 (Y1 (YB na) (YB nb) (YB nc) (Xt k 20)).1),.string (Y6 (Y1 (YB na) (YB nb) (YB nc) (Xt k 20)).2)])/\w'=w):=
  fun w=>LF k _ _ _ w ik (WM na la) (WM nb lb) (WM nc lc)
 generalize Xt k 20=j at *;obtain⟨V,d1,W,d2,r1,r2,v1,v2,q1,q2⟩:=Nb (Tj na la) (Tj nb lb) (Tj nc lc) j;obtain⟨l1,l2⟩:=J2 (WM na la) (WM nb lb) (WM nc lc) j;have RP:=Nj r1 q1 l1 (by omega);have RQ:=Nj r2 q2 l2 (by omega);have RD:=Nj (YS (Qr nd ld)) (by omega) (by have:=WM nd ld;omega) (by omega);obtain⟨fa,da⟩:=SU na la;obtain⟨fb,db⟩:=SU nb lb;obtain⟨fc,dc⟩:=SU nc lc;obtain⟨g,h,x1,x2,x3⟩:=IK da db dc j;have hL:(VM (Y6 (Y1 (YB na) (YB nb) (YB nc) j).1)).Lq=(VM (Y6 (Y1 (YB na) (YB nb) (YB nc) j).2)).Lq:=by
  rw[Ml RP.read (g:=g) (by simpa[Y6]using x1),Ml RQ.read (g:=h) (by simpa[Y6]using x2),x3]
 clear x1 x2 x3 da db dc r1 r2 l1 l2 q1 q2 la lb lc ld ik ia ib ic id;generalize Y6 (Y1 (YB na) (YB nb) (YB nc) j).1=P at *;generalize Y6 (Y1 (YB na) (YB nb) (YB nc) j).2=Q at *;generalize Y6 (YB na)=X at *;generalize Y6 (YB nb)=Y at *;generalize Y6 (YB nc)=Z at *;generalize Y6 (YB nd)=D at *;have HR:=hyd6 RP RQ RD v1 v2 hL;clear RP RQ RD v1 v2 hL;cases first
 ·go_enter Try.func6,Try.ntmps6;go_wp2_with fail;refine(HA.out _).mono ?_;rintro e w1 ⟨rfl,B1⟩;go_wp2_with fail;refine(HB.out _).mono ?_;rintro e w2 ⟨rfl,B2⟩;go_wp2_with fail;refine(HC.out _).mono ?_;rintro e w3 ⟨rfl,B3⟩;go_wp2_with fail;refine(HPr.out _).mono ?_;rintro e w3 ⟨rfl,rfl⟩;go_wp2_with fail;refine(HD.out _).mono ?_;rintro e w4 ⟨rfl,B4⟩;have Bw4:=B1.trans ((B2.trans ((B3.trans (B4.mono B3.size)).mono B2.size)).mono B1.size);clear B1 B2 B3 B4 HA HB HC HD HPr;go_wp2_with fail;obtain⟨W5,hW5⟩:=nam (w4.alloc (.cells #[.string P,.string D] 9));obtain⟨W6,hW6⟩:=nam (W5.alloc (.cells #[.string Q,.string D] 9));rw[<-hW5,<-hW6];have s5:W5.heap.size=w4.heap.size+1:=by rw[hW5];simp
  have s6:W6.heap.size=w4.heap.size+1+1:=by rw[hW6];simp[s5]
  have B5:Below w4.heap.size w4 W5:=by rw[hW5];exact box_bel _ _
  have B6:Below W5.heap.size W5 W6:=by rw[hW6];exact box_bel _ _
  have T5:TC w4.heap.size [.string P,.string D] W5:=by rw[hW5];exact TC.boxed w4 _ _
  have T6:TC (w4.heap.size+1) [.string Q,.string D] W6:=by rw[<-s5,hW6];exact TC.boxed W5 _ _
  have T56:=T5.block (B6.block _ (by omega));have Bw6:=Bw4.trans ((B5.trans (B6.mono B5.size)).mono Bw4.size);refine(R8 HR.out.1 HR.out.2.2.1 (by have:=HR.out.2.2.2.1;omega) w4.heap.size 2 W6 (by omega) (T56 0 _ rfl).1 (T56 1 _ rfl).1).mono ?_;rintro e w7 ⟨⟨s,rfl,hs⟩,B7⟩;have T67:=T6.block (B7.block _ (by omega));have hne:=hs.ne;have HS:=hyd hs;have HT:=hyd T67;have HBw:Hid (Below w.heap.size w w7/\w4.heap.size+1<w7.heap.size):=⟨Bw6.trans (B7.mono Bw6.size),by have:=B7.size;omega⟩;clear hs T67 B7 Bw6 T56 T6 T5 B6 B5 s5 s6 hW6 hW5 Bw4;go_wp2_with fail;refine(R8 HR.out.2.1 HR.out.2.2.1 (by have:=HR.out.2.2.2.2.1;omega) (w4.heap.size+1) 2 w7 HBw.out.2 (HT.out 0 _ rfl).1 (HT.out 1 _ rfl).1).mono ?_;rintro e w8 ⟨⟨s',rfl,hs'⟩,B8⟩;have e:=O0 HR.out.2.2.2.2.2 rfl HS.out hs';subst e;have HB8:=hyd (HBw.out.1.trans (B8.mono HBw.out.1.size));clear hs' B8 HS HT HBw;go_wp2_with fail;go_ret;exact⟨by simp,HB8.out⟩
 ·go_enter Try.func6,Try.ntmps6;go_wp2_with fail;refine(HA.out _).mono ?_;rintro e w1 ⟨rfl,B1⟩;go_wp2_with fail;refine(HB.out _).mono ?_;rintro e w2 ⟨rfl,B2⟩;go_wp2_with fail;refine(HC.out _).mono ?_;rintro e w3 ⟨rfl,B3⟩;go_wp2_with fail;refine(HPr.out _).mono ?_;rintro e w3 ⟨rfl,rfl⟩;go_wp2_with fail;refine(HD.out _).mono ?_;rintro e w4 ⟨rfl,B4⟩;have Bw4:=B1.trans ((B2.trans ((B3.trans (B4.mono B3.size)).mono B2.size)).mono B1.size);clear B1 B2 B3 B4 HA HB HC HD HPr;go_wp2_with fail;obtain⟨V5,hV5⟩:=nam (w4.alloc (.cells #[.string P,.string D] 9));obtain⟨V6,hV6⟩:=nam (V5.alloc (.cells #[.string Q,.string D] 9));obtain⟨W5,hW5⟩:=nam (V6.alloc (.cells #[.string D,.string P] 9));obtain⟨W6,hW6⟩:=nam (W5.alloc (.cells #[.string D,.string Q] 9));rw[<-hV5,<-hV6,<-hW5,<-hW6];have u5:V5.heap.size=w4.heap.size+1:=by rw[hV5];simp
  have u6:V6.heap.size=w4.heap.size+1+1:=by rw[hV6];simp[u5]
  have s5:W5.heap.size=w4.heap.size+1+1+1:=by rw[hW5];simp[u6]
  have s6:W6.heap.size=w4.heap.size+1+1+1+1:=by rw[hW6];simp[s5]
  have C5:Below w4.heap.size w4 V5:=by rw[hV5];exact box_bel _ _
  have C6:Below V5.heap.size V5 V6:=by rw[hV6];exact box_bel _ _
  have B5:Below V6.heap.size V6 W5:=by rw[hW5];exact box_bel _ _
  have B6:Below W5.heap.size W5 W6:=by rw[hW6];exact box_bel _ _
  have T5:TC (w4.heap.size+1+1) [.string D,.string P] W5:=by rw[<-u6,hW5];exact TC.boxed V6 _ _
  have T6:TC (w4.heap.size+1+1+1) [.string D,.string Q] W6:=by rw[<-s5,hW6];exact TC.boxed W5 _ _
  have T56:=T5.block (B6.block _ (by omega));have Bw6:=Bw4.trans ((C5.trans ((C6.trans ((B5.trans (B6.mono B5.size)).mono C6.size)).mono C5.size)).mono Bw4.size);refine(R8 HR.out.2.2.1 HR.out.1 (by have:=HR.out.2.2.2.1;omega) (w4.heap.size+1+1) 2 W6 (by omega) (T56 0 _ rfl).1 (T56 1 _ rfl).1).mono ?_;rintro e w7 ⟨⟨s,rfl,hs⟩,B7⟩;have T67:=T6.block (B7.block _ (by omega));have hne:=hs.ne;have HS:=hyd hs;have HT:=hyd T67;have HBw:Hid (Below w.heap.size w w7/\w4.heap.size+1+1+1<w7.heap.size):=⟨Bw6.trans (B7.mono Bw6.size),by have:=B7.size;omega⟩;clear hs T67 B7 Bw6 T56 T6 T5 B6 B5 C5 C6 u5 u6 s5 s6 hW6 hW5 hV5 hV6 Bw4;go_wp2_with fail;refine(R8 HR.out.2.2.1 HR.out.2.1 (by have:=HR.out.2.2.2.2.1;omega) (w4.heap.size+1+1+1) 2 w7 HBw.out.2 (HT.out 0 _ rfl).1 (HT.out 1 _ rfl).1).mono ?_;rintro e w8 ⟨⟨s',rfl,hs'⟩,B8⟩;have e:=O0 rfl HR.out.2.2.2.2.2 HS.out hs';subst e;have HB8:=hyd (HBw.out.1.trans (B8.mono HBw.out.1.size));clear hs' B8 HS HT HBw;go_wp2_with fail;go_ret;exact⟨by simp,HB8.out⟩
end Go.Proofs.Ytoaaklhpmhjhkab
