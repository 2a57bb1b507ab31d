import Derived.WalkSpells
import Derived.WalkLawsBesides
import Derived.Deep.QuietTactic
import Derived.BigQuiet
import Derived.Test.YtoaaklhpmhjhkaaGreatSp
import Derived.Test.YtoaaklhpmhjhkaaGreatC01
set_option maxRecDepth 100000
set_option maxHeartbeats 4000000
set_option linter.all false
namespace Go.Proofs.YtoaaklhpmhjhkaaGreat
open Go.Proofs.Tryz
open Go.RowKit
def YN(s:ByteArray)(i:Int)(w:World):
  Cp 192 #[.string s,I6 i] w λe w'=>e=.returned (I6 (Y7 s i))/\w'=w:=by
 by_cases h0:i<0
 .go_enter func192,ntmps192
  go_wp2
  go_ret;exact⟨Y2 (EY Qo).symm,rfl⟩
 by_cases h1:(s.size:Int)<=i
 .go_enter func192,ntmps192
  go_wp2
  go_ret;exact⟨Y2 (EY Qo).symm,rfl⟩
 go_enter func192,ntmps192
 go_wp2
 go_ret;exact⟨Y2 (by rw[JJ Qo Qo,Pq]),rfl⟩
def MV(b : Int)(w : World) :
  Cp 224 #[I6 b] w λe w' => e = .returned (.bool (Pg.iM b)) /\ w' = w := by
 go_enter func224, ntmps224
 go_wp2
 all_goals
  go_ret;refine ⟨YM ?_, rfl⟩;simp [Pg.iM, *]
def OV(b : Int)(w : World) :
  Cp 227 #[I6 b] w λe w' => e = .returned (.bool (Pg.iN b)) /\ w' = w := by
 go_enter func227, ntmps227
 go_wp2
 all_goals
  go_ret;refine ⟨YM ?_, rfl⟩;simp [Pg.iN, *]
def Xm(b:Int)(w:World):
  Cp 216 #[I6 b] w λe w'=>e=.returned (I6 (Pg.iI b))/\w'=w:=by
 by_cases h:48<=b/\b<=57
 .let⟨h1,h2⟩:=id h;go_enter func216,ntmps216
  go_wp2
  go_ret;exact⟨Y2 (by rw[Pg.iI,dF h]),rfl⟩
 by_cases h1:48<=b
 all_goals
  have h2:b<48\/57<b:=Qo
  go_enter func216,ntmps216
  go_wp2
  all_goals
   go_ret;exact⟨Y2 (by rw[Pg.iI,g_]),rfl⟩
def V6(b:Int)(w:World):
  Cp 226 #[I6 b] w λe w'=>e=.returned (I6 (Pg.gU b))/\w'=w:=by
 by_cases h:97<=b/\b<=102
 .let⟨h1,h2⟩:=id h;go_enter func226,ntmps226
  go_wp2
  go_ret;exact⟨Y2 (by rw[Pg.gU,dF h]),rfl⟩
 have a:Hid (Pg.gU b=Pg.iI b):=by show _=_;rw[Pg.gU,dG h]
 by_cases h1:97<=b
 .have h2:¬b<=102:=Qo
  go_enter func226,ntmps226;go_wp2_with fail;apply(Xm b _).mono;rintro e w' ⟨rfl,rfl⟩;go_wp2;go_ret;exact⟨Y2 a.o.symm,rfl⟩
 go_enter func226,ntmps226;go_wp2_with fail;apply(Xm b _).mono;rintro e w' ⟨rfl,rfl⟩;go_wp2;go_ret;exact⟨Y2 a.o.symm,rfl⟩
def F9(b:Int)(w:World):
  Cp 193 #[I6 b] w λe w'=>e=.returned (I6 (Pg.hY b))/\w'=w:=by
 go_enter func193,ntmps193
 go_wp2
 all_goals
  go_ret;refine⟨Y2 ?_,rfl⟩;simp only[dq,dU]at *;unfold Pg.hY
  repeat' split
  all_goals first|rfl|omega
def Ti(k : Int)(w : World) :
  Cp 204 #[I6 k] w λe w' => e = .returned (.bool (Pg.gI k)) /\ w' = w := by
 go_enter func204, ntmps204
 go_wp2
 all_goals
  go_ret;refine ⟨YM ?_, rfl⟩;simp [Pg.gI, *]
def Se(k:Int)(w:World):
  Cp 196 #[I6 k] w λe w'=>e=.returned (I6 (Pg.opn k))/\w'=w:=by
 go_enter func196,ntmps196
 go_wp2
 all_goals
  go_ret;refine⟨Y2 ?_,rfl⟩;simp only[dq,dU]at *;unfold Pg.opn
  repeat' split
  all_goals first|rfl|omega
def LF(k:Int)(w:World):
  Cp 205 #[I6 k] w λe w'=>e=.returned (.bool (Pg.hJ k))/\w'=w:=by
 cases h1:(k==1)
 .cases h3:(k==3)
  .go_enter func205,ntmps205;go_wp2_with fail;apply(Ti k _).mono;rintro e w' ⟨rfl,rfl⟩;go_wp2;go_ret;exact⟨YM (by simp[Pg.hJ,h1,h3]),rfl⟩
  go_enter func205,ntmps205;go_wp2;go_ret;exact⟨YM (by simp[Pg.hJ,h1,h3]),rfl⟩
 go_enter func205,ntmps205;go_wp2;go_ret;exact⟨YM (by simp[Pg.hJ,h1]),rfl⟩
def JM(k b o:Int)(w:World):
  Cp 194 #[I6 k,I6 b,I6 o] w λe w'=>e=.returned (.bool (Pg.gX k b o))/\w'=w:=by
 by_cases h0:k=0
 .subst h0;go_enter func194,ntmps194;go_wp2;go_ret;exact⟨rfl,rfl⟩
 have c:(k==0)=false:=by simpa using h0
 by_cases h3:k=3
 .subst h3;go_enter func194,ntmps194;go_wp2;go_ret;exact⟨YM (by simp[Pg.gX]),rfl⟩
 have d:(k==3)=false:=by simpa using h3
 have a:Hid (Pg.gX k b o=if Pg.gI k then Pg.hJ b else true):=by show _=_;simp[Pg.gX,h0,h3]
 go_enter func194,ntmps194;go_wp2_with fail;apply(Ti k _).mono;rintro e w' ⟨rfl,rfl⟩;cases hs:Pg.gI k
 .have HS:=hyd hs;go_wp2;go_ret;exact⟨YM (by rw[a.o,HS.o];rfl),rfl⟩
 have HS:=hyd hs;go_wp2_with fail;apply(LF b _).mono;rintro e w' ⟨rfl,rfl⟩;go_wp2;go_ret;exact⟨YM (by rw[a.o,HS.o];rfl),rfl⟩
def Yw(n:Int)(w:World):
  Cp 191 #[I6 n] w λe w'=>e=.returned (I6 (Pg.gW n))/\w'=w:=by
 by_cases h:96<n
 .go_enter func191,ntmps191;go_wp2;go_ret;exact⟨Y2 (by rw[Pg.gW,dF h]),rfl⟩
 go_enter func191,ntmps191;go_wp2;go_ret;exact⟨Y2 (by rw[Pg.gW,g_]),rfl⟩
def WL(w:World)(r:Pg.R)(e:Ending)(w':World):Prop:=e=.returned (.tuple #[.int .i64 r.v,.int .i64 r.n,.bool r.ok])/\w'=w
variable {w w':World}
def WL.mk'{r:Pg.R}{e:Ending}(v n:Int)(ok:Bool)(H:r=⟨v,n,ok⟩)(z:e=.returned (.tuple #[I6 v,I6 n,.bool ok]))(J:w'=w):WL w r e w':=by
 subst H;exact⟨z,J⟩
def I9(s:ByteArray)(i:Int)(w:World)(h0:0<=i)(h1:i<=1000):
  Cp 223 #[.string s,I6 i] w (WL w (Pg.ii (Y7 s) i)):=by
 have c:=Pg.gJ (Y7 s i);have b:=Pg.gJ (Y7 s (i+1));by_cases c1:Pg.gU (Y7 s i)<0
 .have a:Hid (Pg.ii (Y7 s) i=⟨0,i,false⟩):=by show _=_;rw[Pg.ii,dF c1]
  go_enter func223,ntmps223;go_wp2_with fail;apply(YN s i _).mono;rintro e w' ⟨rfl,rfl⟩;go_wp2_with fail;apply(V6 _ _).mono;rintro e w' ⟨rfl,rfl⟩;go_wp2;go_ret3;exact WL.mk' _ _ _ a rfl rfl
 by_cases c2:Pg.gU (Y7 s (i+1))<0
 .have a:Hid (Pg.ii (Y7 s) i=⟨0,i+1,false⟩):=by show _=_;rw[Pg.ii,dG c1,dF c2]
  go_enter func223,ntmps223;go_wp2_with fail;apply(YN s i _).mono;rintro e w' ⟨rfl,rfl⟩;go_wp2_with fail;apply(V6 _ _).mono;rintro e w' ⟨rfl,rfl⟩;go_wp2_with fail;apply(YN s (i+1) _).mono;rintro e w' ⟨rfl,rfl⟩;go_wp2_with fail;apply(V6 _ _).mono;rintro e w' ⟨rfl,rfl⟩;go_wp2;go_ret3;exact WL.mk' _ _ _ a rfl rfl
 have a:Hid (Pg.ii (Y7 s) i=⟨Pg.gU (Y7 s i)*16+Pg.gU (Y7 s (i+1)),i+2,true⟩):=by show _=_;rw[Pg.ii,dG c1,dG c2]
 go_enter func223,ntmps223;go_wp2_with fail;apply(YN s i _).mono;rintro e w' ⟨rfl,rfl⟩;go_wp2_with fail;apply(V6 _ _).mono;rintro e w' ⟨rfl,rfl⟩;go_wp2_with fail;apply(YN s (i+1) _).mono;rintro e w' ⟨rfl,rfl⟩;go_wp2_with fail;apply(V6 _ _).mono;rintro e w' ⟨rfl,rfl⟩;go_wp2;go_ret3;exact WL.mk' _ _ _ a rfl rfl
def SH(s:ByteArray)(i:Int)(w:World)(h0:0<=i)(h1:i<=500):
  Cp 215 #[.string s,I6 i] w (WL w (Pg.iz (Y7 s) i)):=by
 by_cases c1:Y7 s (i+1)=110
 .have a:Hid (Pg.iz (Y7 s) i=⟨10,i+2,true⟩):=by show _=_;rw[Pg.iz,dF c1]
  have c:(Y7 s (i+1)==110)=true:=by simpa using c1
  go_enter func215,ntmps215;go_wp2_with fail;apply(YN s (i+1) _).mono;rintro e w' ⟨rfl,rfl⟩;go_wp2;go_ret3;exact WL.mk' _ _ _ a rfl rfl
 have c:(Y7 s (i+1)==110)=false:=by simpa using c1
 by_cases c2:Y7 s (i+1)=116
 .have a:Hid (Pg.iz (Y7 s) i=⟨9,i+2,true⟩):=by show _=_;rw[Pg.iz,dG c1,dF c2]
  have d:(Y7 s (i+1)==116)=true:=by simpa using c2
  go_enter func215,ntmps215;go_wp2_with fail;apply(YN s (i+1) _).mono;rintro e w' ⟨rfl,rfl⟩;go_wp2;go_ret3;exact WL.mk' _ _ _ a rfl rfl
 have d:(Y7 s (i+1)==116)=false:=by simpa using c2
 by_cases c3:Y7 s (i+1)=120
 .have a:Hid (Pg.iz (Y7 s) i=Pg.ii (Y7 s) (i+2)):=by show _=_;rw[Pg.iz,dG c1,dG c2,dF c3]
  have f:(Y7 s (i+1)==120)=true:=by simpa using c3
  go_enter func215,ntmps215;go_wp2_with fail;apply(YN s (i+1) _).mono;rintro e w' ⟨rfl,rfl⟩;go_wp2_with fail;apply(I9 s (i+2) _ Qo Qo).mono;rintro e w' ⟨rfl,rfl⟩;go_wp2;go_ret3;exact WL.mk' _ _ _ a rfl rfl
 have f:(Y7 s (i+1)==120)=false:=by simpa using c3
 cases c4:Pg.iM (Y7 s (i+1))
 .have a:Hid (Pg.iz (Y7 s) i=⟨0,i+1,false⟩):=by show _=_;rw[Pg.iz,dG c1,dG c2,dG c3,c4];rfl
  have b:=hyd c4;go_enter func215,ntmps215;go_wp2_with fail;apply(YN s (i+1) _).mono;rintro e w' ⟨rfl,rfl⟩;go_wp2_with fail;apply(MV _ _).mono;rintro e w' ⟨rfl,rfl⟩;rw[b.o];go_wp2;go_ret3;exact WL.mk' _ _ _ a.o rfl rfl
 have a:Hid (Pg.iz (Y7 s) i=⟨Y7 s (i+1),i+2,true⟩):=by show _=_;rw[Pg.iz,dG c1,dG c2,dG c3,c4];rfl
 have b:=hyd c4;go_enter func215,ntmps215;go_wp2_with fail;apply(YN s (i+1) _).mono;rintro e w' ⟨rfl,rfl⟩;go_wp2_with fail;apply(MV _ _).mono;rintro e w' ⟨rfl,rfl⟩;rw[b.o];go_wp2;go_ret3;exact WL.mk' _ _ _ a.o rfl rfl
def Ux(s:ByteArray)(i:Int)(w:World)(h0:0<=i)(h1:i<=500):
  Cp 225 #[.string s,I6 i] w (WL w (Pg.iK (Y7 s) i)):=by
 by_cases c1:Y7 s i=92
 .have a:Hid (Pg.iK (Y7 s) i=Pg.iz (Y7 s) i):=by show _=_;rw[Pg.iK,dF c1]
  have c:(Y7 s i==92)=true:=by simpa using c1
  go_enter func225,ntmps225;go_wp2_with fail;apply(YN s i _).mono;rintro e w' ⟨rfl,rfl⟩;go_wp2_with fail;apply(SH s i _ Qo Qo).mono;rintro e w' ⟨rfl,rfl⟩;go_wp2;go_ret3;exact WL.mk' _ _ _ a rfl rfl
 have c:(Y7 s i==92)=false:=by simpa using c1
 cases c4:Pg.iN (Y7 s i)
 .have a:Hid (Pg.iK (Y7 s) i=⟨0,i,false⟩):=by show _=_;rw[Pg.iK,dG c1,c4];rfl
  have b:=hyd c4;go_enter func225,ntmps225;go_wp2_with fail;apply(YN s i _).mono;rintro e w' ⟨rfl,rfl⟩;go_wp2_with fail;apply(OV _ _).mono;rintro e w' ⟨rfl,rfl⟩;rw[b.o];go_wp2;go_ret3;exact WL.mk' _ _ _ a.o rfl rfl
 have a:Hid (Pg.iK (Y7 s) i=⟨Y7 s i,i+1,true⟩):=by show _=_;rw[Pg.iK,dG c1,c4];rfl
 have b:=hyd c4;go_enter func225,ntmps225;go_wp2_with fail;apply(YN s i _).mono;rintro e w' ⟨rfl,rfl⟩;go_wp2_with fail;apply(OV _ _).mono;rintro e w' ⟨rfl,rfl⟩;rw[b.o];go_wp2;go_ret3;exact WL.mk' _ _ _ a.o rfl rfl
def KQ(w:World)(r:Pg.I)(e:Ending)(w':World):Prop:=e=.returned (.tuple #[.int .i64 r.lo,.int .i64 r.hi,.int .i64 r.n,.bool r.ok])/\w'=w
def KQ.mk'{r:Pg.I}{e:Ending}(lo z n:Int)(ok:Bool)(J:r=⟨lo,z,n,ok⟩)(H:e=.returned (.tuple #[I6 lo,I6 z,I6 n,.bool ok]))(Y:w'=w):KQ w r e w':=by
 subst J;exact⟨H,Y⟩
def QA(s:ByteArray)(i:Int)(w:World)(h0:0<=i)(h1:i<=400):
  Cp 222 #[.string s,I6 i] w (KQ w (Pg.ir (Y7 s) i)):=by
 have f:=Pg.iQ (Y7 s) i (Mw s);let⟨g,h,j,k,_⟩:=f;cases hok:(Pg.iK (Y7 s) i).ok
 .have a:Hid (Pg.ir (Y7 s) i=⟨0,0,(Pg.iK (Y7 s) i).n,false⟩):=by show _=_;rw[Pg.ir,hok];rfl
  have b:=hyd hok;go_enter func222,ntmps222;go_wp2_with fail;apply(Ux s i _ Qo Qo).mono;rintro e w' ⟨rfl,rfl⟩;rw[b.o];go_wp2;refine Zr (v:=.tuple #[I6 0,I6 0,I6 (Pg.iK (Y7 s) i).n,.bool false]) (by simp[results,results222,go_sem]) rfl (KQ.mk' _ _ _ _ a.o rfl rfl)
 have b:=hyd hok;by_cases c:Y7 s (Pg.iK (Y7 s) i).n=45
 .have a:Hid (Pg.ir (Y7 s) i=⟨(Pg.iK (Y7 s) i).v,(Pg.iK (Y7 s) ((Pg.iK (Y7 s) i).n+1)).v,(Pg.iK (Y7 s) ((Pg.iK (Y7 s) i).n+1)).n,(Pg.iK (Y7 s) ((Pg.iK (Y7 s) i).n+1)).ok⟩):=by show _=_;rw[Pg.ir,dF hok,dF c]
  have d:(Y7 s (Pg.iK (Y7 s) i).n==45)=true:=by simpa using c
  go_enter func222,ntmps222;go_wp2_with fail;apply(Ux s i _ Qo Qo).mono;rintro e w' ⟨rfl,rfl⟩;rw[b.o];go_wp2_with fail;apply(YN s _ _).mono;rintro e w' ⟨rfl,rfl⟩;go_wp2_with fail;apply(Ux s ((Pg.iK (Y7 s) i).n+1) _ Qo Qo).mono;rintro e w' ⟨rfl,rfl⟩;go_wp2;refine Zr (v:=.tuple #[I6 (Pg.iK (Y7 s) i).v,I6 (Pg.iK (Y7 s) ((Pg.iK (Y7 s) i).n+1)).v,I6 (Pg.iK (Y7 s) ((Pg.iK (Y7 s) i).n+1)).n,.bool (Pg.iK (Y7 s) ((Pg.iK (Y7 s) i).n+1)).ok]) (by simp[results,results222,go_sem]) rfl (KQ.mk' _ _ _ _ a.o rfl rfl)
 have a:Hid (Pg.ir (Y7 s) i=⟨(Pg.iK (Y7 s) i).v,(Pg.iK (Y7 s) i).v,(Pg.iK (Y7 s) i).n,true⟩):=by show _=_;rw[Pg.ir,dF hok,dG c]
 have d:(Y7 s (Pg.iK (Y7 s) i).n==45)=false:=by simpa using c
 go_enter func222,ntmps222;go_wp2_with fail;apply(Ux s i _ Qo Qo).mono;rintro e w' ⟨rfl,rfl⟩;rw[b.o];go_wp2_with fail;apply(YN s _ _).mono;rintro e w' ⟨rfl,rfl⟩;go_wp2;refine Zr (v:=.tuple #[I6 (Pg.iK (Y7 s) i).v,I6 (Pg.iK (Y7 s) i).v,I6 (Pg.iK (Y7 s) i).n,.bool true]) (by simp[results,results222,go_sem]) rfl (KQ.mk' _ _ _ _ a.o rfl rfl)
def Ko(s:ByteArray)(i l:Int)(w:World)(h0:0<=i)(h1:i<=400):
  Cp 217 #[.string s,I6 i,I6 l] w (WL w (Pg.gR (Y7 s) i l)):=by
 by_cases c1:Y7 s i=125
 .have a:Hid (Pg.gR (Y7 s) i l=⟨l,i+1,true⟩):=by show _=_;rw[Pg.gR,dF c1]
  have b:(Y7 s i==125)=true:=by simpa using c1
  go_enter func217,ntmps217;go_wp2_with fail;apply(YN s i _).mono;rintro e w' ⟨rfl,rfl⟩;go_wp2;go_ret3;exact WL.mk' _ _ _ a rfl rfl
 have b:(Y7 s i==125)=false:=by simpa using c1
 by_cases c2:Y7 s i=44
 .have c:(Y7 s i==44)=true:=by simpa using c2
  by_cases c3:Pg.iI (Y7 s (i+1))<0
  .have a:Hid (Pg.gR (Y7 s) i l=⟨0,i+1,false⟩):=by show _=_;rw[Pg.gR,dG c1,dF c2,dF c3]
   go_enter func217,ntmps217;go_wp2_with fail;apply(YN s i _).mono;rintro e w' ⟨rfl,rfl⟩;go_wp2_with fail;apply(YN s (i+1) _).mono;rintro e w' ⟨rfl,rfl⟩;go_wp2_with fail;apply(Xm _ _).mono;rintro e w' ⟨rfl,rfl⟩;go_wp2;go_ret3;exact WL.mk' _ _ _ a rfl rfl
  by_cases c4:Y7 s (i+2)=125
  .have a:Hid (Pg.gR (Y7 s) i l=⟨Pg.iI (Y7 s (i+1)),i+3,true⟩):=by show _=_;rw[Pg.gR,dG c1,dF c2,dG c3,dF c4]
   have d:(Y7 s (i+2)==125)=true:=by simpa using c4
   go_enter func217,ntmps217;go_wp2_with fail;apply(YN s i _).mono;rintro e w' ⟨rfl,rfl⟩;go_wp2_with fail;apply(YN s (i+1) _).mono;rintro e w' ⟨rfl,rfl⟩;go_wp2_with fail;apply(Xm _ _).mono;rintro e w' ⟨rfl,rfl⟩;go_wp2_with fail;apply(YN s (i+2) _).mono;rintro e w' ⟨rfl,rfl⟩;go_wp2;go_ret3;exact WL.mk' _ _ _ a rfl rfl
  have a:Hid (Pg.gR (Y7 s) i l=⟨0,i+2,false⟩):=by show _=_;rw[Pg.gR,dG c1,dF c2,dG c3,dG c4]
  have d:(Y7 s (i+2)==125)=false:=by simpa using c4
  go_enter func217,ntmps217;go_wp2_with fail;apply(YN s i _).mono;rintro e w' ⟨rfl,rfl⟩;go_wp2_with fail;apply(YN s (i+1) _).mono;rintro e w' ⟨rfl,rfl⟩;go_wp2_with fail;apply(Xm _ _).mono;rintro e w' ⟨rfl,rfl⟩;go_wp2_with fail;apply(YN s (i+2) _).mono;rintro e w' ⟨rfl,rfl⟩;go_wp2;go_ret3;exact WL.mk' _ _ _ a rfl rfl
 have a:Hid (Pg.gR (Y7 s) i l=⟨0,i,false⟩):=by show _=_;rw[Pg.gR,dG c1,dG c2]
 have c:(Y7 s i==44)=false:=by simpa using c2
 go_enter func217,ntmps217;go_wp2_with fail;apply(YN s i _).mono;rintro e w' ⟨rfl,rfl⟩;go_wp2;go_ret3;exact WL.mk' _ _ _ a rfl rfl
