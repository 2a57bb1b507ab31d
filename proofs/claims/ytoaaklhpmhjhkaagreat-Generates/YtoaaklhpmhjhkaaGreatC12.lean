import Derived.WalkSpells
import Derived.WalkLawsBesides
import Derived.Deep.QuietTactic
import Derived.BigQuiet
import Derived.Test.YtoaaklhpmhjhkaaGreatSp
import Derived.Test.YtoaaklhpmhjhkaaGreatC01
set_option maxRecDepth 100000
set_option maxHeartbeats 4000000
set_option linter.all false
namespace Go.Proofs.YtoaaklhpmhjhkaaGreat
open Go.RowKit
theorem YP (s:ByteArray) (i:Int) (w:World):
  Cp 192 #[.string s,I6 i] w λe w'=>e=.returned (I6 (Y7 s i))/\w'=w:=by
 by_cases h0:i<0
 ·go_enter Tryz.func192,Tryz.ntmps192
  go_wp2
  go_ret;exact⟨YY (Ig (by omega)).symm,rfl⟩
 by_cases h1:(s.size:Int)<=i
 ·go_enter Tryz.func192,Tryz.ntmps192
  go_wp2
  go_ret;exact⟨YY (Ig (by omega)).symm,rfl⟩
 go_enter Tryz.func192,Tryz.ntmps192
 go_wp2
 go_ret;exact⟨YY (by rw[Lf (by omega) (by omega),Qf]),rfl⟩
theorem NQ (b : Int) (w : World) :
  Cp 224 #[I6 b] w λe w' => e = .returned (.bool (Pg.isMark b)) /\ w' = w := by
 go_enter Tryz.func224, Tryz.ntmps224
 go_wp2
 all_goals
  go_ret;refine ⟨YN ?_, rfl⟩;simp [Pg.isMark, *]
theorem PO (b : Int) (w : World) :
  Cp 227 #[I6 b] w λe w' => e = .returned (.bool (Pg.isInner b)) /\ w' = w := by
 go_enter Tryz.func227, Tryz.ntmps227
 go_wp2
 all_goals
  go_ret;refine ⟨YN ?_, rfl⟩;simp [Pg.isInner, *]
theorem Xv (b:Int) (w:World):
  Cp 216 #[I6 b] w λe w'=>e=.returned (I6 (Pg.digitValue b))/\w'=w:=by
 by_cases h:48<=b/\b<=57
 ·obtain⟨h1,h2⟩:=id h;go_enter Tryz.func216,Tryz.ntmps216
  go_wp2
  go_ret;exact⟨YY (by rw[Pg.digitValue,if_pos h]),rfl⟩
 by_cases h1:48<=b
 all_goals
  have h2:b<48\/57<b:=by omega
  go_enter Tryz.func216,Tryz.ntmps216
  go_wp2
  all_goals
   go_ret;exact⟨YY (by rw[Pg.digitValue,g_]),rfl⟩
theorem Wk (b:Int) (w:World):
  Cp 226 #[I6 b] w λe w'=>e=.returned (I6 (Pg.hexValue b))/\w'=w:=by
 by_cases h:97<=b/\b<=102
 ·obtain⟨h1,h2⟩:=id h;go_enter Tryz.func226,Tryz.ntmps226
  go_wp2
  go_ret;exact⟨YY (by rw[Pg.hexValue,if_pos h]),rfl⟩
 have a:Hid (Pg.hexValue b=Pg.digitValue b):=by show _=_;rw[Pg.hexValue,if_neg h]
 by_cases h1:97<=b
 ·have h2:¬b<=102:=by omega
  go_enter Tryz.func226,Tryz.ntmps226;go_wp2_with fail;refine(Xv b _).mono ?_;rintro e w' ⟨rfl,rfl⟩;go_wp2;go_ret;exact⟨YY a.out.symm,rfl⟩
 go_enter Tryz.func226,Tryz.ntmps226;go_wp2_with fail;refine(Xv b _).mono ?_;rintro e w' ⟨rfl,rfl⟩;go_wp2;go_ret;exact⟨YY a.out.symm,rfl⟩
theorem IY (b:Int) (w:World):
  Cp 193 #[I6 b] w λe w'=>e=.returned (I6 (Pg.kindOf b))/\w'=w:=by
 go_enter Tryz.func193,Tryz.ntmps193
 go_wp2
 all_goals
  go_ret;refine⟨YY ?_,rfl⟩;simp only[beq_iff_eq,beq_eq_false_iff_ne]at *;unfold Pg.kindOf
  repeat' split
  all_goals first|rfl|omega
theorem TT (k : Int) (w : World) :
  Cp 204 #[I6 k] w λe w' => e = .returned (.bool (Pg.isSuffix k)) /\ w' = w := by
 go_enter Tryz.func204, Tryz.ntmps204
 go_wp2
 all_goals
  go_ret;refine ⟨YN ?_, rfl⟩;simp [Pg.isSuffix, *]
theorem Sz (k:Int) (w:World):
  Cp 196 #[I6 k] w λe w'=>e=.returned (I6 (Pg.opn k))/\w'=w:=by
 go_enter Tryz.func196,Tryz.ntmps196
 go_wp2
 all_goals
  go_ret;refine⟨YY ?_,rfl⟩;simp only[beq_iff_eq,beq_eq_false_iff_ne]at *;unfold Pg.opn
  repeat' split
  all_goals first|rfl|omega
theorem MK (k:Int) (w:World):
  Cp 205 #[I6 k] w λe w'=>e=.returned (.bool (Pg.endsPiece k))/\w'=w:=by
 cases h1:(k==1)
 ·cases h3:(k==3)
  ·go_enter Tryz.func205,Tryz.ntmps205;go_wp2_with fail;refine(TT k _).mono ?_;rintro e w' ⟨rfl,rfl⟩;go_wp2;go_ret;exact⟨YN (by simp[Pg.endsPiece,h1,h3]),rfl⟩
  go_enter Tryz.func205,Tryz.ntmps205;go_wp2;go_ret;exact⟨YN (by simp[Pg.endsPiece,h1,h3]),rfl⟩
 go_enter Tryz.func205,Tryz.ntmps205;go_wp2;go_ret;exact⟨YN (by simp[Pg.endsPiece,h1]),rfl⟩
theorem Li (k b o:Int) (w:World):
  Cp 194 #[I6 k,I6 b,I6 o] w λe w'=>e=.returned (.bool (Pg.canStand k b o))/\w'=w:=by
 by_cases h0:k=0
 ·subst h0;go_enter Tryz.func194,Tryz.ntmps194;go_wp2;go_ret;exact⟨rfl,rfl⟩
 have c:(k==0)=false:=by simpa using h0
 by_cases h3:k=3
 ·subst h3;go_enter Tryz.func194,Tryz.ntmps194;go_wp2;go_ret;exact⟨YN (by simp[Pg.canStand]),rfl⟩
 have d:(k==3)=false:=by simpa using h3
 have a:Hid (Pg.canStand k b o=if Pg.isSuffix k then Pg.endsPiece b else true):=by show _=_;simp[Pg.canStand,h0,h3]
 go_enter Tryz.func194,Tryz.ntmps194;go_wp2_with fail;refine(TT k _).mono ?_;rintro e w' ⟨rfl,rfl⟩;cases hs:Pg.isSuffix k
 ·have HS:=hyd hs;go_wp2;go_ret;exact⟨YN (by rw[a.out,HS.out];rfl),rfl⟩
 have HS:=hyd hs;go_wp2_with fail;refine(MK b _).mono ?_;rintro e w' ⟨rfl,rfl⟩;go_wp2;go_ret;exact⟨YN (by rw[a.out,HS.out];rfl),rfl⟩
theorem Yy (n:Int) (w:World):
  Cp 191 #[I6 n] w λe w'=>e=.returned (I6 (Pg.capped n))/\w'=w:=by
 by_cases h:96<n
 ·go_enter Tryz.func191,Tryz.ntmps191;go_wp2;go_ret;exact⟨YY (by rw[Pg.capped,if_pos h]),rfl⟩
 go_enter Tryz.func191,Tryz.ntmps191;go_wp2;go_ret;exact⟨YY (by rw[Pg.capped,g_]),rfl⟩
def WR (w:World) (r:Pg.R) (e:Ending) (w':World):Prop:=e=.returned (.tuple #[.int .i64 r.v,.int .i64 r.n,.bool r.ok])/\w'=w
variable {w w':World}
theorem WR.mk' {r:Pg.R}{e:Ending} (v n:Int) (ok:Bool) (z:r=⟨v,n,ok⟩) (y:e=.returned (.tuple #[I6 v,I6 n,.bool ok])) (H:w'=w):WR w r e w':=by
 subst z;exact⟨y,H⟩
theorem KI (s:ByteArray) (i:Int) (w:World) (h0:0<=i) (h1:i<=1000):
  Cp 223 #[.string s,I6 i] w (WR w (Pg.readHex (Y7 s) i)):=by
 have c:=Pg.hexValue_bd (Y7 s i);have b:=Pg.hexValue_bd (Y7 s (i+1));by_cases c1:Pg.hexValue (Y7 s i)<0
 ·have a:Hid (Pg.readHex (Y7 s) i=⟨0,i,false⟩):=by show _=_;rw[Pg.readHex,if_pos c1]
  go_enter Tryz.func223,Tryz.ntmps223;go_wp2_with fail;refine(YP s i _).mono ?_;rintro e w' ⟨rfl,rfl⟩;go_wp2_with fail;refine(Wk _ _).mono ?_;rintro e w' ⟨rfl,rfl⟩;go_wp2;go_ret3;exact WR.mk' _ _ _ a rfl rfl
 by_cases c2:Pg.hexValue (Y7 s (i+1))<0
 ·have a:Hid (Pg.readHex (Y7 s) i=⟨0,i+1,false⟩):=by show _=_;rw[Pg.readHex,if_neg c1,if_pos c2]
  go_enter Tryz.func223,Tryz.ntmps223;go_wp2_with fail;refine(YP s i _).mono ?_;rintro e w' ⟨rfl,rfl⟩;go_wp2_with fail;refine(Wk _ _).mono ?_;rintro e w' ⟨rfl,rfl⟩;go_wp2_with fail;refine(YP s (i+1) _).mono ?_;rintro e w' ⟨rfl,rfl⟩;go_wp2_with fail;refine(Wk _ _).mono ?_;rintro e w' ⟨rfl,rfl⟩;go_wp2;go_ret3;exact WR.mk' _ _ _ a rfl rfl
 have a:Hid (Pg.readHex (Y7 s) i=⟨Pg.hexValue (Y7 s i)*16+Pg.hexValue (Y7 s (i+1)),i+2,true⟩):=by show _=_;rw[Pg.readHex,if_neg c1,if_neg c2]
 go_enter Tryz.func223,Tryz.ntmps223;go_wp2_with fail;refine(YP s i _).mono ?_;rintro e w' ⟨rfl,rfl⟩;go_wp2_with fail;refine(Wk _ _).mono ?_;rintro e w' ⟨rfl,rfl⟩;go_wp2_with fail;refine(YP s (i+1) _).mono ?_;rintro e w' ⟨rfl,rfl⟩;go_wp2_with fail;refine(Wk _ _).mono ?_;rintro e w' ⟨rfl,rfl⟩;go_wp2;go_ret3;exact WR.mk' _ _ _ a rfl rfl
theorem Tj (s:ByteArray) (i:Int) (w:World) (h0:0<=i) (h1:i<=500):
  Cp 215 #[.string s,I6 i] w (WR w (Pg.readEscape (Y7 s) i)):=by
 by_cases c1:Y7 s (i+1)=110
 ·have a:Hid (Pg.readEscape (Y7 s) i=⟨10,i+2,true⟩):=by show _=_;rw[Pg.readEscape,if_pos c1]
  have c:(Y7 s (i+1)==110)=true:=by simpa using c1
  go_enter Tryz.func215,Tryz.ntmps215;go_wp2_with fail;refine(YP s (i+1) _).mono ?_;rintro e w' ⟨rfl,rfl⟩;go_wp2;go_ret3;exact WR.mk' _ _ _ a rfl rfl
 have c:(Y7 s (i+1)==110)=false:=by simpa using c1
 by_cases c2:Y7 s (i+1)=116
 ·have a:Hid (Pg.readEscape (Y7 s) i=⟨9,i+2,true⟩):=by show _=_;rw[Pg.readEscape,if_neg c1,if_pos c2]
  have d:(Y7 s (i+1)==116)=true:=by simpa using c2
  go_enter Tryz.func215,Tryz.ntmps215;go_wp2_with fail;refine(YP s (i+1) _).mono ?_;rintro e w' ⟨rfl,rfl⟩;go_wp2;go_ret3;exact WR.mk' _ _ _ a rfl rfl
 have d:(Y7 s (i+1)==116)=false:=by simpa using c2
 by_cases c3:Y7 s (i+1)=120
 ·have a:Hid (Pg.readEscape (Y7 s) i=Pg.readHex (Y7 s) (i+2)):=by show _=_;rw[Pg.readEscape,if_neg c1,if_neg c2,if_pos c3]
  have f:(Y7 s (i+1)==120)=true:=by simpa using c3
  go_enter Tryz.func215,Tryz.ntmps215;go_wp2_with fail;refine(YP s (i+1) _).mono ?_;rintro e w' ⟨rfl,rfl⟩;go_wp2_with fail;refine(KI s (i+2) _ (by omega) (by omega)).mono ?_;rintro e w' ⟨rfl,rfl⟩;go_wp2;go_ret3;exact WR.mk' _ _ _ a rfl rfl
 have f:(Y7 s (i+1)==120)=false:=by simpa using c3
 cases c4:Pg.isMark (Y7 s (i+1))
 ·have a:Hid (Pg.readEscape (Y7 s) i=⟨0,i+1,false⟩):=by show _=_;rw[Pg.readEscape,if_neg c1,if_neg c2,if_neg c3,c4];rfl
  have b:=hyd c4;go_enter Tryz.func215,Tryz.ntmps215;go_wp2_with fail;refine(YP s (i+1) _).mono ?_;rintro e w' ⟨rfl,rfl⟩;go_wp2_with fail;refine(NQ _ _).mono ?_;rintro e w' ⟨rfl,rfl⟩;rw[b.out];go_wp2;go_ret3;exact WR.mk' _ _ _ a.out rfl rfl
 have a:Hid (Pg.readEscape (Y7 s) i=⟨Y7 s (i+1),i+2,true⟩):=by show _=_;rw[Pg.readEscape,if_neg c1,if_neg c2,if_neg c3,c4];rfl
 have b:=hyd c4;go_enter Tryz.func215,Tryz.ntmps215;go_wp2_with fail;refine(YP s (i+1) _).mono ?_;rintro e w' ⟨rfl,rfl⟩;go_wp2_with fail;refine(NQ _ _).mono ?_;rintro e w' ⟨rfl,rfl⟩;rw[b.out];go_wp2;go_ret3;exact WR.mk' _ _ _ a.out rfl rfl
theorem UN (s:ByteArray) (i:Int) (w:World) (h0:0<=i) (h1:i<=500):
  Cp 225 #[.string s,I6 i] w (WR w (Pg.readOne (Y7 s) i)):=by
 by_cases c1:Y7 s i=92
 ·have a:Hid (Pg.readOne (Y7 s) i=Pg.readEscape (Y7 s) i):=by show _=_;rw[Pg.readOne,if_pos c1]
  have c:(Y7 s i==92)=true:=by simpa using c1
  go_enter Tryz.func225,Tryz.ntmps225;go_wp2_with fail;refine(YP s i _).mono ?_;rintro e w' ⟨rfl,rfl⟩;go_wp2_with fail;refine(Tj s i _ (by omega) (by omega)).mono ?_;rintro e w' ⟨rfl,rfl⟩;go_wp2;go_ret3;exact WR.mk' _ _ _ a rfl rfl
 have c:(Y7 s i==92)=false:=by simpa using c1
 cases c4:Pg.isInner (Y7 s i)
 ·have a:Hid (Pg.readOne (Y7 s) i=⟨0,i,false⟩):=by show _=_;rw[Pg.readOne,if_neg c1,c4];rfl
  have b:=hyd c4;go_enter Tryz.func225,Tryz.ntmps225;go_wp2_with fail;refine(YP s i _).mono ?_;rintro e w' ⟨rfl,rfl⟩;go_wp2_with fail;refine(PO _ _).mono ?_;rintro e w' ⟨rfl,rfl⟩;rw[b.out];go_wp2;go_ret3;exact WR.mk' _ _ _ a.out rfl rfl
 have a:Hid (Pg.readOne (Y7 s) i=⟨Y7 s i,i+1,true⟩):=by show _=_;rw[Pg.readOne,if_neg c1,c4];rfl
 have b:=hyd c4;go_enter Tryz.func225,Tryz.ntmps225;go_wp2_with fail;refine(YP s i _).mono ?_;rintro e w' ⟨rfl,rfl⟩;go_wp2_with fail;refine(PO _ _).mono ?_;rintro e w' ⟨rfl,rfl⟩;rw[b.out];go_wp2;go_ret3;exact WR.mk' _ _ _ a.out rfl rfl
def L8 (w:World) (r:Pg.I) (e:Ending) (w':World):Prop:=e=.returned (.tuple #[.int .i64 r.lo,.int .i64 r.hi,.int .i64 r.n,.bool r.ok])/\w'=w
theorem L8.mk' {r:Pg.I}{e:Ending} (lo y n:Int) (ok:Bool) (H:r=⟨lo,y,n,ok⟩) (z:e=.returned (.tuple #[I6 lo,I6 y,I6 n,.bool ok])) (J:w'=w):L8 w r e w':=by
 subst H;exact⟨z,J⟩
theorem Ra (s:ByteArray) (i:Int) (w:World) (h0:0<=i) (h1:i<=400):
  Cp 222 #[.string s,I6 i] w (L8 w (Pg.readItem (Y7 s) i)):=by
 have f:=Pg.readOne_bd (Y7 s) i (Nw s);obtain⟨g,h,j,k,_⟩:=f;cases hok:(Pg.readOne (Y7 s) i).ok
 ·have a:Hid (Pg.readItem (Y7 s) i=⟨0,0,(Pg.readOne (Y7 s) i).n,false⟩):=by show _=_;rw[Pg.readItem,hok];rfl
  have b:=hyd hok;go_enter Tryz.func222,Tryz.ntmps222;go_wp2_with fail;refine(UN s i _ (by omega) (by omega)).mono ?_;rintro e w' ⟨rfl,rfl⟩;rw[b.out];go_wp2;refine Zr (v:=.tuple #[I6 0,I6 0,I6 (Pg.readOne (Y7 s) i).n,.bool false]) (by simp[results,Tryz.results222,go_sem]) rfl (L8.mk' _ _ _ _ a.out rfl rfl)
 have b:=hyd hok;by_cases c:Y7 s (Pg.readOne (Y7 s) i).n=45
 ·have a:Hid (Pg.readItem (Y7 s) i=⟨(Pg.readOne (Y7 s) i).v,(Pg.readOne (Y7 s) ((Pg.readOne (Y7 s) i).n+1)).v,(Pg.readOne (Y7 s) ((Pg.readOne (Y7 s) i).n+1)).n,(Pg.readOne (Y7 s) ((Pg.readOne (Y7 s) i).n+1)).ok⟩):=by show _=_;rw[Pg.readItem,if_pos hok,if_pos c]
  have d:(Y7 s (Pg.readOne (Y7 s) i).n==45)=true:=by simpa using c
  go_enter Tryz.func222,Tryz.ntmps222;go_wp2_with fail;refine(UN s i _ (by omega) (by omega)).mono ?_;rintro e w' ⟨rfl,rfl⟩;rw[b.out];go_wp2_with fail;refine(YP s _ _).mono ?_;rintro e w' ⟨rfl,rfl⟩;go_wp2_with fail;refine(UN s ((Pg.readOne (Y7 s) i).n+1) _ (by omega) (by omega)).mono ?_;rintro e w' ⟨rfl,rfl⟩;go_wp2;refine Zr (v:=.tuple #[I6 (Pg.readOne (Y7 s) i).v,I6 (Pg.readOne (Y7 s) ((Pg.readOne (Y7 s) i).n+1)).v,I6 (Pg.readOne (Y7 s) ((Pg.readOne (Y7 s) i).n+1)).n,.bool (Pg.readOne (Y7 s) ((Pg.readOne (Y7 s) i).n+1)).ok]) (by simp[results,Tryz.results222,go_sem]) rfl (L8.mk' _ _ _ _ a.out rfl rfl)
 have a:Hid (Pg.readItem (Y7 s) i=⟨(Pg.readOne (Y7 s) i).v,(Pg.readOne (Y7 s) i).v,(Pg.readOne (Y7 s) i).n,true⟩):=by show _=_;rw[Pg.readItem,if_pos hok,if_neg c]
 have d:(Y7 s (Pg.readOne (Y7 s) i).n==45)=false:=by simpa using c
 go_enter Tryz.func222,Tryz.ntmps222;go_wp2_with fail;refine(UN s i _ (by omega) (by omega)).mono ?_;rintro e w' ⟨rfl,rfl⟩;rw[b.out];go_wp2_with fail;refine(YP s _ _).mono ?_;rintro e w' ⟨rfl,rfl⟩;go_wp2;refine Zr (v:=.tuple #[I6 (Pg.readOne (Y7 s) i).v,I6 (Pg.readOne (Y7 s) i).v,I6 (Pg.readOne (Y7 s) i).n,.bool true]) (by simp[results,Tryz.results222,go_sem]) rfl (L8.mk' _ _ _ _ a.out rfl rfl)
theorem LL (s:ByteArray) (i l:Int) (w:World) (h0:0<=i) (h1:i<=400):
  Cp 217 #[.string s,I6 i,I6 l] w (WR w (Pg.readMost (Y7 s) i l)):=by
 by_cases c1:Y7 s i=125
 ·have a:Hid (Pg.readMost (Y7 s) i l=⟨l,i+1,true⟩):=by show _=_;rw[Pg.readMost,if_pos c1]
  have b:(Y7 s i==125)=true:=by simpa using c1
  go_enter Tryz.func217,Tryz.ntmps217;go_wp2_with fail;refine(YP s i _).mono ?_;rintro e w' ⟨rfl,rfl⟩;go_wp2;go_ret3;exact WR.mk' _ _ _ a rfl rfl
 have b:(Y7 s i==125)=false:=by simpa using c1
 by_cases c2:Y7 s i=44
 ·have c:(Y7 s i==44)=true:=by simpa using c2
  by_cases c3:Pg.digitValue (Y7 s (i+1))<0
  ·have a:Hid (Pg.readMost (Y7 s) i l=⟨0,i+1,false⟩):=by show _=_;rw[Pg.readMost,if_neg c1,if_pos c2,if_pos c3]
   go_enter Tryz.func217,Tryz.ntmps217;go_wp2_with fail;refine(YP s i _).mono ?_;rintro e w' ⟨rfl,rfl⟩;go_wp2_with fail;refine(YP s (i+1) _).mono ?_;rintro e w' ⟨rfl,rfl⟩;go_wp2_with fail;refine(Xv _ _).mono ?_;rintro e w' ⟨rfl,rfl⟩;go_wp2;go_ret3;exact WR.mk' _ _ _ a rfl rfl
  by_cases c4:Y7 s (i+2)=125
  ·have a:Hid (Pg.readMost (Y7 s) i l=⟨Pg.digitValue (Y7 s (i+1)),i+3,true⟩):=by show _=_;rw[Pg.readMost,if_neg c1,if_pos c2,if_neg c3,if_pos c4]
   have d:(Y7 s (i+2)==125)=true:=by simpa using c4
   go_enter Tryz.func217,Tryz.ntmps217;go_wp2_with fail;refine(YP s i _).mono ?_;rintro e w' ⟨rfl,rfl⟩;go_wp2_with fail;refine(YP s (i+1) _).mono ?_;rintro e w' ⟨rfl,rfl⟩;go_wp2_with fail;refine(Xv _ _).mono ?_;rintro e w' ⟨rfl,rfl⟩;go_wp2_with fail;refine(YP s (i+2) _).mono ?_;rintro e w' ⟨rfl,rfl⟩;go_wp2;go_ret3;exact WR.mk' _ _ _ a rfl rfl
  have a:Hid (Pg.readMost (Y7 s) i l=⟨0,i+2,false⟩):=by show _=_;rw[Pg.readMost,if_neg c1,if_pos c2,if_neg c3,if_neg c4]
  have d:(Y7 s (i+2)==125)=false:=by simpa using c4
  go_enter Tryz.func217,Tryz.ntmps217;go_wp2_with fail;refine(YP s i _).mono ?_;rintro e w' ⟨rfl,rfl⟩;go_wp2_with fail;refine(YP s (i+1) _).mono ?_;rintro e w' ⟨rfl,rfl⟩;go_wp2_with fail;refine(Xv _ _).mono ?_;rintro e w' ⟨rfl,rfl⟩;go_wp2_with fail;refine(YP s (i+2) _).mono ?_;rintro e w' ⟨rfl,rfl⟩;go_wp2;go_ret3;exact WR.mk' _ _ _ a rfl rfl
 have a:Hid (Pg.readMost (Y7 s) i l=⟨0,i,false⟩):=by show _=_;rw[Pg.readMost,if_neg c1,if_neg c2]
 have c:(Y7 s i==44)=false:=by simpa using c2
 go_enter Tryz.func217,Tryz.ntmps217;go_wp2_with fail;refine(YP s i _).mono ?_;rintro e w' ⟨rfl,rfl⟩;go_wp2;go_ret3;exact WR.mk' _ _ _ a rfl rfl
end Go.Proofs.YtoaaklhpmhjhkaaGreat
