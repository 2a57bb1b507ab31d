import Derived.WalkSpells
import Derived.WalkLawsBesides
import Derived.Deep.QuietTactic
import Derived.BigQuiet
import Derived.Test.YtoaaklhpmhjhkabGreatSp
import Derived.Test.YtoaaklhpmhjhkabGreatC03
set_option maxRecDepth 100000
set_option maxHeartbeats 4000000
set_option linter.all false
namespace Go.Proofs.YtoaaklhpmhjhkabGreat
open Go.RowKit
theorem YU (s:ByteArray) (i:Int) (w:World):
  Calls Tryz.prog 78 #[.string s,.int .i64 i] w fun e w'=>e=.returned (.int .i64 (Y5 s i))/\w'=w:=by
 by_cases h0:i<0
 ·go_enter Tryz.func78,Tryz.ntmps78
  go_wp2
  go_ret;exact⟨YS (Ll (by omega)).symm,rfl⟩
 ·by_cases h1:(s.size:Int)<=i
  ·go_enter Tryz.func78,Tryz.ntmps78
   go_wp2
   go_ret;exact⟨YS (Ll (by omega)).symm,rfl⟩
  ·go_enter Tryz.func78,Tryz.ntmps78
   go_wp2
   go_ret;exact⟨YS (by rw[Ow (by omega) (by omega),Ke]),rfl⟩
theorem QN (b : Int) (w : World) :
  Calls Tryz.prog 108 #[.int .i64 b] w fun e w' => e = .returned (.bool (Pg.isMark b)) /\ w' = w := by
 go_enter Tryz.func108, Tryz.ntmps108
 go_wp2
 all_goals
  go_ret;refine ⟨Yx ?_, rfl⟩;simp [Pg.isMark, *]
theorem RX (b : Int) (w : World) :
  Calls Tryz.prog 111 #[.int .i64 b] w fun e w' => e = .returned (.bool (Pg.isInner b)) /\ w' = w := by
 go_enter Tryz.func111, Tryz.ntmps111
 go_wp2
 all_goals
  go_ret;refine ⟨Yx ?_, rfl⟩;simp [Pg.isInner, *]
theorem XR (b:Int) (w:World):
  Calls Tryz.prog 100 #[.int .i64 b] w fun e w'=>e=.returned (.int .i64 (Pg.digitValue b))/\w'=w:=by
 by_cases h:48<=b/\b<=57
 ·obtain⟨h1,h2⟩:=id h;go_enter Tryz.func100,Tryz.ntmps100
  go_wp2
  go_ret;exact⟨YS (by rw[Pg.digitValue,if_pos h]),rfl⟩
 ·by_cases h1:48<=b
  all_goals
   have h2:b<48\/57<b:=by omega
   go_enter Tryz.func100,Tryz.ntmps100
   go_wp2
   all_goals
    go_ret;exact⟨YS (by rw[Pg.digitValue,if_neg (by omega)]),rfl⟩
theorem Xd (b:Int) (w:World):
  Calls Tryz.prog 110 #[.int .i64 b] w fun e w'=>e=.returned (.int .i64 (Pg.hexValue b))/\w'=w:=by
 by_cases h:97<=b/\b<=102
 ·obtain⟨h1,h2⟩:=id h;go_enter Tryz.func110,Tryz.ntmps110
  go_wp2
  go_ret;exact⟨YS (by rw[Pg.hexValue,if_pos h]),rfl⟩
 ·have HX:Hid (Pg.hexValue b=Pg.digitValue b):=by show _=_;rw[Pg.hexValue,if_neg h]
  by_cases h1:97<=b
  ·have h2:¬b<=102:=by omega
   clear h;go_enter Tryz.func110,Tryz.ntmps110;go_wp2_with fail;refine(XR b _).mono ?_;rintro e w' ⟨rfl,rfl⟩;go_wp2_with fail;go_ret;exact⟨YS HX.out.symm,rfl⟩
  ·clear h;go_enter Tryz.func110,Tryz.ntmps110;go_wp2_with fail;refine(XR b _).mono ?_;rintro e w' ⟨rfl,rfl⟩;go_wp2_with fail;go_ret;exact⟨YS HX.out.symm,rfl⟩
theorem Mp (b:Int) (w:World):
  Calls Tryz.prog 79 #[.int .i64 b] w fun e w'=>e=.returned (.int .i64 (Pg.kindOf b))/\w'=w:=by
 go_enter Tryz.func79,Tryz.ntmps79
 go_wp2
 all_goals
  go_ret;refine⟨YS ?_,rfl⟩;simp only[beq_iff_eq,beq_eq_false_iff_ne]at *;unfold Pg.kindOf
  repeat' split
  all_goals first|rfl|omega
theorem Vc (k : Int) (w : World) :
  Calls Tryz.prog 88 #[.int .i64 k] w fun e w' => e = .returned (.bool (Pg.isSuffix k)) /\ w' = w := by
 go_enter Tryz.func88, Tryz.ntmps88
 go_wp2
 all_goals
  go_ret;refine ⟨Yx ?_, rfl⟩;simp [Pg.isSuffix, *]
theorem Uo (k:Int) (w:World):
  Calls Tryz.prog 82 #[.int .i64 k] w fun e w'=>e=.returned (.int .i64 (Pg.opn k))/\w'=w:=by
 go_enter Tryz.func82,Tryz.ntmps82
 go_wp2
 all_goals
  go_ret;refine⟨YS ?_,rfl⟩;simp only[beq_iff_eq,beq_eq_false_iff_ne]at *;unfold Pg.opn
  repeat' split
  all_goals first|rfl|omega
theorem PN (k:Int) (w:World):
  Calls Tryz.prog 89 #[.int .i64 k] w fun e w'=>e=.returned (.bool (Pg.endsPiece k))/\w'=w:=by
 cases h1:(k==1)
 ·cases h3:(k==3)
  ·go_enter Tryz.func89,Tryz.ntmps89;go_wp2_with fail;refine(Vc k _).mono ?_;rintro e w' ⟨rfl,rfl⟩;go_wp2_with fail;go_ret;exact⟨Yx (by simp[Pg.endsPiece,h1,h3]),rfl⟩
  ·go_enter Tryz.func89,Tryz.ntmps89;go_wp2_with fail;go_ret;exact⟨Yx (by simp[Pg.endsPiece,h1,h3]),rfl⟩
 ·go_enter Tryz.func89,Tryz.ntmps89;go_wp2_with fail;go_ret;exact⟨Yx (by simp[Pg.endsPiece,h1]),rfl⟩
theorem Oz (k b o:Int) (w:World):
  Calls Tryz.prog 80 #[.int .i64 k,.int .i64 b,.int .i64 o] w fun e w'=>e=.returned (.bool (Pg.canStand k b o))/\w'=w:=by
 by_cases h0:k=0
 ·subst h0;go_enter Tryz.func80,Tryz.ntmps80;go_wp2_with fail;go_ret;exact⟨rfl,rfl⟩
 have b0:(k==0)=false:=by simpa using h0
 by_cases h3:k=3
 ·subst h3;go_enter Tryz.func80,Tryz.ntmps80;go_wp2_with fail;go_ret;exact⟨Yx (by simp[Pg.canStand]),rfl⟩
 have b3:(k==3)=false:=by simpa using h3
 have HC:Hid (Pg.canStand k b o=if Pg.isSuffix k then Pg.endsPiece b else true):=by show _=_;simp[Pg.canStand,h0,h3]
 clear h0 h3;go_enter Tryz.func80,Tryz.ntmps80;go_wp2_with fail;refine(Vc k _).mono ?_;rintro e w' ⟨rfl,rfl⟩;cases hs:Pg.isSuffix k
 ·have HS:=hyd hs;clear hs;go_wp2_with fail;go_ret;exact⟨Yx (by rw[HC.out,HS.out];rfl),rfl⟩
 ·have HS:=hyd hs;clear hs;go_wp2_with fail;refine(PN b _).mono ?_;rintro e w' ⟨rfl,rfl⟩;go_wp2_with fail;go_ret;exact⟨Yx (by rw[HC.out,HS.out];rfl),rfl⟩
theorem YD (n:Int) (w:World):
  Calls Tryz.prog 77 #[.int .i64 n] w fun e w'=>e=.returned (.int .i64 (Pg.capped n))/\w'=w:=by
 by_cases h:96<n
 ·go_enter Tryz.func77,Tryz.ntmps77;go_wp2_with fail;go_ret;exact⟨YS (by rw[Pg.capped,if_pos h]),rfl⟩
 ·go_enter Tryz.func77,Tryz.ntmps77;go_wp2_with fail;go_ret;exact⟨YS (by rw[Pg.capped,if_neg (by omega)]),rfl⟩
def Xz (w:World) (r:Pg.R) (e:Ending) (w':World):Prop:=e=.returned (.tuple #[.int .i64 r.v,.int .i64 r.n,.bool r.ok])/\w'=w
variable {w w':World}
theorem Xz.mk' {r:Pg.R}{e:Ending} (v n:Int) (ok:Bool) (hr:r=⟨v,n,ok⟩) (he:e=.returned (.tuple #[.int .i64 v,.int .i64 n,.bool ok])) (hw:w'=w):Xz w r e w':=by
 subst hr;exact⟨he,hw⟩
theorem NQ (s:ByteArray) (i:Int) (w:World) (h0:0<=i) (h1:i<=1000):
  Calls Tryz.prog 107 #[.string s,.int .i64 i] w (Xz w (Pg.readHex (Y5 s) i)):=by
 have hb:=Pg.hexValue_bd (Y5 s i);have hb2:=Pg.hexValue_bd (Y5 s (i+1));by_cases c1:Pg.hexValue (Y5 s i)<0
 ·have HR:Hid (Pg.readHex (Y5 s) i=⟨0,i,false⟩):=by show _=_;rw[Pg.readHex,if_pos c1]
  go_enter Tryz.func107,Tryz.ntmps107;go_wp2_with fail;refine(YU s i _).mono ?_;rintro e w' ⟨rfl,rfl⟩;go_wp2_with fail;refine(Xd _ _).mono ?_;rintro e w' ⟨rfl,rfl⟩;go_wp2_with fail;go_ret3;exact Xz.mk' _ _ _ HR.out rfl rfl
 by_cases c2:Pg.hexValue (Y5 s (i+1))<0
 ·have HR:Hid (Pg.readHex (Y5 s) i=⟨0,i+1,false⟩):=by show _=_;rw[Pg.readHex,if_neg c1,if_pos c2]
  go_enter Tryz.func107,Tryz.ntmps107;go_wp2_with fail;refine(YU s i _).mono ?_;rintro e w' ⟨rfl,rfl⟩;go_wp2_with fail;refine(Xd _ _).mono ?_;rintro e w' ⟨rfl,rfl⟩;go_wp2_with fail;refine(YU s (i+1) _).mono ?_;rintro e w' ⟨rfl,rfl⟩;go_wp2_with fail;refine(Xd _ _).mono ?_;rintro e w' ⟨rfl,rfl⟩;go_wp2_with fail;go_ret3;exact Xz.mk' _ _ _ HR.out rfl rfl
 ·have HR:Hid (Pg.readHex (Y5 s) i=⟨Pg.hexValue (Y5 s i)*16+Pg.hexValue (Y5 s (i+1)),i+2,true⟩):=by show _=_;rw[Pg.readHex,if_neg c1,if_neg c2]
  go_enter Tryz.func107,Tryz.ntmps107;go_wp2_with fail;refine(YU s i _).mono ?_;rintro e w' ⟨rfl,rfl⟩;go_wp2_with fail;refine(Xd _ _).mono ?_;rintro e w' ⟨rfl,rfl⟩;go_wp2_with fail;refine(YU s (i+1) _).mono ?_;rintro e w' ⟨rfl,rfl⟩;go_wp2_with fail;refine(Xd _ _).mono ?_;rintro e w' ⟨rfl,rfl⟩;go_wp2_with fail;go_ret3;exact Xz.mk' _ _ _ HR.out rfl rfl
theorem UR (s:ByteArray) (i:Int) (w:World) (h0:0<=i) (h1:i<=500):
  Calls Tryz.prog 99 #[.string s,.int .i64 i] w (Xz w (Pg.readEscape (Y5 s) i)):=by
 by_cases c1:Y5 s (i+1)=110
 ·have HR:Hid (Pg.readEscape (Y5 s) i=⟨10,i+2,true⟩):=by show _=_;rw[Pg.readEscape,if_pos c1]
  have b1:(Y5 s (i+1)==110)=true:=by simpa using c1
  clear c1;go_enter Tryz.func99,Tryz.ntmps99;go_wp2_with fail;refine(YU s (i+1) _).mono ?_;rintro e w' ⟨rfl,rfl⟩;go_wp2_with fail;go_ret3;exact Xz.mk' _ _ _ HR.out rfl rfl
 have b1:(Y5 s (i+1)==110)=false:=by simpa using c1
 by_cases c2:Y5 s (i+1)=116
 ·have HR:Hid (Pg.readEscape (Y5 s) i=⟨9,i+2,true⟩):=by show _=_;rw[Pg.readEscape,if_neg c1,if_pos c2]
  have b2:(Y5 s (i+1)==116)=true:=by simpa using c2
  clear c1 c2;go_enter Tryz.func99,Tryz.ntmps99;go_wp2_with fail;refine(YU s (i+1) _).mono ?_;rintro e w' ⟨rfl,rfl⟩;go_wp2_with fail;go_ret3;exact Xz.mk' _ _ _ HR.out rfl rfl
 have b2:(Y5 s (i+1)==116)=false:=by simpa using c2
 by_cases c3:Y5 s (i+1)=120
 ·have HR:Hid (Pg.readEscape (Y5 s) i=Pg.readHex (Y5 s) (i+2)):=by show _=_;rw[Pg.readEscape,if_neg c1,if_neg c2,if_pos c3]
  have b3:(Y5 s (i+1)==120)=true:=by simpa using c3
  clear c1 c2 c3;go_enter Tryz.func99,Tryz.ntmps99;go_wp2_with fail;refine(YU s (i+1) _).mono ?_;rintro e w' ⟨rfl,rfl⟩;go_wp2_with fail;refine(NQ s (i+2) _ (by omega) (by omega)).mono ?_;rintro e w' ⟨rfl,rfl⟩;go_wp2_with fail;go_ret3;exact Xz.mk' _ _ _ HR.out rfl rfl
 have b3:(Y5 s (i+1)==120)=false:=by simpa using c3
 cases c4:Pg.isMark (Y5 s (i+1))
 ·have HR:Hid (Pg.readEscape (Y5 s) i=⟨0,i+1,false⟩):=by show _=_;rw[Pg.readEscape,if_neg c1,if_neg c2,if_neg c3,c4];rfl
  have H4:=hyd c4;clear c1 c2 c3 c4;go_enter Tryz.func99,Tryz.ntmps99;go_wp2_with fail;refine(YU s (i+1) _).mono ?_;rintro e w' ⟨rfl,rfl⟩;go_wp2_with fail;refine(QN _ _).mono ?_;rintro e w' ⟨rfl,rfl⟩;rw[H4.out];go_wp2_with fail;go_ret3;exact Xz.mk' _ _ _ HR.out rfl rfl
 ·have HR:Hid (Pg.readEscape (Y5 s) i=⟨Y5 s (i+1),i+2,true⟩):=by show _=_;rw[Pg.readEscape,if_neg c1,if_neg c2,if_neg c3,c4];rfl
  have H4:=hyd c4;clear c1 c2 c3 c4;go_enter Tryz.func99,Tryz.ntmps99;go_wp2_with fail;refine(YU s (i+1) _).mono ?_;rintro e w' ⟨rfl,rfl⟩;go_wp2_with fail;refine(QN _ _).mono ?_;rintro e w' ⟨rfl,rfl⟩;rw[H4.out];go_wp2_with fail;go_ret3;exact Xz.mk' _ _ _ HR.out rfl rfl
theorem VM (s:ByteArray) (i:Int) (w:World) (h0:0<=i) (h1:i<=500):
  Calls Tryz.prog 109 #[.string s,.int .i64 i] w (Xz w (Pg.readOne (Y5 s) i)):=by
 by_cases c1:Y5 s i=92
 ·have HR:Hid (Pg.readOne (Y5 s) i=Pg.readEscape (Y5 s) i):=by show _=_;rw[Pg.readOne,if_pos c1]
  have b1:(Y5 s i==92)=true:=by simpa using c1
  clear c1;go_enter Tryz.func109,Tryz.ntmps109;go_wp2_with fail;refine(YU s i _).mono ?_;rintro e w' ⟨rfl,rfl⟩;go_wp2_with fail;refine(UR s i _ (by omega) (by omega)).mono ?_;rintro e w' ⟨rfl,rfl⟩;go_wp2_with fail;go_ret3;exact Xz.mk' _ _ _ HR.out rfl rfl
 have b1:(Y5 s i==92)=false:=by simpa using c1
 cases c4:Pg.isInner (Y5 s i)
 ·have HR:Hid (Pg.readOne (Y5 s) i=⟨0,i,false⟩):=by show _=_;rw[Pg.readOne,if_neg c1,c4];rfl
  have H4:=hyd c4;clear c1 c4;go_enter Tryz.func109,Tryz.ntmps109;go_wp2_with fail;refine(YU s i _).mono ?_;rintro e w' ⟨rfl,rfl⟩;go_wp2_with fail;refine(RX _ _).mono ?_;rintro e w' ⟨rfl,rfl⟩;rw[H4.out];go_wp2_with fail;go_ret3;exact Xz.mk' _ _ _ HR.out rfl rfl
 ·have HR:Hid (Pg.readOne (Y5 s) i=⟨Y5 s i,i+1,true⟩):=by show _=_;rw[Pg.readOne,if_neg c1,c4];rfl
  have H4:=hyd c4;clear c1 c4;go_enter Tryz.func109,Tryz.ntmps109;go_wp2_with fail;refine(YU s i _).mono ?_;rintro e w' ⟨rfl,rfl⟩;go_wp2_with fail;refine(RX _ _).mono ?_;rintro e w' ⟨rfl,rfl⟩;rw[H4.out];go_wp2_with fail;go_ret3;exact Xz.mk' _ _ _ HR.out rfl rfl
def Pi (w:World) (r:Pg.I) (e:Ending) (w':World):Prop:=e=.returned (.tuple #[.int .i64 r.lo,.int .i64 r.hi,.int .i64 r.n,.bool r.ok])/\w'=w
theorem Pi.mk' {r:Pg.I}{e:Ending} (lo hi n:Int) (ok:Bool) (hr:r=⟨lo,hi,n,ok⟩) (he:e=.returned (.tuple #[.int .i64 lo,.int .i64 hi,.int .i64 n,.bool ok])) (hw:w'=w):Pi w r e w':=by
 subst hr;exact⟨he,hw⟩
theorem Ti (s:ByteArray) (i:Int) (w:World) (h0:0<=i) (h1:i<=400):
  Calls Tryz.prog 106 #[.string s,.int .i64 i] w (Pi w (Pg.readItem (Y5 s) i)):=by
 have hb:=Pg.readOne_bd (Y5 s) i (Qx s);obtain⟨hb1,hb2,hb3,hb4,_⟩:=hb;cases hok:(Pg.readOne (Y5 s) i).ok
 ·have HR:Hid (Pg.readItem (Y5 s) i=⟨0,0,(Pg.readOne (Y5 s) i).n,false⟩):=by show _=_;rw[Pg.readItem,hok];rfl
  have HO:=hyd hok;clear hok;go_enter Tryz.func106,Tryz.ntmps106;go_wp2_with fail;refine(VM s i _ (by omega) (by omega)).mono ?_;rintro e w' ⟨rfl,rfl⟩;rw[HO.out];go_wp2_with fail;refine bodyPost_ret (v:=.tuple #[.int .i64 0,.int .i64 0,.int .i64 (Pg.readOne (Y5 s) i).n,.bool false]) (by simp[results,Tryz.results106,go_sem]) rfl (Pi.mk' _ _ _ _ HR.out rfl rfl)
 have HO:=hyd hok;by_cases c:Y5 s (Pg.readOne (Y5 s) i).n=45
 ·have HR:Hid (Pg.readItem (Y5 s) i=⟨(Pg.readOne (Y5 s) i).v,(Pg.readOne (Y5 s) ((Pg.readOne (Y5 s) i).n+1)).v,(Pg.readOne (Y5 s) ((Pg.readOne (Y5 s) i).n+1)).n,(Pg.readOne (Y5 s) ((Pg.readOne (Y5 s) i).n+1)).ok⟩):=by show _=_;rw[Pg.readItem,if_pos hok,if_pos c]
  have b1:(Y5 s (Pg.readOne (Y5 s) i).n==45)=true:=by simpa using c
  clear hok c;go_enter Tryz.func106,Tryz.ntmps106;go_wp2_with fail;refine(VM s i _ (by omega) (by omega)).mono ?_;rintro e w' ⟨rfl,rfl⟩;rw[HO.out];go_wp2_with fail;refine(YU s _ _).mono ?_;rintro e w' ⟨rfl,rfl⟩;go_wp2_with fail;refine(VM s ((Pg.readOne (Y5 s) i).n+1) _ (by omega) (by omega)).mono ?_;rintro e w' ⟨rfl,rfl⟩;go_wp2_with fail;refine bodyPost_ret (v:=.tuple #[.int .i64 (Pg.readOne (Y5 s) i).v,.int .i64 (Pg.readOne (Y5 s) ((Pg.readOne (Y5 s) i).n+1)).v,.int .i64 (Pg.readOne (Y5 s) ((Pg.readOne (Y5 s) i).n+1)).n,.bool (Pg.readOne (Y5 s) ((Pg.readOne (Y5 s) i).n+1)).ok]) (by simp[results,Tryz.results106,go_sem]) rfl (Pi.mk' _ _ _ _ HR.out rfl rfl)
 ·have HR:Hid (Pg.readItem (Y5 s) i=⟨(Pg.readOne (Y5 s) i).v,(Pg.readOne (Y5 s) i).v,(Pg.readOne (Y5 s) i).n,true⟩):=by show _=_;rw[Pg.readItem,if_pos hok,if_neg c]
  have b1:(Y5 s (Pg.readOne (Y5 s) i).n==45)=false:=by simpa using c
  clear hok c;go_enter Tryz.func106,Tryz.ntmps106;go_wp2_with fail;refine(VM s i _ (by omega) (by omega)).mono ?_;rintro e w' ⟨rfl,rfl⟩;rw[HO.out];go_wp2_with fail;refine(YU s _ _).mono ?_;rintro e w' ⟨rfl,rfl⟩;go_wp2_with fail;refine bodyPost_ret (v:=.tuple #[.int .i64 (Pg.readOne (Y5 s) i).v,.int .i64 (Pg.readOne (Y5 s) i).v,.int .i64 (Pg.readOne (Y5 s) i).n,.bool true]) (by simp[results,Tryz.results106,go_sem]) rfl (Pi.mk' _ _ _ _ HR.out rfl rfl)
theorem OY (s:ByteArray) (i l:Int) (w:World) (h0:0<=i) (h1:i<=400):
  Calls Tryz.prog 101 #[.string s,.int .i64 i,.int .i64 l] w (Xz w (Pg.readMost (Y5 s) i l)):=by
 by_cases c1:Y5 s i=125
 ·have HR:Hid (Pg.readMost (Y5 s) i l=⟨l,i+1,true⟩):=by show _=_;rw[Pg.readMost,if_pos c1]
  have b1:(Y5 s i==125)=true:=by simpa using c1
  clear c1;go_enter Tryz.func101,Tryz.ntmps101;go_wp2_with fail;refine(YU s i _).mono ?_;rintro e w' ⟨rfl,rfl⟩;go_wp2_with fail;go_ret3;exact Xz.mk' _ _ _ HR.out rfl rfl
 have b1:(Y5 s i==125)=false:=by simpa using c1
 by_cases c2:Y5 s i=44
 ·have b2:(Y5 s i==44)=true:=by simpa using c2
  by_cases c3:Pg.digitValue (Y5 s (i+1))<0
  ·have HR:Hid (Pg.readMost (Y5 s) i l=⟨0,i+1,false⟩):=by show _=_;rw[Pg.readMost,if_neg c1,if_pos c2,if_pos c3]
   clear c1 c2;go_enter Tryz.func101,Tryz.ntmps101;go_wp2_with fail;refine(YU s i _).mono ?_;rintro e w' ⟨rfl,rfl⟩;go_wp2_with fail;refine(YU s (i+1) _).mono ?_;rintro e w' ⟨rfl,rfl⟩;go_wp2_with fail;refine(XR _ _).mono ?_;rintro e w' ⟨rfl,rfl⟩;go_wp2_with fail;go_ret3;exact Xz.mk' _ _ _ HR.out rfl rfl
  by_cases c4:Y5 s (i+2)=125
  ·have HR:Hid (Pg.readMost (Y5 s) i l=⟨Pg.digitValue (Y5 s (i+1)),i+3,true⟩):=by show _=_;rw[Pg.readMost,if_neg c1,if_pos c2,if_neg c3,if_pos c4]
   have b4:(Y5 s (i+2)==125)=true:=by simpa using c4
   clear c1 c2 c4;go_enter Tryz.func101,Tryz.ntmps101;go_wp2_with fail;refine(YU s i _).mono ?_;rintro e w' ⟨rfl,rfl⟩;go_wp2_with fail;refine(YU s (i+1) _).mono ?_;rintro e w' ⟨rfl,rfl⟩;go_wp2_with fail;refine(XR _ _).mono ?_;rintro e w' ⟨rfl,rfl⟩;go_wp2_with fail;refine(YU s (i+2) _).mono ?_;rintro e w' ⟨rfl,rfl⟩;go_wp2_with fail;go_ret3;exact Xz.mk' _ _ _ HR.out rfl rfl
  ·have HR:Hid (Pg.readMost (Y5 s) i l=⟨0,i+2,false⟩):=by show _=_;rw[Pg.readMost,if_neg c1,if_pos c2,if_neg c3,if_neg c4]
   have b4:(Y5 s (i+2)==125)=false:=by simpa using c4
   clear c1 c2 c4;go_enter Tryz.func101,Tryz.ntmps101;go_wp2_with fail;refine(YU s i _).mono ?_;rintro e w' ⟨rfl,rfl⟩;go_wp2_with fail;refine(YU s (i+1) _).mono ?_;rintro e w' ⟨rfl,rfl⟩;go_wp2_with fail;refine(XR _ _).mono ?_;rintro e w' ⟨rfl,rfl⟩;go_wp2_with fail;refine(YU s (i+2) _).mono ?_;rintro e w' ⟨rfl,rfl⟩;go_wp2_with fail;go_ret3;exact Xz.mk' _ _ _ HR.out rfl rfl
 ·have HR:Hid (Pg.readMost (Y5 s) i l=⟨0,i,false⟩):=by show _=_;rw[Pg.readMost,if_neg c1,if_neg c2]
  have b2:(Y5 s i==44)=false:=by simpa using c2
  clear c1 c2;go_enter Tryz.func101,Tryz.ntmps101;go_wp2_with fail;refine(YU s i _).mono ?_;rintro e w' ⟨rfl,rfl⟩;go_wp2_with fail;go_ret3;exact Xz.mk' _ _ _ HR.out rfl rfl
end Go.Proofs.YtoaaklhpmhjhkabGreat
