import Derived.WalkSpells
import Derived.WalkLawsBesides
import Derived.Deep.QuietTactic
import Derived.BigQuiet
import Derived.Test.YtoaaklhpmhjhkabSp
import Derived.Test.YtoaaklhpmhjhkabC01
set_option maxRecDepth 100000
set_option maxHeartbeats 4000000
set_option linter.all false
namespace Go.Proofs.Ytoaaklhpmhjhkab
open Go.RowKit
theorem YQ (s:ByteArray) (i:Int) (w:World):
  Calls Try.prog 103 #[.string s,.int .i64 i] w fun e w'=>e=.returned (.int .i64 (Y5 s i))/\w'=w:=by
 by_cases h0:i<0
 ·go_enter Try.func103,Try.ntmps103
  go_wp2
  go_ret;exact⟨YJ (L7 (by omega)).symm,rfl⟩
 ·by_cases h1:(s.size:Int)<=i
  ·go_enter Try.func103,Try.ntmps103
   go_wp2
   go_ret;exact⟨YJ (L7 (by omega)).symm,rfl⟩
  ·go_enter Try.func103,Try.ntmps103
   go_wp2
   go_ret;exact⟨YJ (by rw[Ph (by omega) (by omega),Lb]),rfl⟩
theorem Ra (b : Int) (w : World) :
  Calls Try.prog 132 #[.int .i64 b] w fun e w' => e = .returned (.bool (Pg.isMark b)) /\ w' = w := by
 go_enter Try.func132, Try.ntmps132
 go_wp2
 all_goals
  go_ret;refine ⟨Yj ?_, rfl⟩;simp [Pg.isMark, *]
theorem Sy (b : Int) (w : World) :
  Calls Try.prog 135 #[.int .i64 b] w fun e w' => e = .returned (.bool (Pg.isInner b)) /\ w' = w := by
 go_enter Try.func135, Try.ntmps135
 go_wp2
 all_goals
  go_ret;refine ⟨Yj ?_, rfl⟩;simp [Pg.isInner, *]
theorem XP (b:Int) (w:World):
  Calls Try.prog 124 #[.int .i64 b] w fun e w'=>e=.returned (.int .i64 (Pg.digitValue b))/\w'=w:=by
 by_cases h:48<=b/\b<=57
 ·obtain⟨h1,h2⟩:=id h;go_enter Try.func124,Try.ntmps124
  go_wp2
  go_ret;exact⟨YJ (by rw[Pg.digitValue,if_pos h]),rfl⟩
 ·by_cases h1:48<=b
  all_goals
   have h2:b<48\/57<b:=by omega
   go_enter Try.func124,Try.ntmps124
   go_wp2
   all_goals
    go_ret;exact⟨YJ (by rw[Pg.digitValue,if_neg (by omega)]),rfl⟩
theorem WW (b:Int) (w:World):
  Calls Try.prog 134 #[.int .i64 b] w fun e w'=>e=.returned (.int .i64 (Pg.hexValue b))/\w'=w:=by
 by_cases h:97<=b/\b<=102
 ·obtain⟨h1,h2⟩:=id h;go_enter Try.func134,Try.ntmps134
  go_wp2
  go_ret;exact⟨YJ (by rw[Pg.hexValue,if_pos h]),rfl⟩
 ·have HX:Hid (Pg.hexValue b=Pg.digitValue b):=by show _=_;rw[Pg.hexValue,if_neg h]
  by_cases h1:97<=b
  ·have h2:¬b<=102:=by omega
   clear h;go_enter Try.func134,Try.ntmps134;go_wp2_with fail;refine(XP b _).mono ?_;rintro e w' ⟨rfl,rfl⟩;go_wp2_with fail;go_ret;exact⟨YJ HX.out.symm,rfl⟩
  ·clear h;go_enter Try.func134,Try.ntmps134;go_wp2_with fail;refine(XP b _).mono ?_;rintro e w' ⟨rfl,rfl⟩;go_wp2_with fail;go_ret;exact⟨YJ HX.out.symm,rfl⟩
theorem M2 (b:Int) (w:World):
  Calls Try.prog 104 #[.int .i64 b] w fun e w'=>e=.returned (.int .i64 (Pg.kindOf b))/\w'=w:=by
 go_enter Try.func104,Try.ntmps104
 go_wp2
 all_goals
  go_ret;refine⟨YJ ?_,rfl⟩;simp only[beq_iff_eq,beq_eq_false_iff_ne]at *;unfold Pg.kindOf
  repeat' split
  all_goals first|rfl|omega
theorem Vt (k : Int) (w : World) :
  Calls Try.prog 112 #[.int .i64 k] w fun e w' => e = .returned (.bool (Pg.isSuffix k)) /\ w' = w := by
 go_enter Try.func112, Try.ntmps112
 go_wp2
 all_goals
  go_ret;refine ⟨Yj ?_, rfl⟩;simp [Pg.isSuffix, *]
theorem UF (k:Int) (w:World):
  Calls Try.prog 107 #[.int .i64 k] w fun e w'=>e=.returned (.int .i64 (Pg.opn k))/\w'=w:=by
 go_enter Try.func107,Try.ntmps107
 go_wp2
 all_goals
  go_ret;refine⟨YJ ?_,rfl⟩;simp only[beq_iff_eq,beq_eq_false_iff_ne]at *;unfold Pg.opn
  repeat' split
  all_goals first|rfl|omega
theorem Qw (k:Int) (w:World):
  Calls Try.prog 113 #[.int .i64 k] w fun e w'=>e=.returned (.bool (Pg.endsPiece k))/\w'=w:=by
 cases h1:(k==1)
 ·cases h3:(k==3)
  ·go_enter Try.func113,Try.ntmps113;go_wp2_with fail;refine(Vt k _).mono ?_;rintro e w' ⟨rfl,rfl⟩;go_wp2_with fail;go_ret;exact⟨Yj (by simp[Pg.endsPiece,h1,h3]),rfl⟩
  ·go_enter Try.func113,Try.ntmps113;go_wp2_with fail;go_ret;exact⟨Yj (by simp[Pg.endsPiece,h1,h3]),rfl⟩
 ·go_enter Try.func113,Try.ntmps113;go_wp2_with fail;go_ret;exact⟨Yj (by simp[Pg.endsPiece,h1]),rfl⟩
theorem Pl (k b o:Int) (w:World):
  Calls Try.prog 105 #[.int .i64 k,.int .i64 b,.int .i64 o] w fun e w'=>e=.returned (.bool (Pg.canStand k b o))/\w'=w:=by
 by_cases h0:k=0
 ·subst h0;go_enter Try.func105,Try.ntmps105;go_wp2_with fail;go_ret;exact⟨rfl,rfl⟩
 have b0:(k==0)=false:=by simpa using h0
 by_cases h3:k=3
 ·subst h3;go_enter Try.func105,Try.ntmps105;go_wp2_with fail;go_ret;exact⟨Yj (by simp[Pg.canStand]),rfl⟩
 have b3:(k==3)=false:=by simpa using h3
 have HC:Hid (Pg.canStand k b o=if Pg.isSuffix k then Pg.endsPiece b else true):=by show _=_;simp[Pg.canStand,h0,h3]
 clear h0 h3;go_enter Try.func105,Try.ntmps105;go_wp2_with fail;refine(Vt k _).mono ?_;rintro e w' ⟨rfl,rfl⟩;cases hs:Pg.isSuffix k
 ·have HS:=hyd hs;clear hs;go_wp2_with fail;go_ret;exact⟨Yj (by rw[HC.out,HS.out];rfl),rfl⟩
 ·have HS:=hyd hs;clear hs;go_wp2_with fail;refine(Qw b _).mono ?_;rintro e w' ⟨rfl,rfl⟩;go_wp2_with fail;go_ret;exact⟨Yj (by rw[HC.out,HS.out];rfl),rfl⟩
theorem Yw (n:Int) (w:World):
  Calls Try.prog 102 #[.int .i64 n] w fun e w'=>e=.returned (.int .i64 (Pg.capped n))/\w'=w:=by
 by_cases h:96<n
 ·go_enter Try.func102,Try.ntmps102;go_wp2_with fail;go_ret;exact⟨YJ (by rw[Pg.capped,if_pos h]),rfl⟩
 ·go_enter Try.func102,Try.ntmps102;go_wp2_with fail;go_ret;exact⟨YJ (by rw[Pg.capped,if_neg (by omega)]),rfl⟩
def Xq (w:World) (r:Pg.R) (e:Ending) (w':World):Prop:=e=.returned (.tuple #[.int .i64 r.v,.int .i64 r.n,.bool r.ok])/\w'=w
variable {w w' : World}
theorem Xq.mk' {r:Pg.R}{e:Ending} (v n:Int) (ok:Bool) (hr:r=⟨v,n,ok⟩) (he:e=.returned (.tuple #[.int .i64 v,.int .i64 n,.bool ok])) (hw:w'=w):Xq w r e w':=by
 subst hr;exact⟨he,hw⟩
theorem OK (s:ByteArray) (i:Int) (w:World) (h0:0<=i) (h1:i<=1000):
  Calls Try.prog 131 #[.string s,.int .i64 i] w (Xq w (Pg.readHex (Y5 s) i)):=by
 have hb:=Pg.hexValue_bd (Y5 s i);have hb2:=Pg.hexValue_bd (Y5 s (i+1));by_cases c1:Pg.hexValue (Y5 s i)<0
 ·have HR:Hid (Pg.readHex (Y5 s) i=⟨0,i,false⟩):=by show _=_;rw[Pg.readHex,if_pos c1]
  go_enter Try.func131,Try.ntmps131;go_wp2_with fail;refine(YQ s i _).mono ?_;rintro e w' ⟨rfl,rfl⟩;go_wp2_with fail;refine(WW _ _).mono ?_;rintro e w' ⟨rfl,rfl⟩;go_wp2_with fail;go_ret3;exact Xq.mk' _ _ _ HR.out rfl rfl
 by_cases c2:Pg.hexValue (Y5 s (i+1))<0
 ·have HR:Hid (Pg.readHex (Y5 s) i=⟨0,i+1,false⟩):=by show _=_;rw[Pg.readHex,if_neg c1,if_pos c2]
  go_enter Try.func131,Try.ntmps131;go_wp2_with fail;refine(YQ s i _).mono ?_;rintro e w' ⟨rfl,rfl⟩;go_wp2_with fail;refine(WW _ _).mono ?_;rintro e w' ⟨rfl,rfl⟩;go_wp2_with fail;refine(YQ s (i+1) _).mono ?_;rintro e w' ⟨rfl,rfl⟩;go_wp2_with fail;refine(WW _ _).mono ?_;rintro e w' ⟨rfl,rfl⟩;go_wp2_with fail;go_ret3;exact Xq.mk' _ _ _ HR.out rfl rfl
 ·have HR:Hid (Pg.readHex (Y5 s) i=⟨Pg.hexValue (Y5 s i)*16+Pg.hexValue (Y5 s (i+1)),i+2,true⟩):=by show _=_;rw[Pg.readHex,if_neg c1,if_neg c2]
  go_enter Try.func131,Try.ntmps131;go_wp2_with fail;refine(YQ s i _).mono ?_;rintro e w' ⟨rfl,rfl⟩;go_wp2_with fail;refine(WW _ _).mono ?_;rintro e w' ⟨rfl,rfl⟩;go_wp2_with fail;refine(YQ s (i+1) _).mono ?_;rintro e w' ⟨rfl,rfl⟩;go_wp2_with fail;refine(WW _ _).mono ?_;rintro e w' ⟨rfl,rfl⟩;go_wp2_with fail;go_ret3;exact Xq.mk' _ _ _ HR.out rfl rfl
theorem U6 (s:ByteArray) (i:Int) (w:World) (h0:0<=i) (h1:i<=500):
  Calls Try.prog 123 #[.string s,.int .i64 i] w (Xq w (Pg.readEscape (Y5 s) i)):=by
 by_cases c1:Y5 s (i+1)=110
 ·have HR:Hid (Pg.readEscape (Y5 s) i=⟨10,i+2,true⟩):=by show _=_;rw[Pg.readEscape,if_pos c1]
  have b1:(Y5 s (i+1)==110)=true:=by simpa using c1
  clear c1;go_enter Try.func123,Try.ntmps123;go_wp2_with fail;refine(YQ s (i+1) _).mono ?_;rintro e w' ⟨rfl,rfl⟩;go_wp2_with fail;go_ret3;exact Xq.mk' _ _ _ HR.out rfl rfl
 have b1:(Y5 s (i+1)==110)=false:=by simpa using c1
 by_cases c2:Y5 s (i+1)=116
 ·have HR:Hid (Pg.readEscape (Y5 s) i=⟨9,i+2,true⟩):=by show _=_;rw[Pg.readEscape,if_neg c1,if_pos c2]
  have b2:(Y5 s (i+1)==116)=true:=by simpa using c2
  clear c1 c2;go_enter Try.func123,Try.ntmps123;go_wp2_with fail;refine(YQ s (i+1) _).mono ?_;rintro e w' ⟨rfl,rfl⟩;go_wp2_with fail;go_ret3;exact Xq.mk' _ _ _ HR.out rfl rfl
 have b2:(Y5 s (i+1)==116)=false:=by simpa using c2
 by_cases c3:Y5 s (i+1)=120
 ·have HR:Hid (Pg.readEscape (Y5 s) i=Pg.readHex (Y5 s) (i+2)):=by show _=_;rw[Pg.readEscape,if_neg c1,if_neg c2,if_pos c3]
  have b3:(Y5 s (i+1)==120)=true:=by simpa using c3
  clear c1 c2 c3;go_enter Try.func123,Try.ntmps123;go_wp2_with fail;refine(YQ s (i+1) _).mono ?_;rintro e w' ⟨rfl,rfl⟩;go_wp2_with fail;refine(OK s (i+2) _ (by omega) (by omega)).mono ?_;rintro e w' ⟨rfl,rfl⟩;go_wp2_with fail;go_ret3;exact Xq.mk' _ _ _ HR.out rfl rfl
 have b3:(Y5 s (i+1)==120)=false:=by simpa using c3
 cases c4:Pg.isMark (Y5 s (i+1))
 ·have HR:Hid (Pg.readEscape (Y5 s) i=⟨0,i+1,false⟩):=by show _=_;rw[Pg.readEscape,if_neg c1,if_neg c2,if_neg c3,c4];rfl
  have H4:=hyd c4;clear c1 c2 c3 c4;go_enter Try.func123,Try.ntmps123;go_wp2_with fail;refine(YQ s (i+1) _).mono ?_;rintro e w' ⟨rfl,rfl⟩;go_wp2_with fail;refine(Ra _ _).mono ?_;rintro e w' ⟨rfl,rfl⟩;rw[H4.out];go_wp2_with fail;go_ret3;exact Xq.mk' _ _ _ HR.out rfl rfl
 ·have HR:Hid (Pg.readEscape (Y5 s) i=⟨Y5 s (i+1),i+2,true⟩):=by show _=_;rw[Pg.readEscape,if_neg c1,if_neg c2,if_neg c3,c4];rfl
  have H4:=hyd c4;clear c1 c2 c3 c4;go_enter Try.func123,Try.ntmps123;go_wp2_with fail;refine(YQ s (i+1) _).mono ?_;rintro e w' ⟨rfl,rfl⟩;go_wp2_with fail;refine(Ra _ _).mono ?_;rintro e w' ⟨rfl,rfl⟩;rw[H4.out];go_wp2_with fail;go_ret3;exact Xq.mk' _ _ _ HR.out rfl rfl
theorem V0 (s:ByteArray) (i:Int) (w:World) (h0:0<=i) (h1:i<=500):
  Calls Try.prog 133 #[.string s,.int .i64 i] w (Xq w (Pg.readOne (Y5 s) i)):=by
 by_cases c1:Y5 s i=92
 ·have HR:Hid (Pg.readOne (Y5 s) i=Pg.readEscape (Y5 s) i):=by show _=_;rw[Pg.readOne,if_pos c1]
  have b1:(Y5 s i==92)=true:=by simpa using c1
  clear c1;go_enter Try.func133,Try.ntmps133;go_wp2_with fail;refine(YQ s i _).mono ?_;rintro e w' ⟨rfl,rfl⟩;go_wp2_with fail;refine(U6 s i _ (by omega) (by omega)).mono ?_;rintro e w' ⟨rfl,rfl⟩;go_wp2_with fail;go_ret3;exact Xq.mk' _ _ _ HR.out rfl rfl
 have b1:(Y5 s i==92)=false:=by simpa using c1
 cases c4:Pg.isInner (Y5 s i)
 ·have HR:Hid (Pg.readOne (Y5 s) i=⟨0,i,false⟩):=by show _=_;rw[Pg.readOne,if_neg c1,c4];rfl
  have H4:=hyd c4;clear c1 c4;go_enter Try.func133,Try.ntmps133;go_wp2_with fail;refine(YQ s i _).mono ?_;rintro e w' ⟨rfl,rfl⟩;go_wp2_with fail;refine(Sy _ _).mono ?_;rintro e w' ⟨rfl,rfl⟩;rw[H4.out];go_wp2_with fail;go_ret3;exact Xq.mk' _ _ _ HR.out rfl rfl
 ·have HR:Hid (Pg.readOne (Y5 s) i=⟨Y5 s i,i+1,true⟩):=by show _=_;rw[Pg.readOne,if_neg c1,c4];rfl
  have H4:=hyd c4;clear c1 c4;go_enter Try.func133,Try.ntmps133;go_wp2_with fail;refine(YQ s i _).mono ?_;rintro e w' ⟨rfl,rfl⟩;go_wp2_with fail;refine(Sy _ _).mono ?_;rintro e w' ⟨rfl,rfl⟩;rw[H4.out];go_wp2_with fail;go_ret3;exact Xq.mk' _ _ _ HR.out rfl rfl
def P0 (w:World) (r:Pg.I) (e:Ending) (w':World):Prop:=e=.returned (.tuple #[.int .i64 r.lo,.int .i64 r.hi,.int .i64 r.n,.bool r.ok])/\w'=w
theorem P0.mk' {r:Pg.I}{e:Ending} (lo hi n:Int) (ok:Bool) (hr:r=⟨lo,hi,n,ok⟩) (he:e=.returned (.tuple #[.int .i64 lo,.int .i64 hi,.int .i64 n,.bool ok])) (hw:w'=w):P0 w r e w':=by
 subst hr;exact⟨he,hw⟩
theorem TO (s:ByteArray) (i:Int) (w:World) (h0:0<=i) (h1:i<=400):
  Calls Try.prog 130 #[.string s,.int .i64 i] w (P0 w (Pg.readItem (Y5 s) i)):=by
 have hb:=Pg.readOne_bd (Y5 s) i (QY s);obtain⟨hb1,hb2,hb3,hb4,_⟩:=hb;cases hok:(Pg.readOne (Y5 s) i).ok
 ·have HR:Hid (Pg.readItem (Y5 s) i=⟨0,0,(Pg.readOne (Y5 s) i).n,false⟩):=by show _=_;rw[Pg.readItem,hok];rfl
  have HO:=hyd hok;clear hok;go_enter Try.func130,Try.ntmps130;go_wp2_with fail;refine(V0 s i _ (by omega) (by omega)).mono ?_;rintro e w' ⟨rfl,rfl⟩;rw[HO.out];go_wp2_with fail;refine bodyPost_ret (v:=.tuple #[.int .i64 0,.int .i64 0,.int .i64 (Pg.readOne (Y5 s) i).n,.bool false]) (by simp[results,Try.results130,go_sem]) rfl (P0.mk' _ _ _ _ HR.out rfl rfl)
 have HO:=hyd hok;by_cases c:Y5 s (Pg.readOne (Y5 s) i).n=45
 ·have HR:Hid (Pg.readItem (Y5 s) i=⟨(Pg.readOne (Y5 s) i).v,(Pg.readOne (Y5 s) ((Pg.readOne (Y5 s) i).n+1)).v,(Pg.readOne (Y5 s) ((Pg.readOne (Y5 s) i).n+1)).n,(Pg.readOne (Y5 s) ((Pg.readOne (Y5 s) i).n+1)).ok⟩):=by show _=_;rw[Pg.readItem,if_pos hok,if_pos c]
  have b1:(Y5 s (Pg.readOne (Y5 s) i).n==45)=true:=by simpa using c
  clear hok c;go_enter Try.func130,Try.ntmps130;go_wp2_with fail;refine(V0 s i _ (by omega) (by omega)).mono ?_;rintro e w' ⟨rfl,rfl⟩;rw[HO.out];go_wp2_with fail;refine(YQ s _ _).mono ?_;rintro e w' ⟨rfl,rfl⟩;go_wp2_with fail;refine(V0 s ((Pg.readOne (Y5 s) i).n+1) _ (by omega) (by omega)).mono ?_;rintro e w' ⟨rfl,rfl⟩;go_wp2_with fail;refine bodyPost_ret (v:=.tuple #[.int .i64 (Pg.readOne (Y5 s) i).v,.int .i64 (Pg.readOne (Y5 s) ((Pg.readOne (Y5 s) i).n+1)).v,.int .i64 (Pg.readOne (Y5 s) ((Pg.readOne (Y5 s) i).n+1)).n,.bool (Pg.readOne (Y5 s) ((Pg.readOne (Y5 s) i).n+1)).ok]) (by simp[results,Try.results130,go_sem]) rfl (P0.mk' _ _ _ _ HR.out rfl rfl)
 ·have HR:Hid (Pg.readItem (Y5 s) i=⟨(Pg.readOne (Y5 s) i).v,(Pg.readOne (Y5 s) i).v,(Pg.readOne (Y5 s) i).n,true⟩):=by show _=_;rw[Pg.readItem,if_pos hok,if_neg c]
  have b1:(Y5 s (Pg.readOne (Y5 s) i).n==45)=false:=by simpa using c
  clear hok c;go_enter Try.func130,Try.ntmps130;go_wp2_with fail;refine(V0 s i _ (by omega) (by omega)).mono ?_;rintro e w' ⟨rfl,rfl⟩;rw[HO.out];go_wp2_with fail;refine(YQ s _ _).mono ?_;rintro e w' ⟨rfl,rfl⟩;go_wp2_with fail;refine bodyPost_ret (v:=.tuple #[.int .i64 (Pg.readOne (Y5 s) i).v,.int .i64 (Pg.readOne (Y5 s) i).v,.int .i64 (Pg.readOne (Y5 s) i).n,.bool true]) (by simp[results,Try.results130,go_sem]) rfl (P0.mk' _ _ _ _ HR.out rfl rfl)
theorem PJ (s:ByteArray) (i l:Int) (w:World) (h0:0<=i) (h1:i<=400):
  Calls Try.prog 125 #[.string s,.int .i64 i,.int .i64 l] w (Xq w (Pg.readMost (Y5 s) i l)):=by
 by_cases c1:Y5 s i=125
 ·have HR:Hid (Pg.readMost (Y5 s) i l=⟨l,i+1,true⟩):=by show _=_;rw[Pg.readMost,if_pos c1]
  have b1:(Y5 s i==125)=true:=by simpa using c1
  clear c1;go_enter Try.func125,Try.ntmps125;go_wp2_with fail;refine(YQ s i _).mono ?_;rintro e w' ⟨rfl,rfl⟩;go_wp2_with fail;go_ret3;exact Xq.mk' _ _ _ HR.out rfl rfl
 have b1:(Y5 s i==125)=false:=by simpa using c1
 by_cases c2:Y5 s i=44
 ·have b2:(Y5 s i==44)=true:=by simpa using c2
  by_cases c3:Pg.digitValue (Y5 s (i+1))<0
  ·have HR:Hid (Pg.readMost (Y5 s) i l=⟨0,i+1,false⟩):=by show _=_;rw[Pg.readMost,if_neg c1,if_pos c2,if_pos c3]
   clear c1 c2;go_enter Try.func125,Try.ntmps125;go_wp2_with fail;refine(YQ s i _).mono ?_;rintro e w' ⟨rfl,rfl⟩;go_wp2_with fail;refine(YQ s (i+1) _).mono ?_;rintro e w' ⟨rfl,rfl⟩;go_wp2_with fail;refine(XP _ _).mono ?_;rintro e w' ⟨rfl,rfl⟩;go_wp2_with fail;go_ret3;exact Xq.mk' _ _ _ HR.out rfl rfl
  by_cases c4:Y5 s (i+2)=125
  ·have HR:Hid (Pg.readMost (Y5 s) i l=⟨Pg.digitValue (Y5 s (i+1)),i+3,true⟩):=by show _=_;rw[Pg.readMost,if_neg c1,if_pos c2,if_neg c3,if_pos c4]
   have b4:(Y5 s (i+2)==125)=true:=by simpa using c4
   clear c1 c2 c4;go_enter Try.func125,Try.ntmps125;go_wp2_with fail;refine(YQ s i _).mono ?_;rintro e w' ⟨rfl,rfl⟩;go_wp2_with fail;refine(YQ s (i+1) _).mono ?_;rintro e w' ⟨rfl,rfl⟩;go_wp2_with fail;refine(XP _ _).mono ?_;rintro e w' ⟨rfl,rfl⟩;go_wp2_with fail;refine(YQ s (i+2) _).mono ?_;rintro e w' ⟨rfl,rfl⟩;go_wp2_with fail;go_ret3;exact Xq.mk' _ _ _ HR.out rfl rfl
  ·have HR:Hid (Pg.readMost (Y5 s) i l=⟨0,i+2,false⟩):=by show _=_;rw[Pg.readMost,if_neg c1,if_pos c2,if_neg c3,if_neg c4]
   have b4:(Y5 s (i+2)==125)=false:=by simpa using c4
   clear c1 c2 c4;go_enter Try.func125,Try.ntmps125;go_wp2_with fail;refine(YQ s i _).mono ?_;rintro e w' ⟨rfl,rfl⟩;go_wp2_with fail;refine(YQ s (i+1) _).mono ?_;rintro e w' ⟨rfl,rfl⟩;go_wp2_with fail;refine(XP _ _).mono ?_;rintro e w' ⟨rfl,rfl⟩;go_wp2_with fail;refine(YQ s (i+2) _).mono ?_;rintro e w' ⟨rfl,rfl⟩;go_wp2_with fail;go_ret3;exact Xq.mk' _ _ _ HR.out rfl rfl
 ·have HR:Hid (Pg.readMost (Y5 s) i l=⟨0,i,false⟩):=by show _=_;rw[Pg.readMost,if_neg c1,if_neg c2]
  have b2:(Y5 s i==44)=false:=by simpa using c2
  clear c1 c2;go_enter Try.func125,Try.ntmps125;go_wp2_with fail;refine(YQ s i _).mono ?_;rintro e w' ⟨rfl,rfl⟩;go_wp2_with fail;go_ret3;exact Xq.mk' _ _ _ HR.out rfl rfl
end Go.Proofs.Ytoaaklhpmhjhkab
