import Derived.Test.YtoaaklhpmhjhkaaGreatRows
import Derived.WalkSpells
import Derived.WalkLawsBesides
import Derived.Deep.QuietTactic
import Derived.BigQuiet
import Derived.Test.YtoaaklhpmhjhkaaGreatC10
set_option maxRecDepth 100000
set_option maxHeartbeats 4000000
set_option linter.all false
namespace Go.Proofs.YtoaaklhpmhjhkaaGreat
open Go.RowKit
theorem q0q (s:ByteArray) (i:Int) (w:World):
  Calls Tryz.prog 192 #[.string s,.int .i64 i] w λe w'=>e=.returned (.int .i64 (bat s i))/\w'=w:=by
 by_cases a:i<0
 ·go_enter Tryz.func192,Tryz.ntmps192
  go_wp2
  go_ret;exact⟨q0l (y0W (by omega)).symm,rfl⟩
 by_cases b:(s.size:Int)<=i
 ·go_enter Tryz.func192,Tryz.ntmps192
  go_wp2
  go_ret;exact⟨q0l (y0W (by omega)).symm,rfl⟩
 go_enter Tryz.func192,Tryz.ntmps192
 go_wp2
 go_ret;exact⟨q0l (by rw[q8v (by omega) (by omega),q4U]),rfl⟩
theorem q5t (b : Int) (w : World) :
  Calls Tryz.prog 224 #[.int .i64 b] w λe w' => e = .returned (.bool (Pg.isMark b)) /\ w' = w := by
 go_enter Tryz.func224, Tryz.ntmps224
 go_wp2
 all_goals
  go_ret;refine ⟨q0v ?_, rfl⟩;simp [Pg.isMark, *]
theorem q4J (b : Int) (w : World) :
  Calls Tryz.prog 227 #[.int .i64 b] w λe w' => e = .returned (.bool (Pg.isInner b)) /\ w' = w := by
 go_enter Tryz.func227, Tryz.ntmps227
 go_wp2
 all_goals
  go_ret;refine ⟨q0v ?_, rfl⟩;simp [Pg.isInner, *]
theorem q0U (b:Int) (w:World):
  Calls Tryz.prog 216 #[.int .i64 b] w λe w'=>e=.returned (.int .i64 (Pg.digitValue b))/\w'=w:=by
 by_cases h:48<=b/\b<=57
 ·obtain⟨a,c⟩:=id h;go_enter Tryz.func216,Tryz.ntmps216
  go_wp2
  go_ret;exact⟨q0l (by rw[Pg.digitValue,if_pos h]),rfl⟩
 by_cases a:48<=b
 all_goals
  have c:b<48\/57<b:=by omega
  go_enter Tryz.func216,Tryz.ntmps216
  go_wp2
  all_goals
   go_ret;exact⟨q0l (by rw[Pg.digitValue,if_neg (by omega)]),rfl⟩
theorem q1z (b:Int) (w:World):
  Calls Tryz.prog 226 #[.int .i64 b] w λe w'=>e=.returned (.int .i64 (Pg.hexValue b))/\w'=w:=by
 by_cases h:97<=b/\b<=102
 ·obtain⟨c,d⟩:=id h;go_enter Tryz.func226,Tryz.ntmps226
  go_wp2
  go_ret;exact⟨q0l (by rw[Pg.hexValue,if_pos h]),rfl⟩
 have a:Hid (Pg.hexValue b=Pg.digitValue b):=by show _=_;rw[Pg.hexValue,if_neg h]
 by_cases c:97<=b
 ·have d:¬b<=102:=by omega
  clear h;go_enter Tryz.func226,Tryz.ntmps226;go_wp2_with fail;refine(q0U b _).mono ?_;rintro e w' ⟨rfl,rfl⟩;go_wp2_with fail;go_ret;exact⟨q0l a.out.symm,rfl⟩
 clear h;go_enter Tryz.func226,Tryz.ntmps226;go_wp2_with fail;refine(q0U b _).mono ?_;rintro e w' ⟨rfl,rfl⟩;go_wp2_with fail;go_ret;exact⟨q0l a.out.symm,rfl⟩
theorem q9A (b:Int) (w:World):
  Calls Tryz.prog 193 #[.int .i64 b] w λe w'=>e=.returned (.int .i64 (Pg.kindOf b))/\w'=w:=by
 go_enter Tryz.func193,Tryz.ntmps193
 go_wp2
 all_goals
  go_ret;refine⟨q0l ?_,rfl⟩;simp only[beq_iff_eq,beq_eq_false_iff_ne]at *;unfold Pg.kindOf
  repeat' split
  all_goals first|rfl|omega
theorem q2y (k : Int) (w : World) :
  Calls Tryz.prog 204 #[.int .i64 k] w λe w' => e = .returned (.bool (Pg.isSuffix k)) /\ w' = w := by
 go_enter Tryz.func204, Tryz.ntmps204
 go_wp2
 all_goals
  go_ret;refine ⟨q0v ?_, rfl⟩;simp [Pg.isSuffix, *]
theorem q3j (k:Int) (w:World):
  Calls Tryz.prog 196 #[.int .i64 k] w λe w'=>e=.returned (.int .i64 (Pg.opn k))/\w'=w:=by
 go_enter Tryz.func196,Tryz.ntmps196
 go_wp2
 all_goals
  go_ret;refine⟨q0l ?_,rfl⟩;simp only[beq_iff_eq,beq_eq_false_iff_ne]at *;unfold Pg.opn
  repeat' split
  all_goals first|rfl|omega
theorem q6z (k:Int) (w:World):
  Calls Tryz.prog 205 #[.int .i64 k] w λe w'=>e=.returned (.bool (Pg.endsPiece k))/\w'=w:=by
 cases h1:(k==1)
 ·cases h3:(k==3)
  ·go_enter Tryz.func205,Tryz.ntmps205;go_wp2_with fail;refine(q2y k _).mono ?_;rintro e w' ⟨rfl,rfl⟩;go_wp2_with fail;go_ret;exact⟨q0v (by simp[Pg.endsPiece,h1,h3]),rfl⟩
  go_enter Tryz.func205,Tryz.ntmps205;go_wp2_with fail;go_ret;exact⟨q0v (by simp[Pg.endsPiece,h1,h3]),rfl⟩
 go_enter Tryz.func205,Tryz.ntmps205;go_wp2_with fail;go_ret;exact⟨q0v (by simp[Pg.endsPiece,h1]),rfl⟩
theorem q7y (k b o:Int) (w:World):
  Calls Tryz.prog 194 #[.int .i64 k,.int .i64 b,.int .i64 o] w λe w'=>e=.returned (.bool (Pg.canStand k b o))/\w'=w:=by
 by_cases a:k=0
 ·subst a;go_enter Tryz.func194,Tryz.ntmps194;go_wp2_with fail;go_ret;exact⟨rfl,rfl⟩
 have f:(k==0)=false:=by simpa using a
 by_cases c:k=3
 ·subst c;go_enter Tryz.func194,Tryz.ntmps194;go_wp2_with fail;go_ret;exact⟨q0v (by simp[Pg.canStand]),rfl⟩
 have g:(k==3)=false:=by simpa using c
 have d:Hid (Pg.canStand k b o=if Pg.isSuffix k then Pg.endsPiece b else true):=by show _=_;simp[Pg.canStand,a,c]
 clear a c;go_enter Tryz.func194,Tryz.ntmps194;go_wp2_with fail;refine(q2y k _).mono ?_;rintro e w' ⟨rfl,rfl⟩;cases hs:Pg.isSuffix k
 ·have HS:=hyd hs;clear hs;go_wp2_with fail;go_ret;exact⟨q0v (by rw[d.out,HS.out];rfl),rfl⟩
 have HS:=hyd hs;clear hs;go_wp2_with fail;refine(q6z b _).mono ?_;rintro e w' ⟨rfl,rfl⟩;go_wp2_with fail;go_ret;exact⟨q0v (by rw[d.out,HS.out];rfl),rfl⟩
theorem q0A (n:Int) (w:World):
  Calls Tryz.prog 191 #[.int .i64 n] w λe w'=>e=.returned (.int .i64 (Pg.capped n))/\w'=w:=by
 by_cases h:96<n
 ·go_enter Tryz.func191,Tryz.ntmps191;go_wp2_with fail;go_ret;exact⟨q0l (by rw[Pg.capped,if_pos h]),rfl⟩
 go_enter Tryz.func191,Tryz.ntmps191;go_wp2_with fail;go_ret;exact⟨q0l (by rw[Pg.capped,if_neg (by omega)]),rfl⟩
def RPost (w:World) (r:Pg.R) (e:Ending) (w':World):Prop:=e=.returned (.tuple #[.int .i64 r.v,.int .i64 r.n,.bool r.ok])/\w'=w
variable {w w' : World}
theorem RPost.mk' {r:Pg.R}{e:Ending} (v n:Int) (ok:Bool) (hr:r=⟨v,n,ok⟩) (he:e=.returned (.tuple #[.int .i64 v,.int .i64 n,.bool ok])) (hw:w'=w):RPost w r e w':=by
 subst hr;exact⟨he,hw⟩
theorem q7Q (s:ByteArray) (i:Int) (w:World) (h0:0<=i) (h1:i<=1000):
  Calls Tryz.prog 223 #[.string s,.int .i64 i] w (RPost w (Pg.readHex (bat s) i)):=by
 have c:=Pg.hexValue_bd (bat s i);have b:=Pg.hexValue_bd (bat s (i+1));by_cases c1:Pg.hexValue (bat s i)<0
 ·have a:Hid (Pg.readHex (bat s) i=⟨0,i,false⟩):=by show _=_;rw[Pg.readHex,if_pos c1]
  go_enter Tryz.func223,Tryz.ntmps223;go_wp2_with fail;refine(q0q s i _).mono ?_;rintro e w' ⟨rfl,rfl⟩;go_wp2_with fail;refine(q1z _ _).mono ?_;rintro e w' ⟨rfl,rfl⟩;go_wp2_with fail;go_ret3;exact RPost.mk' _ _ _ a.out rfl rfl
 by_cases c2:Pg.hexValue (bat s (i+1))<0
 ·have a:Hid (Pg.readHex (bat s) i=⟨0,i+1,false⟩):=by show _=_;rw[Pg.readHex,if_neg c1,if_pos c2]
  go_enter Tryz.func223,Tryz.ntmps223;go_wp2_with fail;refine(q0q s i _).mono ?_;rintro e w' ⟨rfl,rfl⟩;go_wp2_with fail;refine(q1z _ _).mono ?_;rintro e w' ⟨rfl,rfl⟩;go_wp2_with fail;refine(q0q s (i+1) _).mono ?_;rintro e w' ⟨rfl,rfl⟩;go_wp2_with fail;refine(q1z _ _).mono ?_;rintro e w' ⟨rfl,rfl⟩;go_wp2_with fail;go_ret3;exact RPost.mk' _ _ _ a.out rfl rfl
 have a:Hid (Pg.readHex (bat s) i=⟨Pg.hexValue (bat s i)*16+Pg.hexValue (bat s (i+1)),i+2,true⟩):=by show _=_;rw[Pg.readHex,if_neg c1,if_neg c2]
 go_enter Tryz.func223,Tryz.ntmps223;go_wp2_with fail;refine(q0q s i _).mono ?_;rintro e w' ⟨rfl,rfl⟩;go_wp2_with fail;refine(q1z _ _).mono ?_;rintro e w' ⟨rfl,rfl⟩;go_wp2_with fail;refine(q0q s (i+1) _).mono ?_;rintro e w' ⟨rfl,rfl⟩;go_wp2_with fail;refine(q1z _ _).mono ?_;rintro e w' ⟨rfl,rfl⟩;go_wp2_with fail;go_ret3;exact RPost.mk' _ _ _ a.out rfl rfl
theorem q2M (s:ByteArray) (i:Int) (w:World) (h0:0<=i) (h1:i<=500):
  Calls Tryz.prog 215 #[.string s,.int .i64 i] w (RPost w (Pg.readEscape (bat s) i)):=by
 by_cases c1:bat s (i+1)=110
 ·have a:Hid (Pg.readEscape (bat s) i=⟨10,i+2,true⟩):=by show _=_;rw[Pg.readEscape,if_pos c1]
  have c:(bat s (i+1)==110)=true:=by simpa using c1
  clear c1;go_enter Tryz.func215,Tryz.ntmps215;go_wp2_with fail;refine(q0q s (i+1) _).mono ?_;rintro e w' ⟨rfl,rfl⟩;go_wp2_with fail;go_ret3;exact RPost.mk' _ _ _ a.out rfl rfl
 have c:(bat s (i+1)==110)=false:=by simpa using c1
 by_cases c2:bat s (i+1)=116
 ·have a:Hid (Pg.readEscape (bat s) i=⟨9,i+2,true⟩):=by show _=_;rw[Pg.readEscape,if_neg c1,if_pos c2]
  have d:(bat s (i+1)==116)=true:=by simpa using c2
  clear c1 c2;go_enter Tryz.func215,Tryz.ntmps215;go_wp2_with fail;refine(q0q s (i+1) _).mono ?_;rintro e w' ⟨rfl,rfl⟩;go_wp2_with fail;go_ret3;exact RPost.mk' _ _ _ a.out rfl rfl
 have d:(bat s (i+1)==116)=false:=by simpa using c2
 by_cases c3:bat s (i+1)=120
 ·have a:Hid (Pg.readEscape (bat s) i=Pg.readHex (bat s) (i+2)):=by show _=_;rw[Pg.readEscape,if_neg c1,if_neg c2,if_pos c3]
  have f:(bat s (i+1)==120)=true:=by simpa using c3
  clear c1 c2 c3;go_enter Tryz.func215,Tryz.ntmps215;go_wp2_with fail;refine(q0q s (i+1) _).mono ?_;rintro e w' ⟨rfl,rfl⟩;go_wp2_with fail;refine(q7Q s (i+2) _ (by omega) (by omega)).mono ?_;rintro e w' ⟨rfl,rfl⟩;go_wp2_with fail;go_ret3;exact RPost.mk' _ _ _ a.out rfl rfl
 have f:(bat s (i+1)==120)=false:=by simpa using c3
 cases c4:Pg.isMark (bat s (i+1))
 ·have a:Hid (Pg.readEscape (bat s) i=⟨0,i+1,false⟩):=by show _=_;rw[Pg.readEscape,if_neg c1,if_neg c2,if_neg c3,c4];rfl
  have b:=hyd c4;clear c1 c2 c3 c4;go_enter Tryz.func215,Tryz.ntmps215;go_wp2_with fail;refine(q0q s (i+1) _).mono ?_;rintro e w' ⟨rfl,rfl⟩;go_wp2_with fail;refine(q5t _ _).mono ?_;rintro e w' ⟨rfl,rfl⟩;rw[b.out];go_wp2_with fail;go_ret3;exact RPost.mk' _ _ _ a.out rfl rfl
 have a:Hid (Pg.readEscape (bat s) i=⟨bat s (i+1),i+2,true⟩):=by show _=_;rw[Pg.readEscape,if_neg c1,if_neg c2,if_neg c3,c4];rfl
 have b:=hyd c4;clear c1 c2 c3 c4;go_enter Tryz.func215,Tryz.ntmps215;go_wp2_with fail;refine(q0q s (i+1) _).mono ?_;rintro e w' ⟨rfl,rfl⟩;go_wp2_with fail;refine(q5t _ _).mono ?_;rintro e w' ⟨rfl,rfl⟩;rw[b.out];go_wp2_with fail;go_ret3;exact RPost.mk' _ _ _ a.out rfl rfl
theorem q2o (s:ByteArray) (i:Int) (w:World) (h0:0<=i) (h1:i<=500):
  Calls Tryz.prog 225 #[.string s,.int .i64 i] w (RPost w (Pg.readOne (bat s) i)):=by
 by_cases c1:bat s i=92
 ·have a:Hid (Pg.readOne (bat s) i=Pg.readEscape (bat s) i):=by show _=_;rw[Pg.readOne,if_pos c1]
  have c:(bat s i==92)=true:=by simpa using c1
  clear c1;go_enter Tryz.func225,Tryz.ntmps225;go_wp2_with fail;refine(q0q s i _).mono ?_;rintro e w' ⟨rfl,rfl⟩;go_wp2_with fail;refine(q2M s i _ (by omega) (by omega)).mono ?_;rintro e w' ⟨rfl,rfl⟩;go_wp2_with fail;go_ret3;exact RPost.mk' _ _ _ a.out rfl rfl
 have c:(bat s i==92)=false:=by simpa using c1
 cases c4:Pg.isInner (bat s i)
 ·have a:Hid (Pg.readOne (bat s) i=⟨0,i,false⟩):=by show _=_;rw[Pg.readOne,if_neg c1,c4];rfl
  have b:=hyd c4;clear c1 c4;go_enter Tryz.func225,Tryz.ntmps225;go_wp2_with fail;refine(q0q s i _).mono ?_;rintro e w' ⟨rfl,rfl⟩;go_wp2_with fail;refine(q4J _ _).mono ?_;rintro e w' ⟨rfl,rfl⟩;rw[b.out];go_wp2_with fail;go_ret3;exact RPost.mk' _ _ _ a.out rfl rfl
 have a:Hid (Pg.readOne (bat s) i=⟨bat s i,i+1,true⟩):=by show _=_;rw[Pg.readOne,if_neg c1,c4];rfl
 have b:=hyd c4;clear c1 c4;go_enter Tryz.func225,Tryz.ntmps225;go_wp2_with fail;refine(q0q s i _).mono ?_;rintro e w' ⟨rfl,rfl⟩;go_wp2_with fail;refine(q4J _ _).mono ?_;rintro e w' ⟨rfl,rfl⟩;rw[b.out];go_wp2_with fail;go_ret3;exact RPost.mk' _ _ _ a.out rfl rfl
def IPost (w:World) (r:Pg.I) (e:Ending) (w':World):Prop:=e=.returned (.tuple #[.int .i64 r.lo,.int .i64 r.hi,.int .i64 r.n,.bool r.ok])/\w'=w
theorem IPost.mk' {r:Pg.I}{e:Ending} (lo hi n:Int) (ok:Bool) (hr:r=⟨lo,hi,n,ok⟩) (he:e=.returned (.tuple #[.int .i64 lo,.int .i64 hi,.int .i64 n,.bool ok])) (hw:w'=w):IPost w r e w':=by
 subst hr;exact⟨he,hw⟩
theorem q3U (s:ByteArray) (i:Int) (w:World) (h0:0<=i) (h1:i<=400):
  Calls Tryz.prog 222 #[.string s,.int .i64 i] w (IPost w (Pg.readItem (bat s) i)):=by
 have f:=Pg.readOne_bd (bat s) i (q7B s);obtain⟨g,h,j,k,_⟩:=f;cases hok:(Pg.readOne (bat s) i).ok
 ·have a:Hid (Pg.readItem (bat s) i=⟨0,0,(Pg.readOne (bat s) i).n,false⟩):=by show _=_;rw[Pg.readItem,hok];rfl
  have b:=hyd hok;clear hok;go_enter Tryz.func222,Tryz.ntmps222;go_wp2_with fail;refine(q2o s i _ (by omega) (by omega)).mono ?_;rintro e w' ⟨rfl,rfl⟩;rw[b.out];go_wp2_with fail;refine bodyPost_ret (v:=.tuple #[.int .i64 0,.int .i64 0,.int .i64 (Pg.readOne (bat s) i).n,.bool false]) (by simp[results,Tryz.results222,go_sem]) rfl (IPost.mk' _ _ _ _ a.out rfl rfl)
 have b:=hyd hok;by_cases c:bat s (Pg.readOne (bat s) i).n=45
 ·have a:Hid (Pg.readItem (bat s) i=⟨(Pg.readOne (bat s) i).v,(Pg.readOne (bat s) ((Pg.readOne (bat s) i).n+1)).v,(Pg.readOne (bat s) ((Pg.readOne (bat s) i).n+1)).n,(Pg.readOne (bat s) ((Pg.readOne (bat s) i).n+1)).ok⟩):=by show _=_;rw[Pg.readItem,if_pos hok,if_pos c]
  have d:(bat s (Pg.readOne (bat s) i).n==45)=true:=by simpa using c
  clear hok c;go_enter Tryz.func222,Tryz.ntmps222;go_wp2_with fail;refine(q2o s i _ (by omega) (by omega)).mono ?_;rintro e w' ⟨rfl,rfl⟩;rw[b.out];go_wp2_with fail;refine(q0q s _ _).mono ?_;rintro e w' ⟨rfl,rfl⟩;go_wp2_with fail;refine(q2o s ((Pg.readOne (bat s) i).n+1) _ (by omega) (by omega)).mono ?_;rintro e w' ⟨rfl,rfl⟩;go_wp2_with fail;refine bodyPost_ret (v:=.tuple #[.int .i64 (Pg.readOne (bat s) i).v,.int .i64 (Pg.readOne (bat s) ((Pg.readOne (bat s) i).n+1)).v,.int .i64 (Pg.readOne (bat s) ((Pg.readOne (bat s) i).n+1)).n,.bool (Pg.readOne (bat s) ((Pg.readOne (bat s) i).n+1)).ok]) (by simp[results,Tryz.results222,go_sem]) rfl (IPost.mk' _ _ _ _ a.out rfl rfl)
 have a:Hid (Pg.readItem (bat s) i=⟨(Pg.readOne (bat s) i).v,(Pg.readOne (bat s) i).v,(Pg.readOne (bat s) i).n,true⟩):=by show _=_;rw[Pg.readItem,if_pos hok,if_neg c]
 have d:(bat s (Pg.readOne (bat s) i).n==45)=false:=by simpa using c
 clear hok c;go_enter Tryz.func222,Tryz.ntmps222;go_wp2_with fail;refine(q2o s i _ (by omega) (by omega)).mono ?_;rintro e w' ⟨rfl,rfl⟩;rw[b.out];go_wp2_with fail;refine(q0q s _ _).mono ?_;rintro e w' ⟨rfl,rfl⟩;go_wp2_with fail;refine bodyPost_ret (v:=.tuple #[.int .i64 (Pg.readOne (bat s) i).v,.int .i64 (Pg.readOne (bat s) i).v,.int .i64 (Pg.readOne (bat s) i).n,.bool true]) (by simp[results,Tryz.results222,go_sem]) rfl (IPost.mk' _ _ _ _ a.out rfl rfl)
theorem q7b (s:ByteArray) (i l:Int) (w:World) (h0:0<=i) (h1:i<=400):
  Calls Tryz.prog 217 #[.string s,.int .i64 i,.int .i64 l] w (RPost w (Pg.readMost (bat s) i l)):=by
 by_cases c1:bat s i=125
 ·have a:Hid (Pg.readMost (bat s) i l=⟨l,i+1,true⟩):=by show _=_;rw[Pg.readMost,if_pos c1]
  have b:(bat s i==125)=true:=by simpa using c1
  clear c1;go_enter Tryz.func217,Tryz.ntmps217;go_wp2_with fail;refine(q0q s i _).mono ?_;rintro e w' ⟨rfl,rfl⟩;go_wp2_with fail;go_ret3;exact RPost.mk' _ _ _ a.out rfl rfl
 have b:(bat s i==125)=false:=by simpa using c1
 by_cases c2:bat s i=44
 ·have c:(bat s i==44)=true:=by simpa using c2
  by_cases c3:Pg.digitValue (bat s (i+1))<0
  ·have a:Hid (Pg.readMost (bat s) i l=⟨0,i+1,false⟩):=by show _=_;rw[Pg.readMost,if_neg c1,if_pos c2,if_pos c3]
   clear c1 c2;go_enter Tryz.func217,Tryz.ntmps217;go_wp2_with fail;refine(q0q s i _).mono ?_;rintro e w' ⟨rfl,rfl⟩;go_wp2_with fail;refine(q0q s (i+1) _).mono ?_;rintro e w' ⟨rfl,rfl⟩;go_wp2_with fail;refine(q0U _ _).mono ?_;rintro e w' ⟨rfl,rfl⟩;go_wp2_with fail;go_ret3;exact RPost.mk' _ _ _ a.out rfl rfl
  by_cases c4:bat s (i+2)=125
  ·have a:Hid (Pg.readMost (bat s) i l=⟨Pg.digitValue (bat s (i+1)),i+3,true⟩):=by show _=_;rw[Pg.readMost,if_neg c1,if_pos c2,if_neg c3,if_pos c4]
   have d:(bat s (i+2)==125)=true:=by simpa using c4
   clear c1 c2 c4;go_enter Tryz.func217,Tryz.ntmps217;go_wp2_with fail;refine(q0q s i _).mono ?_;rintro e w' ⟨rfl,rfl⟩;go_wp2_with fail;refine(q0q s (i+1) _).mono ?_;rintro e w' ⟨rfl,rfl⟩;go_wp2_with fail;refine(q0U _ _).mono ?_;rintro e w' ⟨rfl,rfl⟩;go_wp2_with fail;refine(q0q s (i+2) _).mono ?_;rintro e w' ⟨rfl,rfl⟩;go_wp2_with fail;go_ret3;exact RPost.mk' _ _ _ a.out rfl rfl
  have a:Hid (Pg.readMost (bat s) i l=⟨0,i+2,false⟩):=by show _=_;rw[Pg.readMost,if_neg c1,if_pos c2,if_neg c3,if_neg c4]
  have d:(bat s (i+2)==125)=false:=by simpa using c4
  clear c1 c2 c4;go_enter Tryz.func217,Tryz.ntmps217;go_wp2_with fail;refine(q0q s i _).mono ?_;rintro e w' ⟨rfl,rfl⟩;go_wp2_with fail;refine(q0q s (i+1) _).mono ?_;rintro e w' ⟨rfl,rfl⟩;go_wp2_with fail;refine(q0U _ _).mono ?_;rintro e w' ⟨rfl,rfl⟩;go_wp2_with fail;refine(q0q s (i+2) _).mono ?_;rintro e w' ⟨rfl,rfl⟩;go_wp2_with fail;go_ret3;exact RPost.mk' _ _ _ a.out rfl rfl
 have a:Hid (Pg.readMost (bat s) i l=⟨0,i,false⟩):=by show _=_;rw[Pg.readMost,if_neg c1,if_neg c2]
 have c:(bat s i==44)=false:=by simpa using c2
 clear c1 c2;go_enter Tryz.func217,Tryz.ntmps217;go_wp2_with fail;refine(q0q s i _).mono ?_;rintro e w' ⟨rfl,rfl⟩;go_wp2_with fail;go_ret3;exact RPost.mk' _ _ _ a.out rfl rfl
end Go.Proofs.YtoaaklhpmhjhkaaGreat
