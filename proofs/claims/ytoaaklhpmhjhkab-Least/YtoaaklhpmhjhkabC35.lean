import Derived.Test.YtoaaklhpmhjhkabC29
import Derived.Test.YtoaaklhpmhjhkabC34
set_option maxRecDepth 100000
set_option maxHeartbeats 4000000
set_option linter.all false
namespace Go.Proofs.Ytoaaklhpmhjhkab
open Go.RowKit
open Bm
def YE (x:List UInt8):ByteArray:=⟨x.toArray⟩
theorem PY (k:Nat) (w:World) (hk:k<10):
  Calls Try.prog 20 #[.int .i64 k] w fun e w'=>e=.returned (.string (YE (V0 k)))/\Below w.heap.size w w':=by
 have hpk:Vx (k:Int) 10=(k:Int):=by unfold Vx;rw[if_neg (by omega)];omega
 have HP:Hid (∀w',Calls Try.prog 15 #[.int .i64 k,.int .i64 ((10:Nat):Int)] w' fun e w''=>e=.returned (.int .i64 k)/\w''=w'):=fun w'=>by
  have:=QX (k:Int) 10 w' ⟨by omega,by omega⟩ (by omega) (by omega);rw[hpk]at this;exact this
 obtain⟨W,hW⟩:=nam (w.alloc (.cells #[.string ⟨#[97]⟩,.string ⟨#[98]⟩,.string ⟨#[99]⟩,.string ⟨#[91,97,98,93]⟩,.string ⟨#[91,94,97,93]⟩,.string ⟨#[46]⟩,.string ⟨#[92,110]⟩,.string ⟨#[91,98,99,93]⟩,.string ⟨#[92,120,48,48]⟩,.string ⟨#[92,42]⟩] 9));have hc:W.cell? ⟨w.heap.size,k,none⟩=some (.string (YE (V0 k))):=by
  rw[hW,World.cell?_alloc_new];have:k=0\/k=1\/k=2\/k=3\/k=4\/k=5\/k=6\/k=7\/k=8\/k=9:=by omega
  rcases this with rfl|rfl|rfl|rfl|rfl|rfl|rfl|rfl|rfl|rfl<;>rfl
 have HB:Hid (Below w.heap.size w W):=by show Below _ _ _;rw[hW];exact Wk _ _
 have hk':(k:Int)<10:=by omega
 obtain⟨S,hS⟩:=nam (YE (V0 k));rw[<-hS]at hc ⊢;clear hpk hS;go_enter Try.func20,Try.ntmps20;go_wp2_with fail;refine(HP.out _).mono ?_;rintro e w1 ⟨rfl,rfl⟩;rw[<-hW];clear hW;go_wp2_with fail;go_ret;exact⟨rfl,HB.out⟩
theorem WH (x y:List UInt8):YE x++YE y=YE (x++y):=by
 unfold YE;apply ByteArray.ext;simp
theorem UX (x:List UInt8):(YE x).size=x.length:=by simp[YE,ByteArray.size]
theorem YQ:(Try.prog.info? 85).map (·.size)=some 2:=by kernel_rfl
variable {b : Nat}{v : Value}{W : World}
theorem Rw {u:Value} (T:TC b [u,v] W):(loadVar 85 ⟨b,0,none⟩).run Try.prog W=.ok (.agg #[u,v]) W:=
 run_loadVar_mid (P:=Try.prog) W b 0 85 [u,v] _ (fun j x hj=>by rw[Nat.zero_add];exact(T j x hj).1) Try.underlying85 rfl YQ
def Rk (x:List UInt8) (d:Int) (s:List UInt8):List UInt8:=if 40<(40::(x++41::s)).length\/6<d+1 then x else 40::(x++41::s)
def Rj (x:List UInt8) (d:Int) (s:List UInt8):Int:=if 40<(40::(x++41::s)).length\/6<d+1 then d else d+1
theorem Ob (x s:List UInt8) (d:Int) (w:World) (hx:x.length<=40) (hs:s.length<=40) (h0:0<=d) (h6:d<=6):
  Calls Try.prog 38 #[.agg #[.string (YE x),.int .i64 d],.string (YE s)] w fun e w'=>e=.returned (.agg #[.string (YE (Rk x d s)),.int .i64 (Rj x d s)])/\Below w.heap.size w w':=by
 obtain⟨X,hX⟩:=nam (YE x);obtain⟨S,hS⟩:=nam (YE s);have zx:X.size=x.length:=by rw[hX];exact UX x
 have zs:S.size=s.length:=by rw[hS];exact UX s
 have n1:¬9223372036854775807<1+X.size+1:=by omega
 have n2:¬9223372036854775807<1+X.size+1+S.size:=by omega
 have n0:¬9223372036854775807<1+X.size:=by omega
 have el:(40::(x++41::s)).length=1+X.size+1+S.size:=by rw[zx,zs];simp;omega
 have HY:Hid ((⟨#[40]⟩:ByteArray)++X++⟨#[41]⟩++S=YE (40::(x++41::s))):=by
  show _=_;rw[hX,hS,show(⟨#[40]⟩:ByteArray)=YE [40] from rfl,show(⟨#[41]⟩:ByteArray)=YE [41] from rfl,WH,WH,WH];simp
 unfold Rk Rj;rw[el,<-hX,<-hS];by_cases hb:40<1+X.size+1+S.size
 ·rw[if_pos (Or.inl hb),if_pos (Or.inl hb),<-hX];have hb':(40:Int)<((1+X.size+1+S.size:Nat):Int):=by omega
  clear el zx zs hX hS;go_enter Try.func38,Try.ntmps38;go_wp2_with fail;obtain⟨V1,hV1⟩:=nam (w.alloc (.cells #[.string X,.int .i64 d] 85));obtain⟨V2,hV2⟩:=nam (V1.alloc (.cells #[.string X,.int .i64 d] 85));obtain⟨V3,hV3⟩:=nam (V2.alloc (.cells #[.string ((⟨#[40]⟩:ByteArray)++X++⟨#[41]⟩++S),.int .i64 (d+1)] 85));rw[<-hV1,<-hV2,<-hV3];have s1:V1.heap.size=w.heap.size+1:=by rw[hV1];simp
  have s2:V2.heap.size=w.heap.size+2:=by rw[hV2];simp[s1]
  have B1:Below w.heap.size w V1:=by rw[hV1];exact box_bel _ _
  have B2:Below V1.heap.size V1 V2:=by rw[hV2];exact box_bel _ _
  have B3:Below V2.heap.size V2 V3:=by rw[hV3];exact box_bel _ _
  have T2:TC (w.heap.size+1) [.string X,.int .i64 d] V2:=by rw[<-s1,hV2];exact TC.boxed V1 _ _
  have T3:=T2.block (B3.block _ (by omega));refine bodyPost_ret (v:=.agg #[.string X,.int .i64 d]) (res_load1 Try.results38 rfl (Rw T3)) rfl ⟨rfl,(B1.trans (B2.mono B1.size)).trans (B3.mono (by omega))⟩
 ·have hb':¬(40:Int)<((1+X.size+1+S.size:Nat):Int):=by omega
  by_cases hd:6<d+1
  ·rw[if_pos (Or.inr hd),if_pos (Or.inr hd),<-hX];clear el zx zs hX hS;go_enter Try.func38,Try.ntmps38;go_wp2_with fail;obtain⟨V1,hV1⟩:=nam (w.alloc (.cells #[.string X,.int .i64 d] 85));obtain⟨V2,hV2⟩:=nam (V1.alloc (.cells #[.string X,.int .i64 d] 85));obtain⟨V3,hV3⟩:=nam (V2.alloc (.cells #[.string ((⟨#[40]⟩:ByteArray)++X++⟨#[41]⟩++S),.int .i64 (d+1)] 85));rw[<-hV1,<-hV2,<-hV3];have s1:V1.heap.size=w.heap.size+1:=by rw[hV1];simp
   have s2:V2.heap.size=w.heap.size+2:=by rw[hV2];simp[s1]
   have B1:Below w.heap.size w V1:=by rw[hV1];exact box_bel _ _
   have B2:Below V1.heap.size V1 V2:=by rw[hV2];exact box_bel _ _
   have B3:Below V2.heap.size V2 V3:=by rw[hV3];exact box_bel _ _
   have T2:TC (w.heap.size+1) [.string X,.int .i64 d] V2:=by rw[<-s1,hV2];exact TC.boxed V1 _ _
   have T3:=T2.block (B3.block _ (by omega));refine bodyPost_ret (v:=.agg #[.string X,.int .i64 d]) (res_load1 Try.results38 rfl (Rw T3)) rfl ⟨rfl,(B1.trans (B2.mono B1.size)).trans (B3.mono (by omega))⟩
  ·rw[if_neg (by omega),if_neg (by omega),<-HY.out];clear el zx zs hX hS;go_enter Try.func38,Try.ntmps38;go_wp2_with fail;obtain⟨V1,hV1⟩:=nam (w.alloc (.cells #[.string X,.int .i64 d] 85));obtain⟨V2,hV2⟩:=nam (V1.alloc (.cells #[.string ((⟨#[40]⟩:ByteArray)++X++⟨#[41]⟩++S),.int .i64 (d+1)] 85));obtain⟨V3,hV3⟩:=nam (V2.alloc (.cells #[.string ((⟨#[40]⟩:ByteArray)++X++⟨#[41]⟩++S),.int .i64 (d+1)] 85));rw[<-hV1,<-hV2,<-hV3];have s1:V1.heap.size=w.heap.size+1:=by rw[hV1];simp
   have s2:V2.heap.size=w.heap.size+2:=by rw[hV2];simp[s1]
   have B1:Below w.heap.size w V1:=by rw[hV1];exact box_bel _ _
   have B2:Below V1.heap.size V1 V2:=by rw[hV2];exact box_bel _ _
   have B3:Below V2.heap.size V2 V3:=by rw[hV3];exact box_bel _ _
   have T2:TC (w.heap.size+1) [.string ((⟨#[40]⟩:ByteArray)++X++⟨#[41]⟩++S),.int .i64 (d+1)] V2:=by rw[<-s1,hV2];exact TC.boxed V1 _ _
   have T3:=T2.block (B3.block _ (by omega));refine bodyPost_ret (v:=.agg #[.string ((⟨#[40]⟩:ByteArray)++X++⟨#[41]⟩++S),.int .i64 (d+1)]) (res_load1 Try.results38 rfl (Rw T3)) rfl ⟨rfl,(B1.trans (B2.mono B1.size)).trans (B3.mono (by omega))⟩
end Go.Proofs.Ytoaaklhpmhjhkab
