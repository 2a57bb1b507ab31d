import Derived.Test.YtoaaklhpmhjhkaaGreatRows
import Derived.WalkSpells
import Derived.WalkLawsBesides
import Derived.Deep.QuietTactic
import Derived.BigQuiet
import Derived.Deep.RegionHeld3
import Derived.ArgAppend
import Derived.Laws.IdiomCopy
import Derived.Laws.IdiomStrings
import Derived.Laws.BitsAllLaws
import Derived.Lib.SlBytesConst
import Derived.Test.YtoaaklhpmhjhkaaGreatC01
set_option maxRecDepth 100000
set_option maxHeartbeats 4000000
set_option linter.all false
namespace Go.Proofs.YtoaaklhpmhjhkaaGreat
open Go.RowKit
def IL (ad:Option Addr) (f:Nat->Int) (n:Nat) (w:World):Prop:=
 ∀i,i<n->∃b off,ad=some ⟨b,off,none⟩/\w.cell? ⟨b,off+i,none⟩=some (.int .i64 (f i))
variable {b g gb m n : Nat}{ad ta : Option Addr}{w w' : World}
theorem IL.below {f:Nat->Int} (h:IL ad f n w) (hW:Below w.heap.size w w'):IL ad f n w':=fun i hi=>by
 obtain⟨b,off,h1,h2⟩:=h i hi;refine⟨b,off,h1,?_⟩;rw[hW.cell (p:=⟨b,off+i,none⟩) (World.block_lt_of_cell? w ⟨b,off+i,none⟩ h2)];exact h2
theorem eInfoInt:∃i,Tryz.prog.info? 3=some i/\i.zero=some (.int .i64 0)/\i.size=1/\i.bytes=8:=by
 have h1:(Tryz.prog.info? 3).isSome=true:=by kernel_rfl
 obtain⟨i,hi⟩:=Option.isSome_iff_exists.1 h1;refine⟨i,hi,?_,?_,?_⟩
 ·have:((Tryz.prog.info? 3).bind (·.zero))=some (.int .i64 0):=by kernel_rfl
  rw[hi]at this;exact this
 ·have:((Tryz.prog.info? 3).map (·.size))=some 1:=by kernel_rfl
  rw[hi]at this;simpa using this
 ·have:((Tryz.prog.info? 3).map (·.bytes))=some 8:=by kernel_rfl
  rw[hi]at this;simpa using this
theorem eInfoU8:∃i,Tryz.prog.info? 5=some i/\i.zero=some (.int .u8 0)/\i.size=1/\i.bytes=1:=by
 have h1:(Tryz.prog.info? 5).isSome=true:=by kernel_rfl
 obtain⟨i,hi⟩:=Option.isSome_iff_exists.1 h1;refine⟨i,hi,?_,?_,?_⟩
 ·have:((Tryz.prog.info? 5).bind (·.zero))=some (.int .u8 0):=by kernel_rfl
  rw[hi]at this;exact this
 ·have:((Tryz.prog.info? 5).map (·.size))=some 1:=by kernel_rfl
  rw[hi]at this;simpa using this
 ·have:((Tryz.prog.info? 5).map (·.bytes))=some 1:=by kernel_rfl
  rw[hi]at this;simpa using this
theorem eInfoBool:∃i,Tryz.prog.info? 4=some i/\i.zero=some (.bool false)/\i.size=1/\i.bytes=1:=by
 have h1:(Tryz.prog.info? 4).isSome=true:=by kernel_rfl
 obtain⟨i,hi⟩:=Option.isSome_iff_exists.1 h1;refine⟨i,hi,?_,?_,?_⟩
 ·have:((Tryz.prog.info? 4).bind (·.zero))=some (.bool false):=by kernel_rfl
  rw[hi]at this;exact this
 ·have:((Tryz.prog.info? 4).map (·.size))=some 1:=by kernel_rfl
  rw[hi]at this;simpa using this
 ·have:((Tryz.prog.info? 4).map (·.bytes))=some 1:=by kernel_rfl
  rw[hi]at this;simpa using this
theorem q3f (b:Nat):∀(vs:List Value) (o:Nat) (w:World),(w.setCells b o vs).heap.size=w.heap.size
 |[],_,_=>rfl
 |v::r,o,w=>by rw[World.setCells,q3f b r];simp[World.setCell]
theorem q0e (b:Nat):∀(vs:List Value) (o:Nat) (w:World),w.grownBy (w.setCells b o vs) (some b)
 |[],_,w=>⟨rfl,rfl,rfl,Nat.le_refl _,fun _ _ _=>rfl⟩
 |v::r,o,w=>by
  have h:=q0e b r (o+1) (w.setCell ⟨b,o,none⟩ v);refine⟨h.os,h.tape,h.output,?_,fun k hk hne=>?_⟩
  ·rw[q3f];exact Nat.le_refl _
  ·rw[World.setCells,h.block k (by simpa[World.setCell]using hk) hne];exact Below.heap_setCell w ⟨b,o,none⟩ v k (fun e=>hne (by rw[e]))
open Bm (Aut fl gAt Tg)
structure Gr (gb:Nat) (A:Aut) (ta:Option Addr) (tc:Nat) (sv:Value) (w:World):Prop where
 c0:w.cell? ⟨gb,0,none⟩=some (.int .i64 A.K)
 c1:w.cell? ⟨gb,1,none⟩=some sv
 c2:w.cell? ⟨gb,2,none⟩=some (.slice ta (A.N*A.K) tc)
 l:IL ta (fl A) (A.N*A.K) w
variable {A : Aut}
theorem Gr.below {tc:Nat}{sv:Value} (h:Gr gb A ta tc sv w) (hW:Below w.heap.size w w'):Gr gb A ta tc sv w':=by
 have hb:=World.block_lt_of_cell? w _ h.c0;have e:∀k,w'.cell? ⟨gb,k,none⟩=w.cell? ⟨gb,k,none⟩:=fun k=>hW.cell (p:=⟨gb,k,none⟩) hb
 exact⟨by rw[e];exact h.c0,by rw[e];exact h.c1,by rw[e];exact h.c2,h.l.below hW⟩
structure Aut.Small (A:Aut):Prop where
 n:A.N<=200
 k:A.K<=256
theorem y0s {a:Nat} (h1:a<=m) (h2:b<=n):a*b<=m*n:=Nat.mul_le_mul h1 h2
theorem q4N (gb:Nat) (A:Aut) (ta:Option Addr) (tc:Nat) (sv:Value) (oa:Option Addr) (oc:Nat) (of:Nat->Int) (a k:Nat) (w:World) (hA:Aut.Small A) (hr:∀s k,s<A.N->k<A.K->-1<=A.to s k/\A.to s k<A.N) (hG:Gr gb A ta tc sv w) (hO:IL oa of A.N w) (ha:a<A.N) (hk:k<A.K):
  Calls Tryz.prog 177 #[.pointer (some ⟨gb,0,none⟩),.slice oa A.N oc,.int .i64 a,.int .i64 k] w fun e w'=>e=.returned (.int .i64 (gAt A of a k))/\Below w.heap.size w w':=by
 obtain⟨R,hR⟩:=nam (gAt A of a k);rw[<-hR];unfold gAt at hR;obtain⟨p,hp⟩:=nam (a*A.K);have ia:(a:Int)*(A.K:Int)=(p:Int):=by rw[hp];simp
 obtain⟨t,ht⟩:=nam (p+k);have it:(p:Int)+(k:Int)=(t:Int):=by omega
 have htl:t<A.N*A.K:=by rw[ht,hp];exact Bm.time_lt ha hk
 have hb:=y0s hA.n hA.k;have hb2:=hA.k;have hf:fl A t=A.to a k:=by rw[ht,hp];exact Bm.fl_at A hk
 obtain⟨tb,to_,rfl,c3⟩:=hG.l t htl;rw[hf]at c3;have c0:=hG.c0;have c2:=hG.c2;obtain⟨M,hM⟩:=nam (A.N*A.K);rw[<-hM]at c2 htl hb;have htl':(t:Int)<M:=by omega
 have hrr:=hr a k ha hk;have HO:=hyd hO;clear hO hG hp ht hM hf hr;by_cases h1:A.to a k=-1
 ·rw[if_pos h1]at hR;have q1:(A.to a k==-1)=true:=by simpa using h1
  subst hR;go_enter Tryz.func177,Tryz.ntmps177;go_wp2_with fail
  go_quiet (fail)
  go_wp2_with fail;go_ret;exact⟨rfl,(Below.refl _ _).trans ⟨rfl,rfl,rfl,Nat.le_refl _,fun _ _=>rfl⟩⟩
 ·rw[if_neg h1]at hR;have q1:(A.to a k==-1)=false:=by simpa using h1
  obtain⟨m,hm⟩:=Int.eq_ofNat_of_zero_le (show 0<=A.to a k by omega);have hmn:m<A.N:=by omega
  have hmn':(m:Int)<(A.N:Int):=by omega
  rw[hm]at hR c3 q1;rw[Int.toNat_natCast]at hR;obtain⟨ob,oo,rfl,c4⟩:=HO.out m hmn;subst hR;clear HO h1 hm hrr;go_enter Tryz.func177,Tryz.ntmps177;go_wp2_with fail
  go_quiet (fail)
  go_wp2_with fail;go_ret;exact⟨rfl,(Below.refl _ _).trans ⟨rfl,rfl,rfl,Nat.le_refl _,fun _ _=>rfl⟩⟩
theorem q1w (B:Nat) (w:World) (q:Nat):Below B w (w.drewN q):=⟨rfl,rfl,rfl,Nat.le_refl _,fun _ _=>rfl⟩
theorem q6L (gb:Nat) (A:Aut) (ta:Option Addr) (tc:Nat) (sv:Value) (oa:Option Addr) (oc:Nat) (of:Nat->Int) (a b:Nat) (w:World) (hA:Aut.Small A) (hr:∀s k,s<A.N->k<A.K->-1<=A.to s k/\A.to s k<A.N) (hG:Gr gb A ta tc sv w) (hO:IL oa of A.N w) (ha:a<A.N) (hb:b<A.N):
  Calls Tryz.prog 176 #[.pointer (some ⟨gb,0,none⟩),.slice oa A.N oc,.int .i64 a,.int .i64 b] w fun e w'=>e=.returned (.bool (Tg A of a b))/\Below w.heap.size w w':=by
 obtain⟨R,hR⟩:=nam (Tg A of a b);rw[<-hR];have HR:Hid (R=true<->of a=of b/\∀k,k<A.K->gAt A of a k=gAt A of b k):=by rw[hR];exact Bm.Tg_iff A of a b
 clear hR;have HC:Hid (∀(s k:Nat) (w':World),s<A.N->k<A.K->Below w.heap.size w w'->Calls Tryz.prog 177 #[.pointer (some ⟨gb,0,none⟩),.slice oa A.N oc,.int .i64 s,.int .i64 k] w' fun e w''=>e=.returned (.int .i64 (gAt A of s k))/\Below w'.heap.size w' w''):=fun s k w' hs hk h'=>q4N gb A ta tc sv oa oc of s k w' hA hr (hG.below h') (hO.below h') hs hk
 have HK:Hid (∀w',Below w.heap.size w w'->w'.cell? ⟨gb,0,none⟩=some (.int .i64 A.K)):=fun w' h'=>(hG.below h').c0
 have hk2:=hA.k;obtain⟨o1,f1,e1,c1⟩:=hO a ha;obtain⟨o2,f2,e2,c2⟩:=hO b hb;subst e1;cases e2;have ha':(a:Int)<(A.N:Int):=by omega
 have hb':(b:Int)<(A.N:Int):=by omega
 have c0:=hG.c0;clear hG hO hr;by_cases h1:of a=of b
 case neg=>
  have HR1:Hid (R=false):=by
   show _=_;cases hR:R
   ·rfl
   ·exact absurd (HR.out.1 hR).1 h1
  have q2:(of a != of b)=true:=by simp[h1]
  clear HR;go_enter Tryz.func176,Tryz.ntmps176;go_wp2_with fail
  go_quiet (fail)
  go_wp2_with fail;go_ret;exact⟨q0v HR1.out.symm,q1w _ _ _⟩
 have q2:(of a != of b)=false:=by simp[h1]
 have HR2:Hid (R=true<->∀k,k<A.K->gAt A of a k=gAt A of b k):=⟨fun h=>(HR.out.1 h).2,fun h=>HR.out.2 ⟨h1,h⟩⟩;clear HR h1;go_enter Tryz.func176,Tryz.ntmps176;go_wp2_with fail
 go_quiet (fail)
 go_wp2_with fail
 go_loopw [9] (fun x w'=>∃k:Nat,k<=A.K/\x=.int .i64 k/\Below w.heap.size w w'/\Hid (∀j,j<k->gAt A of a j=gAt A of b j)) (fun x _=>A.K-(intOf x).toNat)
 case atStart=>exact⟨0,by omega,rfl,q1w _ _ _,fun j hj=>by omega⟩
 case round=>
  obtain⟨k,hk,rfl,hW,HI⟩:=hrel;have c0:=HK.out wr hW;by_cases hlt:k<A.K
  ·have hlt':(k:Int)<(A.K:Int):=by omega
   go_wp2_with fail;refine(HC.out a k _ ha hlt hW).mono ?_;rintro e w1 ⟨rfl,hW1⟩;have hB1:=hW.trans (hW1.mono hW.size);go_wp2_with fail;refine(HC.out b k _ hb hlt hB1).mono ?_;rintro e w2 ⟨rfl,hW2⟩;have hB2:=hB1.trans (hW2.mono hB1.size);by_cases he:gAt A of a k=gAt A of b k
   ·have q3:(gAt A of a k==gAt A of b k)=true:=by simpa using he
    have q4:(gAt A of a k != gAt A of b k)=false:=by simp[he]
    have HI2:Hid (∀j,j<k+1->gAt A of a j=gAt A of b j):=fun j hj=>by
     by_cases ej:j=k
     ·subst ej;exact he
     ·exact HI.out j (by omega)
    clear he;go_wp2_with fail;go_roundw
    case rel=>exact⟨k+1,by omega,by go_num,hB2,HI2⟩
    case measure=>simp[intOf];omega
   ·have q3:(gAt A of a k==gAt A of b k)=false:=by simpa using he
    have q4:(gAt A of a k != gAt A of b k)=true:=by simp[he]
    have HR1:Hid (R=false):=by
     show _=_;cases hR:R
     ·rfl
     ·exact absurd (HR2.out.1 hR k hlt) he
    clear he;go_wp2_with fail;go_ret;exact⟨q0v HR1.out.symm,hB2⟩
  ·have hge:¬(k:Int)<(A.K:Int):=by omega
   have HR1:=hyd (HR2.out.2 (fun j hj=>HI.out j (by omega)));go_wp2_with fail;go_ret;exact⟨q0v HR1.out.symm,hW⟩
end Go.Proofs.YtoaaklhpmhjhkaaGreat
namespace Go.Proofs.YtoaaklhpmhjhkaaGreat
open Go.RowKit
def NRow (g:Nat) (f:Nat->Int) (n:Nat) (w:World):Prop:=∀k,k<n->w.cell? ⟨g,k,none⟩=some (.int .i64 (f k))/\w.frozen? ⟨g,k,none⟩=false
variable {g n : Nat}{w w' : World}
theorem NRow.below {f:Nat->Int} (h:NRow g f n w) (hW:Below w.heap.size w w'):NRow g f n w':=fun k hk=>by
 have hg:=World.block_lt_of_cell? w ⟨g,k,none⟩ (h k hk).1;rw[hW.cell (p:=⟨g,k,none⟩) hg,hW.frozen (p:=⟨g,k,none⟩) hg];exact h k hk
theorem y0V (B:Nat) (w:World) (q:Nat):Below B w (w.drewN q):=⟨rfl,rfl,rfl,Nat.le_refl _,fun _ _=>rfl⟩
theorem q6S (ad ad':Option Addr) (n cap cap':Nat) (f:Nat->Int) (w:World) (hn:n<=17592186044416) (h1:IL ad f n w) (h2:IL ad' f n w):
  Calls Tryz.prog 32 #[.slice ad n cap,.slice ad' n cap'] w fun e w'=>e=.returned (.bool true)/\Below w.heap.size w w':=by
 have H1:=hyd h1;have H2:=hyd h2;clear h1 h2;go_enter Tryz.func32,Tryz.ntmps32;go_wp2_with fail
 go_loopw [5] (fun i w'=>∃k:Nat,k<=n/\i=.int .i64 k/\Below w.heap.size w w') (fun i _=>n-(intOf i).toNat)
 case atStart=>exact⟨0,by omega,rfl,Below.refl _ _⟩
 case round=>
  obtain⟨k,hk,rfl,hW⟩:=hrel;by_cases hlt:k<n
  ·have hlt':(k:Int)<n:=by omega
   obtain⟨b,off,rfl,c1⟩:=H1.out.below hW k hlt;obtain⟨b',off',rfl,c2⟩:=H2.out.below hW k hlt;have i0:(0:Int)<=k:=by omega
   go_wp2_with fail
   go_quiet (fail)
   go_wp2_with fail;go_roundw
   case rel=>exact⟨k+1,by omega,by go_num,hW.trans (y0V _ _ _)⟩
   case measure=>simp[intOf];omega
  ·have hge:¬(k:Int)<n:=by omega
   go_wp2_with fail;go_ret;exact⟨rfl,hW⟩
end Go.Proofs.YtoaaklhpmhjhkaaGreat
