import Derived.Test.YtoaaklhpmhjhkabGreatC02
import Derived.Test.YtoaaklhpmhjhkabGreatC03
set_option maxRecDepth 100000
set_option maxHeartbeats 4000000
set_option linter.all false
namespace Go.Proofs.YtoaaklhpmhjhkabGreat
section
open Go.RowKit
open Bm (Aut fl gAt Tg)
structure Gr (gb:Nat) (A:Aut) (ta:Option Addr) (tc:Nat) (sv:Value) (w:World):Prop where
 c0:w.cell? ⟨gb,0,none⟩=some (.int .i64 A.K)
 c1:w.cell? ⟨gb,1,none⟩=some sv
 c2:w.cell? ⟨gb,2,none⟩=some (.slice ta (A.N*A.K) tc)
 l:IL ta (fl A) (A.N*A.K) w
variable {A:Aut}{b gb m n:Nat}{w w':World}
theorem Gr.below {ta:Option Addr}{tc:Nat}{sv:Value} (h:Gr gb A ta tc sv w) (hW:Below w.heap.size w w'):Gr gb A ta tc sv w':=by
 have hb:=World.block_lt_of_cell? w _ h.c0;have e:∀k,w'.cell? ⟨gb,k,none⟩=w.cell? ⟨gb,k,none⟩:=fun k=>hW.cell (p:=⟨gb,k,none⟩) hb
 exact⟨by rw[e];exact h.c0,by rw[e];exact h.c1,by rw[e];exact h.c2,h.l.below hW⟩
structure Aut.Small (A:Aut):Prop where
 n:A.N<=200
 k:A.K<=256
theorem Mw {a:Nat} (h1:a<=m) (h2:b<=n):a*b<=m*n:=Nat.mul_le_mul h1 h2
theorem RU (gb:Nat) (A:Aut) (ta:Option Addr) (tc:Nat) (sv:Value) (oa:Option Addr) (oc:Nat) (of:Nat->Int) (a k:Nat) (w:World) (hA:Aut.Small A) (hr:∀s k,s<A.N->k<A.K->-1<=A.to s k/\A.to s k<A.N) (hG:Gr gb A ta tc sv w) (hO:IL oa of A.N w) (ha:a<A.N) (hk:k<A.K):
  Calls Tryz.prog 72 #[.pointer (some ⟨gb,0,none⟩),.slice oa A.N oc,.int .i64 a,.int .i64 k] w fun e w'=>e=.returned (.int .i64 (gAt A of a k))/\Below w.heap.size w w':=by
 obtain⟨R,hR⟩:=nam (gAt A of a k);rw[<-hR];unfold gAt at hR;obtain⟨p,hp⟩:=nam (a*A.K);have ia:(a:Int)*(A.K:Int)=(p:Int):=by rw[hp];simp
 obtain⟨t,ht⟩:=nam (p+k);have it:(p:Int)+(k:Int)=(t:Int):=by omega
 have htl:t<A.N*A.K:=by rw[ht,hp];exact Bm.time_lt ha hk
 have hb:=Mw hA.n hA.k;have hb2:=hA.k;have hf:fl A t=A.to a k:=by rw[ht,hp];exact Bm.fl_at A hk
 obtain⟨tb,to_,rfl,c3⟩:=hG.l t htl;rw[hf]at c3;have c0:=hG.c0;have c2:=hG.c2;obtain⟨M,hM⟩:=nam (A.N*A.K);rw[<-hM]at c2 htl hb;have htl':(t:Int)<M:=by omega
 have hrr:=hr a k ha hk;have HO:=hyd hO;clear hO hG hp ht hM hf hr;by_cases h1:A.to a k=-1
 ·rw[if_pos h1]at hR;have q1:(A.to a k==-1)=true:=by simpa using h1
  subst hR;go_enter Tryz.func72,Tryz.ntmps72;go_wp2_with fail
  go_quiet (fail)
  go_wp2_with fail;go_ret;exact⟨rfl,(Below.refl _ _).trans ⟨rfl,rfl,rfl,Nat.le_refl _,fun _ _=>rfl⟩⟩
 ·rw[if_neg h1]at hR;have q1:(A.to a k==-1)=false:=by simpa using h1
  obtain⟨m,hm⟩:=Int.eq_ofNat_of_zero_le (show 0<=A.to a k by omega);have hmn:m<A.N:=by omega
  have hmn':(m:Int)<(A.N:Int):=by omega
  rw[hm]at hR c3 q1;rw[Int.toNat_natCast]at hR;obtain⟨ob,oo,rfl,c4⟩:=HO.out m hmn;subst hR;clear HO h1 hm hrr;go_enter Tryz.func72,Tryz.ntmps72;go_wp2_with fail
  go_quiet (fail)
  go_wp2_with fail;go_ret;exact⟨rfl,(Below.refl _ _).trans ⟨rfl,rfl,rfl,Nat.le_refl _,fun _ _=>rfl⟩⟩
theorem Vk (B:Nat) (w:World) (q:Nat):Below B w (w.drewN q):=⟨rfl,rfl,rfl,Nat.le_refl _,fun _ _=>rfl⟩
theorem Pe (gb:Nat) (A:Aut) (ta:Option Addr) (tc:Nat) (sv:Value) (oa:Option Addr) (oc:Nat) (of:Nat->Int) (a b:Nat) (w:World) (hA:Aut.Small A) (hr:∀s k,s<A.N->k<A.K->-1<=A.to s k/\A.to s k<A.N) (hG:Gr gb A ta tc sv w) (hO:IL oa of A.N w) (ha:a<A.N) (hb:b<A.N):
  Calls Tryz.prog 71 #[.pointer (some ⟨gb,0,none⟩),.slice oa A.N oc,.int .i64 a,.int .i64 b] w fun e w'=>e=.returned (.bool (Tg A of a b))/\Below w.heap.size w w':=by
 obtain⟨R,hR⟩:=nam (Tg A of a b);rw[<-hR];have HR:Hid (R=true<->of a=of b/\∀k,k<A.K->gAt A of a k=gAt A of b k):=by rw[hR];exact Bm.Tg_iff A of a b
 clear hR;have HC:Hid (∀(s k:Nat) (w':World),s<A.N->k<A.K->Below w.heap.size w w'->Calls Tryz.prog 72 #[.pointer (some ⟨gb,0,none⟩),.slice oa A.N oc,.int .i64 s,.int .i64 k] w' fun e w''=>e=.returned (.int .i64 (gAt A of s k))/\Below w'.heap.size w' w''):=fun s k w' hs hk h'=>RU gb A ta tc sv oa oc of s k w' hA hr (hG.below h') (hO.below h') hs hk
 have HK:Hid (∀w',Below w.heap.size w w'->w'.cell? ⟨gb,0,none⟩=some (.int .i64 A.K)):=fun w' h'=>(hG.below h').c0
 have hk2:=hA.k;obtain⟨o1,f1,e1,c1⟩:=hO a ha;obtain⟨o2,f2,e2,c2⟩:=hO b hb;subst e1;cases e2;have ha':(a:Int)<(A.N:Int):=by omega
 have hb':(b:Int)<(A.N:Int):=by omega
 have c0:=hG.c0;clear hG hO hr;by_cases h1:of a=of b
 case neg=>
  have HR1:Hid (R=false):=by
   show _=_;cases hR:R
   ·rfl
   ·exact absurd (HR.out.1 hR).1 h1
  have q2:(of a != of b)=true:=by simp[h1]
  clear HR;go_enter Tryz.func71,Tryz.ntmps71;go_wp2_with fail
  go_quiet (fail)
  go_wp2_with fail;go_ret;exact⟨Yx HR1.out.symm,Vk _ _ _⟩
 have q2:(of a != of b)=false:=by simp[h1]
 have HR2:Hid (R=true<->∀k,k<A.K->gAt A of a k=gAt A of b k):=⟨fun h=>(HR.out.1 h).2,fun h=>HR.out.2 ⟨h1,h⟩⟩;clear HR h1;go_enter Tryz.func71,Tryz.ntmps71;go_wp2_with fail
 go_quiet (fail)
 go_wp2_with fail
 go_loopw [9] (fun x w'=>∃k:Nat,k<=A.K/\x=.int .i64 k/\Below w.heap.size w w'/\Hid (∀j,j<k->gAt A of a j=gAt A of b j)) (fun x _=>A.K-(intOf x).toNat)
 case atStart=>exact⟨0,by omega,rfl,Vk _ _ _,fun j hj=>by omega⟩
 case round=>
  obtain⟨k,hk,rfl,hW,HI⟩:=hrel;have c0:=HK.out wr hW;by_cases hlt:k<A.K
  ·have hlt':(k:Int)<(A.K:Int):=by omega
   go_wp2_with fail;refine(HC.out a k _ ha hlt hW).mono ?_;rintro e w1 ⟨rfl,hW1⟩;have hB1:=hW.trans (hW1.mono hW.size);go_wp2_with fail;refine(HC.out b k _ hb hlt hB1).mono ?_;rintro e w2 ⟨rfl,hW2⟩;have hB2:=hB1.trans (hW2.mono hB1.size);by_cases he:gAt A of a k=gAt A of b k
   ·have q3:(gAt A of a k==gAt A of b k)=true:=by simpa using he
    have q4:(gAt A of a k != gAt A of b k)=false:=by simp[he]
    have HI2:Hid (∀j,j<k+1->gAt A of a j=gAt A of b j):=fun j hj=>by
     by_cases ej:j=k
     ·subst ej;exact he
     ·exact HI.out j (by omega)
    clear he;go_wp2_with fail;go_roundw
    case rel=>exact⟨k+1,by omega,by go_num,hB2,HI2⟩
    case measure=>simp[intOf];omega
   ·have q3:(gAt A of a k==gAt A of b k)=false:=by simpa using he
    have q4:(gAt A of a k != gAt A of b k)=true:=by simp[he]
    have HR1:Hid (R=false):=by
     show _=_;cases hR:R
     ·rfl
     ·exact absurd (HR2.out.1 hR k hlt) he
    clear he;go_wp2_with fail;go_ret;exact⟨Yx HR1.out.symm,hB2⟩
  ·have hge:¬(k:Int)<(A.K:Int):=by omega
   have HR1:=hyd (HR2.out.2 (fun j hj=>HI.out j (by omega)));go_wp2_with fail;go_ret;exact⟨Yx HR1.out.symm,hW⟩
end
section
open Go.RowKit
theorem Jr (r:Nat) (h:r<4294967296):4294967295 ^^^ r=4294967295-r:=by
 apply Nat.eq_of_testBit_eq;intro i;rw[Nat.testBit_xor,show(4294967295:Nat)=2 ^ 32-1 from rfl,Nat.testBit_two_pow_sub_one,show 2 ^ 32-1-r=2 ^ 32-(r+1) by omega,Nat.testBit_two_pow_sub_succ (by omega)];by_cases hi:i<32
 ·simp[hi]
 ·have:r.testBit i=false:=Nat.testBit_lt_two_pow (Nat.lt_of_lt_of_le h (by
   have:2 ^ 32<=2 ^ i:=Nat.pow_le_pow_right (by omega) (by omega);simpa using this))
  simp[hi,this]
theorem M6 (w:World) (o:Obj):Below w.heap.size w (w.alloc o):=(Below.refl _ _).alloc (Nat.le_refl _) o
theorem JO (s:ByteArray) (w:World) (hs:s.size<=1000000):
  Calls Tryz.prog 54 #[.string s] w fun e w'=>e=.returned (.int .u32 (Kl s.data.toList))/\w'=w:=by
 have hl:s.data.toList.length=s.size:=by simp
 go_enter Tryz.func54,Tryz.ntmps54;go_wp2_with fail
 go_loop [3,8] (fun x i=>∃k r:Nat,k<=s.size/\i=.int .i64 k/\x=.int .u32 r/\r<4294967296/\Hid (r=KU s.data.toList (8*k))) (fun _ i=>s.size-(intOf i).toNat)
 case atStart=>exact⟨0,4294967295,by omega,rfl,rfl,by omega,rfl⟩
 case round=>
  obtain⟨k,r,hk,rfl,rfl,hr,HR⟩:=hrel;by_cases hlt:k<s.size
  ·have hlt':(k:Int)<(s.size:Int):=by omega
   have HB:Hid (s.data.toList[k]'(by omega)=s[k]):=rfl;go_wp2_with fail;have hb:=s[k].toNat_lt
   go_loop [3,18] (fun x i=>∃j y:Nat,j<=8/\i=.int .i64 j/\x=.int .u32 y/\y<4294967296/\Hid (y=KU s.data.toList (8*k+j) ^^^ XT s[k] j)) (fun _ i=>8-(intOf i).toNat)
   case atStart=>
    refine⟨0,r ^^^ XT s[k] 0,by omega,rfl,?_,?_,?_⟩
    ·have e:((s[k].toNat:Int)%4294967296*16777216%4294967296)=((XT s[k] 0:Nat):Int):=by rw[NA];omega
     rw[e,u32_xor_nat r _ hr (Pv _ _)]
    ·have:r ^^^ XT s[k] 0<2 ^ 32:=Nat.xor_lt_two_pow (by omega) (by have:=Pv s[k] 0;omega);omega
    ·show _=_;rw[HR.out];rfl
   case round=>
    obtain⟨j,y,hj,rfl,rfl,hy,HY⟩:=hrel;by_cases hjl:j<8
    ·have hjl':(j:Int)<8:=by omega
     have HST:Hid (VI y=KU s.data.toList (8*k+(j+1)) ^^^ XT s[k] (j+1)):=by
      show _=_;have:=JQ s.data.toList k j (by omega) hjl;rw[show s.data.toList[k]=s[k] from HB.out]at this;rw[HY.out];exact this
     by_cases hh:2147483648<=y
     ·have q1:((y:Int)/2147483648==1)=true:=by simp;omega
      have HC:=Md hh hy;rw[HST.out]at HC;have HC2:Hid (KU s.data.toList (8*k+(j+1)) ^^^ XT s[k] (j+1)=(2*y%4294967296) ^^^ 79764919):=HC;clear HC HST hh;go_wp2_with fail
      go_round
      case rel=>
       refine⟨j+1,(2*y%4294967296) ^^^ 79764919,by omega,by go_num,?_,?_,HC2.out.symm⟩
       ·have e:((y:Int)*2%4294967296)=((2*y%4294967296:Nat):Int):=by omega
        rw[e];exact congrArg _ (u32_xor_nat (2*y%4294967296) 79764919 (by omega) (by omega))
       ·have:(2*y%4294967296) ^^^ 79764919<2 ^ 32:=Nat.xor_lt_two_pow (by omega) (by omega);omega
      case measure=>simp[intOf];omega
     ·have q1:((y:Int)/2147483648==1)=false:=by simp;omega
      have HC:=Me (show y<2147483648 by omega);rw[HST.out]at HC;have HC2:Hid (KU s.data.toList (8*k+(j+1)) ^^^ XT s[k] (j+1)=2*y%4294967296):=HC;clear HC HST hh;go_wp2_with fail
      go_round
      case rel=>
       refine⟨j+1,2*y%4294967296,by omega,by go_num,?_,by omega,HC2.out.symm⟩;have e:((y:Int)*2%4294967296)=((2*y%4294967296:Nat):Int):=by omega
       rw[e]
      case measure=>simp[intOf];omega
    ·have hge:¬(j:Int)<8:=by omega
     have hj8:j=8:=by omega
     subst hj8;have HZ:Hid (y=KU s.data.toList (8*(k+1))):=by show _=_;rw[HY.out,JP]
     clear HY;go_wp2_with fail
     go_round
     case rel=>exact⟨k+1,y,by omega,by go_num,rfl,hy,HZ.out⟩
     case measure=>simp[intOf];omega
  ·have hge:¬(k:Int)<(s.size:Int):=by omega
   have hkn:k=s.size:=by omega
   have HE:Hid ((Kl s.data.toList:Int)=4294967295-(r:Int)):=by
    show _=_;rw[Kl,hl,<-hkn,<-HR.out];omega
   clear HR;go_wp2_with fail;go_ret;refine⟨?_,rfl⟩;show Ending.returned (.int .u32 (bits .xor .u32 IntKind.u32.max (r:Int)))=_;rw[HE.out,show IntKind.u32.max=((4294967295:Nat):Int) from rfl,u32_xor_nat 4294967295 r (by omega) hr,Jr r hr,Int.ofNat_sub (by omega)];rfl
theorem Oa (s:ByteArray) (w:World) (hs:s.size<=1000000):
  Calls Tryz.prog 34 #[.string s] w fun e w'=>e=.returned (.string ⟨(Vt s.data.toList).toArray⟩)/\Below w.heap.size w w':=by
 have HS:Hid (Calls Tryz.prog 54 #[.string s] w fun e w'=>e=.returned (.int .u32 (Kl s.data.toList))/\w'=w):=JO s w hs;have HL:Hid (Vt s.data.toList=[YX ((Kl s.data.toList/16777216:Nat):Int),YX ((Kl s.data.toList/65536:Nat):Int),YX ((Kl s.data.toList/256:Nat):Int),YX ((Kl s.data.toList:Nat):Int)]):=rfl;generalize Vt s.data.toList=L at *;generalize Kl s.data.toList=c at *;have hconv:(convert 68 9 (.slice (some ⟨w.heap.size,0,none⟩) 4 4)).run Tryz.prog (w.alloc (.cells #[.int .u8 ((c:Int)/16777216%256),.int .u8 ((c:Int)/65536%256),.int .u8 ((c:Int)/256%256),.int .u8 ((c:Int)%256)] 5))=.ok (.string ⟨L.toArray⟩) (w.alloc (.cells #[.int .u8 ((c:Int)/16777216%256),.int .u8 ((c:Int)/65536%256),.int .u8 ((c:Int)/256%256),.int .u8 ((c:Int)%256)] 5)):=by
  have hL:L.length=4:=by rw[HL.out];rfl
  have:=run_convert_bytes_back (P:=Tryz.prog) (w.alloc (.cells #[.int .u8 ((c:Int)/16777216%256),.int .u8 ((c:Int)/65536%256),.int .u8 ((c:Int)/256%256),.int .u8 ((c:Int)%256)] 5)) 68 9 5 ⟨w.heap.size,0,none⟩ 4 L u_h u_o u_i (fun j hj=>by
   rw[Addr.add_lit,Nat.zero_add,World.cell?_alloc_new];have hj':j<4:=by omega
   have HLo:=HL.out;subst HLo;rcases j with _|_|_|_|j
   ·simp[Yj]
   ·simp[Yj]
   ·simp[Yj]
   ·simp[Yj]
   ·omega)
  rw[hL]at this;exact this
 go_enter Tryz.func34,Tryz.ntmps34;go_wp2_with fail;refine HS.out.mono ?_;rintro e w ⟨rfl,rfl⟩;go_wp2_with fail;go_ret;exact⟨rfl,M6 _ _⟩
end
end Go.Proofs.YtoaaklhpmhjhkabGreat
