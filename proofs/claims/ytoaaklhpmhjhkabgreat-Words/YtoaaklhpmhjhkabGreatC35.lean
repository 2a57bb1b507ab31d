import Derived.Test.YtoaaklhpmhjhkabGreatC06
import Derived.Test.YtoaaklhpmhjhkabGreatC14
set_option maxRecDepth 100000
set_option maxHeartbeats 4000000
set_option linter.all false
namespace Go.Proofs.YtoaaklhpmhjhkabGreat
section
open Go.RowKit
open Bm
end
section
open Go.RowKit
def fb (s:ByteArray) (i:Nat):Int:=((s.data.toList.getD i 0).toNat:Int)
def Yo (s:ByteArray) (i:Nat):Nat->Int
 |0=>0
 |k+1=>Yo s i k*256+fb s (i+k)
theorem Lw (s:ByteArray) (i:Nat):0<=fb s i/\fb s i<256:=by
 have:=(s.data.toList.getD i 0).toNat_lt;unfold fb;omega
theorem GF (s:ByteArray) (i:Nat) (h:i<s.size):(s[i].toNat:Int)=fb s i:=by
 unfold fb;rw[<-Np s i h]
theorem Vy (s:ByteArray) (i:Nat):∀k,k<=2->0<=Yo s i k/\Yo s i k<65536/\(k<=1->Yo s i k<256)/\(k=0->Yo s i k=0)
 |0,_=>by simp[Yo]
 |1,_=>by have:=Lw s (i+0);simp[Yo]at *;omega
 |2,_=>by have:=Lw s (i+0);have:=Lw s (i+1);simp[Yo]at *;omega
theorem QK (w:World) (r:Option Nat):w.grownBy w r:=⟨rfl,rfl,rfl,Nat.le_refl _,fun _ _ _=>rfl⟩
theorem VK {a b c:World}{r:Option Nat} (h:a.grownBy b r) (k:b.grownBy c r):a.grownBy c r:=
 ⟨k.os.trans h.os,k.tape.trans h.tape,k.output.trans h.output,Nat.le_trans h.size k.size,fun q hq hr=>(k.block q (Nat.lt_of_lt_of_le hq h.size) hr).trans (h.block q hq hr)⟩
structure RP (b:Nat) (s:ByteArray) (at_:Nat) (w:World):Prop where
 c0:w.cell? ⟨b,0,none⟩=some (.string s)
 c1:w.cell? ⟨b,1,none⟩=some (.int .i64 at_)
 f1:w.frozen? ⟨b,1,none⟩=false
variable {s:ByteArray}{h0 h1 h2 h3:Int}{b base i j n:Nat}{f:Nat->Int}{v:Value}{w w':World}
theorem RP.lt (h:RP b s i w):b<w.heap.size:=World.block_lt_of_cell? w _ h.c0
theorem RP.block (h:RP b s i w) (hb:w'.heap[b]?=w.heap[b]?):RP b s i w':=
 ⟨by rw[World.cell?_of_block (w:=w) (a:=⟨b,0,none⟩) hb];exact h.c0,by rw[World.cell?_of_block (w:=w) (a:=⟨b,1,none⟩) hb];exact h.c1,by rw[World.frozen?_of_block (w:=w) (a:=⟨b,1,none⟩) hb];exact h.f1⟩
theorem RP.set (h:RP b s i w) (x:Int) (j:Nat) (hx:x=j):RP b s j (w.setCell ⟨b,1,none⟩ (.int .i64 x)):=by
 subst hx;obtain⟨c0,c1,f1⟩:=h;refine⟨?_,?_,?_⟩<;>go_simp
theorem Pc (b:Nat) (s:ByteArray) (i:Nat) (w:World) (hs:s.size<=281474976710656) (hi:i<s.size) (h:RP b s i w):
  Calls Tryz.prog 87 #[.pointer (some ⟨b,0,none⟩)] w fun e w'=>e=.returned (.int .i64 (fb s i))/\RP b s (i+1) w'/\w.grownBy w' (some b)/\w'.heap.size=w.heap.size:=by
 have hb:=GF s i hi;have HB:=hyd hb;clear hb;have hi':(i:Int)<(s.size:Int):=by omega
 have H:=hyd h;obtain⟨c0,c1,f1⟩:=h;go_enter Tryz.func87,Tryz.ntmps87;go_wp2_with fail
 go_quiet (fail)
 go_wp2_with fail
 go_quiet (fail)
 go_wp2_with fail;go_ret;refine⟨YS (by have h1:=s[i].toNat_lt;have h2:=HB.out;unfold wrap64;omega),?_,?_,?_⟩
 ·exact RP.set (w:=w.drewN _) ⟨H.out.c0,H.out.c1,H.out.f1⟩ _ (i+1) (by omega)
 ·exact⟨rfl,rfl,rfl,by simp[World.setCell],fun k _ hk=>Below.heap_setCell (w.drewN _) ⟨b,1,none⟩ _ k (fun e=>hk (by rw[e]))⟩
 ·simp[World.setCell]
theorem Wy (b:Nat) (s:ByteArray) (i k:Nat) (w:World) (hs:s.size<=281474976710656) (hk:k<=2) (hi:i+k<=s.size) (h:RP b s i w):
  Calls Tryz.prog 74 #[.pointer (some ⟨b,0,none⟩),.int .i64 k] w fun e w'=>e=.returned (.int .i64 (Yo s i k))/\RP b s (i+k) w'/\w.grownBy w' (some b)/\w'.heap.size=w.heap.size:=by
 have H:=hyd h;clear h;go_enter Tryz.func74,Tryz.ntmps74;go_wp2_with fail
 go_loopw [5,8] (fun x t w'=>∃j:Nat,j<=k/\t=.int .i64 j/\x=.int .i64 (Yo s i j)/\RP b s (i+j) w'/\w.grownBy w' (some b)/\w'.heap.size=w.heap.size) (fun _ t _=>k-(intOf t).toNat)
 case atStart=>exact⟨0,by omega,rfl,rfl,H.out,QK _ _,rfl⟩
 case round=>
  obtain⟨j,hj,rfl,rfl,hR,hB,hz⟩:=hrel;by_cases hlt:j<k
  ·have hlt':(j:Int)<k:=by omega
   have hn:=Vy s i j (by omega);have hf:=Lw s (i+j);have HN:Hid (Yo s i (j+1)=Yo s i j*256+fb s (i+j)):=rfl;have HT:Hid (Calls Tryz.prog 87 #[.pointer (some ⟨b,0,none⟩)] wr fun e w'=>e=.returned (.int .i64 (fb s (i+j)))/\RP b s (i+j+1) w'/\wr.grownBy w' (some b)/\w'.heap.size=wr.heap.size):=Pc b s (i+j) wr hs (by omega) hR;generalize Yo s i j=x at *;generalize fb s (i+j)=y at *;go_wp2_with fail;refine HT.out.mono ?_;rintro e w2 ⟨rfl,hR2,hB2,hz2⟩;go_wp2_with fail;go_roundw
   case rel=>exact⟨j+1,by omega,by go_num,by rw[HN.out],by rw[<-Nat.add_assoc];exact hR2,VK hB hB2,by rw[hz2,hz]⟩
   case measure=>simp[intOf];omega
  ·have hge:¬(j:Int)<k:=by omega
   have hjk:j=k:=by omega
   subst hjk;go_wp2_with fail;go_ret;exact⟨rfl,hR,hB,hz⟩
def Ue (f:Nat->Int) (n:Nat):List Value:=(List.range n).map fun i=>.int .i64 (f i)
theorem QU (f:Nat->Int) (n:Nat):Ue f (n+1)=Ue f n++[.int .i64 (f n)]:=by simp[Ue,List.range_succ]
theorem Td (f:Nat->Int) (n:Nat):(Ue f n).length=n:=by simp[Ue]
theorem YN.il (h:YN base v (Ue f n) w):∃ad cap,v=.slice ad n cap/\IL ad f n w:=by
 rcases h with ⟨rfl,h⟩|⟨g,cap,rfl,h1,h2,h3,h4,h5⟩
 ·have:n=0:=by rw[<-Td f n,h];rfl
  subst this;exact⟨none,0,rfl,fun i hi=>by omega⟩
 ·refine⟨some ⟨g,0,none⟩,cap,by rw[Td],fun i hi=>⟨g,0,rfl,?_⟩⟩;rw[Nat.zero_add];exact h4 i _ (by simp[Ue,hi])
def lst (s:ByteArray) (i k:Nat) (less:Int):Nat->Int:=fun j=>Yo s (i+j*k) k-less
theorem Wl (b:Nat) (s:ByteArray) (i cnt k:Nat) (less:Int) (w:World) (hs:s.size<=1000000) (hk:k<=2) (hl:0<=less/\less<=1) (hi:i+cnt*k<=s.size) (hc:cnt<=100000) (h:RP b s i w):
  Calls Tryz.prog 75 #[.pointer (some ⟨b,0,none⟩),.int .i64 cnt,.int .i64 k,.int .i64 less] w fun e w'=>∃v,e=.returned v/\YN w.heap.size v (Ue (lst s i k less) cnt) w'/\RP b s (i+cnt*k) w'/\w.grownBy w' (some b):=by
 have H:=hyd h;have hbl:=h.lt;clear h;obtain⟨ti,hti,tz0,tz1,tz2⟩:=UI;obtain⟨hl0,hl1⟩:=hl;go_enter Tryz.func75,Tryz.ntmps75;go_wp2_with fail
 go_loopw [9,12] (fun v t w'=>∃j:Nat,j<=cnt/\t=.int .i64 j/\YN w.heap.size v (Ue (lst s i k less) j) w'/\RP b s (i+j*k) w'/\w.grownBy w' (some b)) (fun _ t _=>cnt-(intOf t).toNat)
 case atStart=>exact⟨0,by omega,rfl,YN.nil _ _,by simpa using H.out,QK _ _⟩
 case round=>
  obtain⟨j,hj,rfl,hG,hR,hB⟩:=hrel;by_cases hlt:j<cnt
  ·have hlt':(j:Int)<cnt:=by omega
   have hjk:i+j*k+k<=s.size:=by
    have:(j+1)*k<=cnt*k:=Nat.mul_le_mul_right _ (by omega);rw[Nat.add_mul,Nat.one_mul]at this;omega
   have hn:=Vy s (i+j*k) k hk;have HL:Hid (lst s i k less j=Yo s (i+j*k) k-less):=rfl;have HT:Hid (Calls Tryz.prog 74 #[.pointer (some ⟨b,0,none⟩),.int .i64 k] wr fun e w'=>e=.returned (.int .i64 (Yo s (i+j*k) k))/\RP b s (i+j*k+k) w'/\wr.grownBy w' (some b)/\w'.heap.size=wr.heap.size):=Wy b s (i+j*k) k wr (by omega) hk hjk hR;have HJ:Hid (i+(j+1)*k=i+j*k+k):=by show _=_;rw[Nat.add_mul,Nat.one_mul];omega
   generalize Yo s (i+j*k) k=x at *;go_wp2_with fail;refine HT.out.mono ?_;rintro e w2 ⟨rfl,hR2,hB2,hz2⟩;have hsz2:wr.heap.size<=w2.heap.size:=by omega
   clear hz2;have hG2:YN w.heap.size u9 (Ue (lst s i k less) j) w2:=hG.block (by omega) (fun q hq hv=>hB2.block q hq (fun e=>by have:=hG.ge q hv;have e':q=b:=Option.some.inj e;omega));have hB12:=VK hB hB2;have hsw:=hB12.size;have hG3:=hG2.alloc (.cells #[.int .i64 (x-less)] 3);have hR3:RP b s (i+j*k+k) (w2.alloc (.cells #[.int .i64 (x-less)] 3)):=hR2.block (Below.heap_alloc w2 _ b (by omega));have hB3:=VK hB12 (World.grownBy_alloc w2 (.cells #[.int .i64 (x-less)] 3) (some b));have hnew:∀q u,[Value.int .i64 (x-less)][q]?=some u->(w2.alloc (.cells #[.int .i64 (x-less)] 3)).cell? ⟨w2.heap.size,q,none⟩=some u:=fun q u hu=>by
    rw[World.cell?_alloc_new];simpa using hu
   have hlen:(Ue (lst s i k less) j).length+1<=100000000:=by rw[Td];omega
   go_wp2_with (first|(at_builtin;refine Sh (by rfl) _ _ 39 3 (by rfl) ti (.int .i64 0) 8 u_f hti tz0 tz1 tz2 rfl (by omega) w.heap.size u9 (Ue (lst s i k less) j) (by rfl) hG3 w2.heap.size 1 [.int .i64 (x-less)] (by rfl) rfl hnew (by simp[Value.oneCell']) hlen (by simp;omega) (by omega) ?_;intro g cap w3 hG4 hgrow));rw[<-HL.out,<-QU]at hG4;go_roundw
   case rel=>exact⟨j+1,by omega,by go_num,hG4,by rw[HJ.out];exact hR3.block (hgrow.block b (by simp;omega) (fun e=>by have:=hG2.ge b e.symm;omega)),⟨hgrow.os.trans hB3.os,hgrow.tape.trans hB3.tape,hgrow.output.trans hB3.output,Nat.le_trans hB3.size hgrow.size,fun q hq hr=>(hgrow.block q (Nat.lt_of_lt_of_le hq hB3.size) (fun e=>by have:=hG2.ge q e.symm;omega)).trans (hB3.block q hq hr)⟩⟩
   case measure=>simp[intOf];omega
  ·have hge:¬(j:Int)<cnt:=by omega
   have hjk:j=cnt:=by omega
   subst hjk;go_wp2_with fail;go_ret;exact⟨_,rfl,hG,hR,hB⟩
structure RH (b:Nat) (s:ByteArray) (i:Nat) (h0 h1 h2 h3:Int) (w:World):Prop where
 r:RP (b+1) s i w
 c0:w.cell? ⟨b+1+1,0,none⟩=some (.int .i64 h0)
 c1:w.cell? ⟨b+1+1,1,none⟩=some (.int .i64 h1)
 c2:w.cell? ⟨b+1+1,2,none⟩=some (.int .i64 h2)
 c3:w.cell? ⟨b+1+1,3,none⟩=some (.int .i64 h3)
 f0:w.frozen? ⟨b+1+1,0,none⟩=false
 f1:w.frozen? ⟨b+1+1,1,none⟩=false
 f2:w.frozen? ⟨b+1+1,2,none⟩=false
 f3:w.frozen? ⟨b+1+1,3,none⟩=false
 z0:w.cell? ⟨b,0,none⟩=some (.int .i64 0)
 z1:w.cell? ⟨b,1,none⟩=some (.int .i64 0)
 z2:w.cell? ⟨b,2,none⟩=some (.int .i64 0)
 z3:w.cell? ⟨b,3,none⟩=some (.int .i64 0)
 y0:w.frozen? ⟨b,0,none⟩=false
 y1:w.frozen? ⟨b,1,none⟩=false
 y2:w.frozen? ⟨b,2,none⟩=false
 y3:w.frozen? ⟨b,3,none⟩=false
theorem RH.take (h:RH b s i h0 h1 h2 h3 w) (hr:RP (b+1) s j w') (hg:w.grownBy w' (some (b+1))):RH b s j h0 h1 h2 h3 w':=by
 have l2:b+1+1<w.heap.size:=World.block_lt_of_cell? w _ h.c0;have e2:∀k,w'.cell? ⟨b+1+1,k,none⟩=w.cell? ⟨b+1+1,k,none⟩:=fun k=>World.cell?_of_block (w:=w) (a:=⟨b+1+1,k,none⟩) (hg.block _ l2 (by simp))
 have d2:∀k,w'.frozen? ⟨b+1+1,k,none⟩=w.frozen? ⟨b+1+1,k,none⟩:=fun k=>World.frozen?_of_block (w:=w) (a:=⟨b+1+1,k,none⟩) (hg.block _ l2 (by simp))
 have e0:∀k,w'.cell? ⟨b,k,none⟩=w.cell? ⟨b,k,none⟩:=fun k=>World.cell?_of_block (w:=w) (a:=⟨b,k,none⟩) (hg.block b (by omega) (by simp))
 have d0:∀k,w'.frozen? ⟨b,k,none⟩=w.frozen? ⟨b,k,none⟩:=fun k=>World.frozen?_of_block (w:=w) (a:=⟨b,k,none⟩) (hg.block b (by omega) (by simp))
 exact⟨hr,by rw[e2];exact h.c0,by rw[e2];exact h.c1,by rw[e2];exact h.c2,by rw[e2];exact h.c3,by rw[d2];exact h.f0,by rw[d2];exact h.f1,by rw[d2];exact h.f2,by rw[d2];exact h.f3,
  by rw[e0];exact h.z0,by rw[e0];exact h.z1,by rw[e0];exact h.z2,by rw[e0];exact h.z3,by rw[d0];exact h.y0,by rw[d0];exact h.y1,by rw[d0];exact h.y2,by rw[d0];exact h.y3⟩
theorem RH.set (h:RH b s i h0 h1 h2 h3 w) (x:Int):
  RH b s i x h1 h2 h3 (w.setCell ⟨b+1+1,0,none⟩ (.int .i64 x))/\RH b s i h0 x h2 h3 (w.setCell ⟨b+1+1,1,none⟩ (.int .i64 x))/\RH b s i h0 h1 x h3 (w.setCell ⟨b+1+1,2,none⟩ (.int .i64 x))/\RH b s i h0 h1 h2 x (w.setCell ⟨b+1+1,3,none⟩ (.int .i64 x)):=by
 obtain⟨⟨r0,r1,r2⟩,c0,c1,c2,c3,f0,f1,f2,f3,z0,z1,z2,z3,y0,y1,y2,y3⟩:=h;refine⟨⟨⟨?_,?_,?_⟩,?_,?_,?_,?_,?_,?_,?_,?_,?_,?_,?_,?_,?_,?_,?_,?_⟩,⟨⟨?_,?_,?_⟩,?_,?_,?_,?_,?_,?_,?_,?_,?_,?_,?_,?_,?_,?_,?_,?_⟩,⟨⟨?_,?_,?_⟩,?_,?_,?_,?_,?_,?_,?_,?_,?_,?_,?_,?_,?_,?_,?_,?_⟩,⟨⟨?_,?_,?_⟩,?_,?_,?_,?_,?_,?_,?_,?_,?_,?_,?_,?_,?_,?_,?_,?_⟩⟩<;>go_simp
def I8 (s:ByteArray):Value:=.agg #[.int .i64 (Yo s 4 1),.int .i64 (Yo s 6 1),.int .i64 (Yo s 7 2),.int .i64 (Yo s 9 1)]
theorem Kz:(Tryz.prog.info? 131).map (·.size)=some 4:=by kernel_rfl
theorem OX (s:ByteArray) (w:World) (hs:s.size<=281474976710656) (h10:10<=s.size):
  Calls Tryz.prog 56 #[.string s] w fun e w'=>e=.returned (I8 s)/\Below w.heap.size w w':=by
 unfold I8;obtain⟨W,hW⟩:=nam (((w.alloc (.cells #[.int .i64 0,.int .i64 0,.int .i64 0,.int .i64 0] 131)).alloc (.cells #[.string s,.int .i64 4] 151)).alloc (.cells #[.int .i64 0,.int .i64 0,.int .i64 0,.int .i64 0] 131));have hRH:RH w.heap.size s 4 0 0 0 0 W:=by
  rw[hW];refine⟨⟨?_,?_,?_⟩,?_,?_,?_,?_,?_,?_,?_,?_,?_,?_,?_,?_,?_,?_,?_,?_⟩<;>go_simp
 have hBW:Below w.heap.size w W:=by
  rw[hW];exact(((Below.refl _ _).alloc (Nat.le_refl _) _).alloc (by simp) _).alloc (by simp;omega) _
 go_enter Tryz.func56,Tryz.ntmps56;go_wp2_with fail;rw[<-hW];clear hW;generalize hb:w.heap.size=b at *;refine Calls.mono (Wy (b+1) s 4 1 W hs (by omega) (by omega) hRH.r) ?_;rintro e w1 ⟨rfl,hr1,hg1,hz1⟩;have R1:=hRH.take hr1 hg1;have B1:Below b w w1:=hBW.grown hg1 (by have:=hBW.size;omega) (fun k hk=>by cases hk;omega);have S1:=(R1.set (Yo s 4 1)).1;have C1:Below b w (w1.setCell ⟨b+1+1,0,none⟩ (.int .i64 (Yo s 4 1))):=B1.setCell (p:=⟨b+1+1,0,none⟩) (by simp;omega) _;have q1:=R1.c0;have p1:=R1.f0;go_wp2_with fail;clear q1 p1 hr1 hg1 hz1 R1 B1;generalize w1.setCell ⟨b+1+1,0,none⟩ (.int .i64 (Yo s 4 1))=W1 at *;refine Calls.mono (Wy (b+1) s 5 1 W1 hs (by omega) (by omega) S1.r) ?_;rintro e w2 ⟨rfl,hr2,hg2,hz2⟩;have R2:=S1.take hr2 hg2;have B2:Below b w w2:=C1.grown hg2 (by have:=C1.size;omega) (fun k hk=>by cases hk;omega);go_wp2_with fail;clear hr2 hg2 hz2;refine Calls.mono (Wy (b+1) s 6 1 w2 hs (by omega) (by omega) R2.r) ?_;rintro e w3 ⟨rfl,hr3,hg3,hz3⟩;have R3:=R2.take hr3 hg3;have B3:Below b w w3:=B2.grown hg3 (by have:=B2.size;omega) (fun k hk=>by cases hk;omega);have S3:=(R3.set (Yo s 6 1)).2.1;have C3:Below b w (w3.setCell ⟨b+1+1,1,none⟩ (.int .i64 (Yo s 6 1))):=B3.setCell (p:=⟨b+1+1,1,none⟩) (by simp;omega) _;have q3:=R3.c1;have p3:=R3.f1;go_wp2_with fail;clear q3 p3 hr3 hg3 hz3 R3 B3;generalize w3.setCell ⟨b+1+1,1,none⟩ (.int .i64 (Yo s 6 1))=W3 at *;refine Calls.mono (Wy (b+1) s 7 2 W3 hs (by omega) (by omega) S3.r) ?_;rintro e w4 ⟨rfl,hr4,hg4,hz4⟩;have R4:=S3.take hr4 hg4;have B4:Below b w w4:=C3.grown hg4 (by have:=C3.size;omega) (fun k hk=>by cases hk;omega);have S4:=(R4.set (Yo s 7 2)).2.2.1;have C4:Below b w (w4.setCell ⟨b+1+1,2,none⟩ (.int .i64 (Yo s 7 2))):=B4.setCell (p:=⟨b+1+1,2,none⟩) (by simp;omega) _;have q4:=R4.c2;have p4:=R4.f2;go_wp2_with fail;clear q4 p4 hr4 hg4 hz4 R4 B4;generalize w4.setCell ⟨b+1+1,2,none⟩ (.int .i64 (Yo s 7 2))=W4 at *;refine Calls.mono (Wy (b+1) s 9 1 W4 hs (by omega) (by omega) S4.r) ?_;rintro e w5 ⟨rfl,hr5,hg5,hz5⟩;have R5:=S4.take hr5 hg5;have B5:Below b w w5:=C4.grown hg5 (by have:=C4.size;omega) (fun k hk=>by cases hk;omega);have HB5:=hyd B5;obtain⟨_,c0,c1,c2,c3,f0,f1,f2,f3,z0,z1,z2,z3,y0,y1,y2,y3⟩:=R5;clear hr5 hg5 hz5 S4 C4 B5;go_wp2_with fail;have hfin:(loadVar 131 ⟨b,0,none⟩).run Tryz.prog (((((w5.setCell ⟨b+1+1,3,none⟩ (.int .i64 (Yo s 9 1))).setCell ⟨b,0,none⟩ (.int .i64 (Yo s 4 1))).setCell ⟨b,1,none⟩ (.int .i64 (Yo s 6 1))).setCell ⟨b,2,none⟩ (.int .i64 (Yo s 7 2))).setCell ⟨b,3,none⟩ (.int .i64 (Yo s 9 1)))=.ok (.agg #[.int .i64 (Yo s 4 1),.int .i64 (Yo s 6 1),.int .i64 (Yo s 7 2),.int .i64 (Yo s 9 1)]) (((((w5.setCell ⟨b+1+1,3,none⟩ (.int .i64 (Yo s 9 1))).setCell ⟨b,0,none⟩ (.int .i64 (Yo s 4 1))).setCell ⟨b,1,none⟩ (.int .i64 (Yo s 6 1))).setCell ⟨b,2,none⟩ (.int .i64 (Yo s 7 2))).setCell ⟨b,3,none⟩ (.int .i64 (Yo s 9 1))):=by
  refine run_loadVar_mid (P:=Tryz.prog) _ b 0 131 [.int .i64 (Yo s 4 1),.int .i64 (Yo s 6 1),.int .i64 (Yo s 7 2),.int .i64 (Yo s 9 1)] _ (fun j v hv=>?_) Tryz.underlying131 rfl Kz;rw[Nat.zero_add];rcases j with _|_|_|_|j
  ·cases hv;go_simp
  ·cases hv;go_simp
  ·cases hv;go_simp
  ·cases hv;go_simp
  ·cases hv
 refine bodyPost_ret (v:=.agg #[.int .i64 (Yo s 4 1),.int .i64 (Yo s 6 1),.int .i64 (Yo s 7 2),.int .i64 (Yo s 9 1)]) (Xb Tryz.results56 rfl hfin) rfl ⟨rfl,?_⟩;rw[hb];exact((((HB5.out.setCell (p:=⟨b+1+1,3,none⟩) (by simp;omega) _).setCell (p:=⟨b,0,none⟩) (Nat.le_refl _) _).setCell (p:=⟨b,1,none⟩) (Nat.le_refl _) _).setCell (p:=⟨b,2,none⟩) (Nat.le_refl _) _).setCell (p:=⟨b,3,none⟩) (Nat.le_refl _) _
def Wq (r st ce wd:Int):Prop:=(1<=r/\r<=8)/\(1<=st/\st<=96)/\ce<=24576/\(wd=1\/wd=2)
theorem Kg (r st ce wd:Int) (w:World):
  Calls Tryz.prog 57 #[.agg #[.int .i64 r,.int .i64 st,.int .i64 ce,.int .i64 wd]] w (X2 (Wq r st ce wd) w):=by
 have hB:=Yh w (.cells #[.int .i64 r,.int .i64 st,.int .i64 ce,.int .i64 wd] 131);by_cases h1:r<1
 ·have HN:Hid (¬Wq r st ce wd):=fun h=>by have:=h.1;omega
  go_enter Tryz.func57,Tryz.ntmps57;go_wp2_with fail;go_ret;exact X2.f HN.out hB
 by_cases h2:8<r
 ·have HN:Hid (¬Wq r st ce wd):=fun h=>by have:=h.1;omega
  go_enter Tryz.func57,Tryz.ntmps57;go_wp2_with fail;go_ret;exact X2.f HN.out hB
 by_cases h3:st<1
 ·have HN:Hid (¬Wq r st ce wd):=fun h=>by have:=h.2.1;omega
  go_enter Tryz.func57,Tryz.ntmps57;go_wp2_with fail;go_ret;exact X2.f HN.out hB
 by_cases h4:96<st
 ·have HN:Hid (¬Wq r st ce wd):=fun h=>by have:=h.2.1;omega
  go_enter Tryz.func57,Tryz.ntmps57;go_wp2_with fail;go_ret;exact X2.f HN.out hB
 by_cases h5:ce<=24576
 case neg=>
  have HN:Hid (¬Wq r st ce wd):=fun h=>h5 h.2.2.1
  go_enter Tryz.func57,Tryz.ntmps57;go_wp2_with fail;go_ret;exact X2.f HN.out hB
 by_cases h6:wd=1
 ·have HT:Hid (Wq r st ce wd):=⟨by omega,by omega,h5,Or.inl h6⟩;subst h6;go_enter Tryz.func57,Tryz.ntmps57;go_wp2_with fail;go_ret;exact X2.t HT.out hB
 have q6:(wd==1)=false:=by simpa using h6
 by_cases h7:wd=2
 ·have HT:Hid (Wq r st ce wd):=⟨by omega,by omega,h5,Or.inr h7⟩;subst h7;go_enter Tryz.func57,Tryz.ntmps57;go_wp2_with fail;go_ret;exact X2.t HT.out hB
 ·have HN:Hid (¬Wq r st ce wd):=fun h=>by have:=h.2.2.2;omega
  have q7:(wd==2)=false:=by simpa using h7
  clear h6 h7;go_enter Tryz.func57,Tryz.ntmps57;go_wp2_with fail;go_ret;exact X2.f HN.out hB
theorem JK (r:Int) (st ce wd:Nat) (w:World) (h1:st<=96) (h2:ce<=24576) (h3:wd=1\/wd=2):
  Calls Tryz.prog 58 #[.agg #[.int .i64 r,.int .i64 st,.int .i64 ce,.int .i64 wd]] w fun e w'=>e=.returned (.int .i64 ((266+st*(wd+2)+ce*2+4:Nat):Int))/\Below w.heap.size w w':=by
 have hB:=Yh w (.cells #[.int .i64 r,.int .i64 st,.int .i64 ce,.int .i64 wd] 131);rcases h3 with rfl|rfl
 ·go_enter Tryz.func58,Tryz.ntmps58;go_wp2_with fail;go_ret;exact⟨YS (by simp),hB⟩
 ·go_enter Tryz.func58,Tryz.ntmps58;go_wp2_with fail;go_ret;exact⟨YS (by simp),hB⟩
def Xe (s:ByteArray):Bool:=decide (4<=s.size)&&((s.extract 0 4).toList==[77,85,78,49])
theorem Ns (s:ByteArray) (w:World) (hs:s.size<=maxLen):
  Calls Tryz.prog 55 #[.string s] w fun e w'=>e=.returned (.bool (Xe s))/\w'=w:=by
 unfold maxLen at hs;by_cases h4:4<=s.size
 ·have h4':(4:Int)<=(s.size:Int):=by omega
  have HM:Hid (Xe s=((s.extract 0 4).toList==[77,85,78,49])):=by show _=_;rw[Xe,decide_eq_true h4];rfl
  go_enter Tryz.func55,Tryz.ntmps55;go_wp2_with fail;go_ret;exact⟨Yx HM.out.symm,rfl⟩
 ·have h4':¬(4:Int)<=(s.size:Int):=by omega
  have HM:Hid (Xe s=false):=by show _=_;rw[Xe,decide_eq_false h4];rfl
  go_enter Tryz.func55,Tryz.ntmps55;go_wp2_with fail;go_ret;exact⟨Yx HM.out.symm,rfl⟩
def Qe (s:ByteArray):Bool:=(s.extract (s.size-4) s.size).toList==(⟨(Vt (s.extract 0 (s.size-4)).data.toList).toArray⟩:ByteArray).toList
theorem Mk (s:ByteArray) (w:World) (h4:4<=s.size) (hs:s.size<=1000000):
  Calls Tryz.prog 59 #[.string s] w fun e w'=>e=.returned (.bool (Qe s))/\Below w.heap.size w w':=by
 obtain⟨n,hn⟩:∃n,s.size=n+4:=⟨s.size-4,by omega⟩;have i1:(s.size:Int)-4=(n:Int):=by omega
 have i2:¬(n:Int)<0:=by omega
 have i3:(n:Int)<=(s.size:Int):=by omega
 obtain⟨z,hz⟩:∃z:ByteArray,z=⟨(Vt (s.extract 0 n).data.toList).toArray⟩:=⟨_,rfl⟩;have HS:Hid (∀w',w'.heap=w.heap->Calls Tryz.prog 34 #[.string (s.extract 0 n)] w' fun e w''=>e=.returned (.string z)/\Below w'.heap.size w' w''):=fun w' _=>by rw[hz];exact Oa (s.extract 0 n) w' (by simp;omega)
 have Hz:=hyd hz;have Hn:=hyd hn;clear hn hz;go_enter Tryz.func59,Tryz.ntmps59;go_wp2_with fail
 go_region_with ((go_at_call 34;refine Calls.mono (HS.out _ rfl) ?_;rintro e w2 ⟨rfl,hB2⟩))
 go_wp2_with fail;go_ret;refine⟨?_,(show Below w.heap.size w w2 from (Below.refl _ _).drew.trans hB2)⟩;show Ending.returned (.bool ((s.extract n s.size).toList==z.toList))=_;rw[Qe,show s.size-4=n by have:=Hn.out;omega,<-Hz.out]
end
end Go.Proofs.YtoaaklhpmhjhkabGreat
