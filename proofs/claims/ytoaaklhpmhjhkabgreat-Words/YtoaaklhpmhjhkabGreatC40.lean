import Derived.Test.YtoaaklhpmhjhkabGreatC39
set_option maxRecDepth 100000
set_option maxHeartbeats 4000000
set_option linter.all false
namespace Go.Proofs.YtoaaklhpmhjhkabGreat
section
open Go.RowKit
open Bm
structure Fj (B:Nat) (M:Mc) (g1 g2:Nat) (vb vd vc vn:Value) (W:World):Prop where
 k1:Xo g1 M.cl M.ncl W
 k2:Xo g2 M.lb M.nlb W
 b:OwnL B vb M.st.bs W
 d:OwnL B vd M.st.df W
 c:OwnL B vc M.st.ck W
 n:OwnL B vn M.st.nt W
 bd:Uc vb vd
 bc:Uc vb vc
 bn:Uc vb vn
 dc:Uc vd vc
 dn:Uc vd vn
 cn:Uc vc vn
 o1:B<=g1
 o2:g1<g2
 o3:∀k,(vb.ownBlock=some k\/vd.ownBlock=some k\/vc.ownBlock=some k\/vn.ownBlock=some k)->g2<k
def XN (M:Mc) (g1 g2:Nat) (vb vd vc vn:Value):Array Value:=#[.int .i64 M.rules,.slice (some ⟨g1,0,none⟩) M.ncl M.ncl,.slice (some ⟨g2,0,none⟩) M.nlb M.nlb,vb,vd,vc,vn]
def UE (M:Mc) (w:World) (e:Ending) (w':World):Prop:=
 Below w.heap.size w w'/\((¬Xq M/\e=.returned (.tuple #[.agg Yv,.int .i64 10])) \/
  (Xq M/\∃g1 g2 vb vd vc vn,e=.returned (.tuple #[.agg (XN M g1 g2 vb vd vc vn),.int .i64 0])/\Fj w.heap.size M g1 g2 vb vd vc vn w'))
variable {bs ck df nt:List Int}{M:Mc}{B base cb g1 g2 n rb:Nat}{f:Nat->Int}{v vb vc vd vn:Value}{W w:World}
theorem Jt (hth:W.there w.heap.size 0 7) (hB:Below w.heap.size w W) (hD:¬Xq M):
  ∃W',W'=W.setCells w.heap.size 0 Yv.toList/\(loadVar 45 ⟨w.heap.size,0,none⟩).run Tryz.prog W'=.ok (.agg Yv) W'/\UE M w (.returned (.tuple #[.agg Yv,.int .i64 10])) W':=by
 refine⟨_,rfl,?_,?_,Or.inl ⟨hD,rfl⟩⟩
 ·exact run_loadVar_mid (P:=Tryz.prog) _ w.heap.size 0 45 Yv.toList _ (World.rangeAt_setCells_same W w.heap.size 0 Yv.toList hth) u_g rfl YM
 ·exact hB.grown (Y6 w.heap.size Yv.toList 0 W) hB.size (fun q hq=>by cases hq;exact Nat.le_refl _)
theorem MU (w:World):(zeroValue 88).run Tryz.prog w=.ok (.agg #[.slice none 0 0,.slice none 0 0]) w:=by
 go_simp
theorem Bm.OwnL.one {l:List Int} (h:OwnL B v l w):v.oneCell'=true:=by
 obtain⟨a,c,h1,_⟩:=h.il;rw[h1];rfl
variable {tb:Nat}
theorem SK.last {A:Qp}{ob:Nat} (h:SK w M A rb tb g1 g2 ob cb base ck nt bs df vb vd vc vn W) (hS:Xq M) (he:Mc.st M=⟨ck,nt,bs,df⟩):
  TC tb [.int .i64 M.rules,.slice (some ⟨g1,0,none⟩) M.ncl M.ncl,.slice (some ⟨g2,0,none⟩) M.nlb M.nlb,vb,vd,vc,.slice none 0 0] (W.setCell ⟨tb,5,none⟩ vc) /\
  (W.setCell ⟨tb,5,none⟩ vc).cell? ⟨cb,1,none⟩=some vn /\
  ((W.setCell ⟨tb,5,none⟩ vc).setCell ⟨tb,6,none⟩ vn).rangeAt tb 0 [.int .i64 M.rules,.slice (some ⟨g1,0,none⟩) M.ncl M.ncl,.slice (some ⟨g2,0,none⟩) M.nlb M.nlb,vb,vd,vc,vn] /\
  ((W.setCell ⟨tb,5,none⟩ vc).setCell ⟨tb,6,none⟩ vn).there rb 0 7 /\
  ∃W',W'=((W.setCell ⟨tb,5,none⟩ vc).setCell ⟨tb,6,none⟩ vn).setCells rb 0 (XN M g1 g2 vb vd vc vn).toList/\(loadVar 45 ⟨rb,0,none⟩).run Tryz.prog W'=.ok (.agg (XN M g1 g2 vb vd vc vn)) W'/\UE M w (.returned (.tuple #[.agg (XN M g1 g2 vb vd vc vn),.int .i64 0])) W':=by
 have h0:=h.o0;have h1:=h.o1;have h2:=h.o2;have h3:=h.o3;have h4:=h.o4;have h5:=h.o5;have h7:=h.c.lt;have h8:=h.bw;have t5:=h.t.set 5 (by simp) vc;have t6:=t5.set 6 (by simp) vn;obtain⟨W5,hW5⟩:=nam (W.setCell ⟨tb,5,none⟩ vc);obtain⟨W6,hW6⟩:=nam (W5.setCell ⟨tb,6,none⟩ vn);have hk5:∀q,q≠tb->W5.heap[q]?=W.heap[q]?:=fun q hq=>by rw[hW5];exact Below.heap_setCell W ⟨tb,5,none⟩ _ q (fun e=>hq e)
 have hk6:∀q,q≠tb->W6.heap[q]?=W.heap[q]?:=fun q hq=>by rw[hW6,Below.heap_setCell W5 ⟨tb,6,none⟩ _ q (fun e=>hq e),hk5 q hq]
 have hb6:Below w.heap.size w W6:=by
  rw[hW6,hW5];exact(h.bel.setCell (p:=⟨tb,5,none⟩) (show w.heap.size<=tb by omega) _).setCell (p:=⟨tb,6,none⟩) (show w.heap.size<=tb by omega) _
 have hth:W6.there rb 0 7:=Uu h.z (hk6 rb (by omega));rw[<-hW5]at t5 t6 ⊢;rw[<-hW6]at t6 ⊢;refine⟨t5,?_,t6.range,hth,_,rfl,?_,?_,Or.inr ⟨hS,g1,g2,vb,vd,vc,vn,rfl,?_⟩⟩
 ·rw[World.cell?_of_block (w:=W) (a:=⟨cb,1,none⟩) (hk5 cb (by omega))];exact(h.c.s 1 _ rfl).1
 ·exact run_loadVar_mid (P:=Tryz.prog) _ rb 0 45 (XN M g1 g2 vb vd vc vn).toList _ (World.rangeAt_setCells_same W6 rb 0 (XN M g1 g2 vb vd vc vn).toList hth) u_g rfl YM
 ·exact hb6.grown (Y6 rb _ 0 W6) hb6.size (fun q hq=>by cases hq;exact h0)
 ·have hg:=Y6 rb (XN M g1 g2 vb vd vc vn).toList 0 W6;have hsz:W.heap.size<=W6.heap.size:=by rw[hW6,hW5];simp[World.setCell]
  have hk:∀q,q<W.heap.size->q≠tb->q≠rb->(W6.setCells rb 0 (XN M g1 g2 vb vd vc vn).toList).heap[q]?=W.heap[q]?:=fun q hq hq1 hq2=>by
   rw[hg.block q (by omega) (fun e=>hq2 (Option.some.inj e)),hk6 q hq1]
  have e1:M.st.ck=ck:=by rw[he]
  have e2:M.st.nt=nt:=by rw[he]
  have e3:M.st.bs=bs:=by rw[he]
  have e4:M.st.df=df:=by rw[he]
  have kl:∀(u:Value) (l:List Int),OwnL base u l W->OwnL w.heap.size u l (W6.setCells rb 0 (XN M g1 g2 vb vd vc vn).toList):=fun u l hu=>
   (hu.keep (fun k hk2=>hk k (hu.blk k hk2).2 (by have:=(hu.blk k hk2).1;omega) (by have:=(hu.blk k hk2).1;omega))).mono (by omega)
  refine⟨h.k1.block (hk _ (by omega) (by omega) (by omega)),h.k2.block (hk _ (by omega) (by omega) (by omega)),by rw[e3];exact kl vb bs h.b,by rw[e4];exact kl vd df h.d,by rw[e1];exact kl vc ck h.c.c,by rw[e2];exact kl vn nt h.c.n,h.bd,h.bc,h.bn,h.dc,h.dn,h.c.ne,by omega,by omega,fun k hk2=>?_⟩;rcases hk2 with e|e|e|e
  ·have:=(h.b.blk k e).1;omega
  ·have:=(h.d.blk k e).1;omega
  ·have:=(h.c.c.blk k e).1;omega
  ·have:=(h.c.n.blk k e).1;omega
theorem QZ (mb:Nat) (M:Mc) (A:Qp) (w:World) (hs:GP M) (hA:U4 mb M A w) (hI:MY M A w):
  Calls Tryz.prog 11 #[.pointer (some ⟨mb,0,none⟩)] w (UE M w):=by
 have hz:=WA;have hz2:=MU;obtain⟨W0,hW0⟩:∃W,W=w.alloc (.cells #[.int .i64 0,.slice none 0 0,.slice none 0 0,.slice none 0 0,.slice none 0 0,.slice none 0 0,.slice none 0 0] 45):=⟨_,rfl⟩;have hT0:W0.there w.heap.size 0 7:=by rw[hW0];exact Sj w _
 have hB0:Below w.heap.size w W0:=by rw[hW0];exact Yh _ _
 have hS0:w.heap.size<W0.heap.size:=by rw[hW0];simp
 have HS:Hid (Calls Tryz.prog 20 #[.pointer (some ⟨mb,0,none⟩)] W0 (X2 (Xq M) W0)):=Qf mb M A W0 hs (hA.below hB0) (hI.below hB0);have HI:Hid (MY M A w):=hI;have HA:Hid (U4 mb M A w):=hA;have Hsz:Hid (GP M):=hs;clear hA hI hs;go_enter Tryz.func11,Tryz.ntmps11;go_wp2_with fail;rw[<-hW0];clear hW0;refine HS.out.mono ?_;rintro e w1 ⟨p,rfl,hp,hB1⟩;have Hp:Hid (p=true<->Xq M):=hp;have hT1:=Yu hT0 (by omega) hB1;have hBw1:=hB0.trans (hB1.mono hB0.size);have hS1:w.heap.size<w1.heap.size:=Nat.lt_of_lt_of_le hS0 hB1.size;clear hp hT0 hB0 hS0 hB1 HS;cases p
 ·obtain⟨W1,hW1,hl1,hp1⟩:=Jt hT1 hBw1 (fun h=>by have:=Hp.out.2 h;cases this);have HP1:Hid (UE M w (.returned (.tuple #[.agg Yv,.int .i64 10])) W1):=hp1;have HW1:Hid (W1=w1.setCells w.heap.size 0 Yv.toList):=hW1;have HL1:Hid ((loadVar 45 ⟨w.heap.size,0,none⟩).run Tryz.prog W1=.ok (.agg Yv) W1):=hl1;clear hp1 hW1 hl1;go_wp2_with (first|(refine wpList_store_mid rfl 45 _ _ rfl w.heap.size 0 Yv rfl rfl hT1 YM (by simp[Yv,Value.oneCell']) ?_;rw[<-HW1.out]));refine bodyPost_ret (v:=.tuple #[.agg Yv,.int .i64 10]) (Yr Tryz.results11 rfl HL1.out rfl) rfl HP1.out
 have HSn:Hid (Xq M):=Hp.out.1 rfl;clear Hp;have hcl:M.ncl=256:=by
  have hp:=HSn.out.hd.2.2.1;unfold VH at hp;by_cases e:M.ncl=256
  ·exact e
  ·rw[if_neg e]at hp;omega
 have Hcl:Hid (M.ncl=256):=hcl;have hlb:=HSn.out.hd.2.1;have hk:M.k<=256:=QC _ _;have hnn:M.nnx<=24576:=by rw[HSn.out.e];exact Nat.mul_le_mul hlb.2 hk
 have Hrow:Hid (∀s,s<M.nlb->s*M.k+M.k<=M.nnx):=fun s hs'=>by
  rw[HSn.out.e,<-Nat.succ_mul];exact Nat.mul_le_mul_right _ hs'
 obtain⟨W2,hW2⟩:∃W,W=w1.alloc (.cells #[.int .i64 M.rules,.slice none 0 0,.slice none 0 0,.slice none 0 0,.slice none 0 0,.slice none 0 0,.slice none 0 0] 45):=⟨_,rfl⟩;have x1:Below w1.heap.size w1 W2:=by rw[hW2];exact Yh _ _
 have t2:TC w1.heap.size [.int .i64 M.rules,.slice none 0 0,.slice none 0 0,.slice none 0 0,.slice none 0 0,.slice none 0 0,.slice none 0 0] W2:=by
  rw[hW2];exact TC.boxed w1 _ _
 have z2:W2.heap.size=w1.heap.size+1:=by rw[hW2];simp
 have m0:=((HA.out.below hBw1).below (Yh w1 (.cells #[.int .i64 0,.slice none 0 0,.slice none 0 0,.slice none 0 0,.slice none 0 0,.slice none 0 0,.slice none 0 0] 45))).c0;have bw2:=hBw1.trans (x1.mono hBw1.size);have T2:=Yu hT1 (by omega) x1;have m1:=(HA.out.below bw2).c1;rw[hW2]at m1;have HC1:Hid (Calls Tryz.prog 21 #[.slice A.a1 M.ncl A.c1] W2 fun e w'=>e=.returned (.slice (some ⟨W2.heap.size,0,none⟩) M.ncl M.ncl)/\Xo W2.heap.size M.cl M.ncl w'/\Below W2.heap.size W2 w'):=QD _ _ _ _ _ (by have:=Hsz.out.s1;omega) (HI.out.below bw2).l1;clear hcl;have Hz2:Hid (W2.heap.size=w1.heap.size+1):=z2;clear z2;go_wp2_with fail;rw[<-hW2];clear hW2 m0 m1;refine HC1.out.mono ?_;rintro e w3 ⟨rfl,n3,b3⟩;clear HC1;have T3:=Yu T2 (by omega) b3;have t3:=t2.below b3;have bw3:=bw2.trans (b3.mono bw2.size);obtain⟨W4,hW4⟩:∃W,W=w3.setCell ⟨w1.heap.size,1,none⟩ (.slice (some ⟨W2.heap.size,0,none⟩) M.ncl M.ncl):=⟨_,rfl⟩;have k4:∀q,q≠w1.heap.size->W4.heap[q]?=w3.heap[q]?:=fun q hq=>by rw[hW4];exact Below.heap_setCell w3 ⟨w1.heap.size,1,none⟩ _ q (fun e=>hq e)
 have t4:=t3.set 1 (by simp) (.slice (some ⟨W2.heap.size,0,none⟩) M.ncl M.ncl);rw[<-hW4]at t4;have bw4:Below w.heap.size w W4:=by rw[hW4];exact bw3.setCell (p:=⟨w1.heap.size,1,none⟩) (Nat.le_of_lt hS1) _
 have hg12:w1.heap.size<W2.heap.size:=by rw[Hz2.out];omega
 have n4:Xo W2.heap.size M.cl M.ncl W4:=n3.block (k4 _ (by omega));have T4:W4.there w.heap.size 0 7:=Uu T3 (k4 _ (by omega));have z4:W4.heap.size=w3.heap.size:=by rw[hW4];simp[World.setCell]
 have hg3:W2.heap.size<w3.heap.size:=n3.lt (by rw[Hcl.out];omega);obtain⟨q1,q1f⟩:=t3 1 _ rfl;have m2:=(HA.out.below bw4).c2;rw[hW4]at m2;have HC2:Hid (Calls Tryz.prog 21 #[.slice A.a2 M.nlb A.c2] W4 fun e w'=>e=.returned (.slice (some ⟨W4.heap.size,0,none⟩) M.nlb M.nlb)/\Xo W4.heap.size M.lb M.nlb w'/\Below W4.heap.size W4 w'):=QD _ _ _ _ _ (by have:=Hsz.out.s2;omega) (HI.out.below bw4).l2;have Hz4:Hid (W4.heap.size=w3.heap.size):=z4;have Hk4:Hid (∀q,q≠w1.heap.size->W4.heap[q]?=w3.heap[q]?):=k4;clear z4 k4 t2 t3 T2 T3 n3;go_wp2_with fail;rw[<-hW4];clear hW4 m2 q1 q1f;refine HC2.out.mono ?_;rintro e w5 ⟨rfl,n5,b5⟩;clear HC2;have T5:=Yu T4 (by omega) b5;have t5:=t4.below b5;have bw5:=bw4.trans (b5.mono bw4.size);have n4':=n4.below b5;have hg4:W2.heap.size<W4.heap.size:=by rw[Hz4.out];exact hg3
 obtain⟨W6,hW6⟩:∃W,W=w5.setCell ⟨w1.heap.size,2,none⟩ (.slice (some ⟨W4.heap.size,0,none⟩) M.nlb M.nlb):=⟨_,rfl⟩;have k6:∀q,q≠w1.heap.size->W6.heap[q]?=w5.heap[q]?:=fun q hq=>by rw[hW6];exact Below.heap_setCell w5 ⟨w1.heap.size,2,none⟩ _ q (fun e=>hq e)
 have t6:=t5.set 2 (by simp) (.slice (some ⟨W4.heap.size,0,none⟩) M.nlb M.nlb);rw[<-hW6]at t6;have bw6:Below w.heap.size w W6:=by rw[hW6];exact bw5.setCell (p:=⟨w1.heap.size,2,none⟩) (Nat.le_of_lt hS1) _
 have n6:Xo W2.heap.size M.cl M.ncl W6:=n4'.block (k6 _ (by omega));have l6:Xo W4.heap.size M.lb M.nlb W6:=n5.block (k6 _ (by omega));have T6:W6.there w.heap.size 0 7:=Uu T5 (k6 _ (by omega));have z6:W6.heap.size=w5.heap.size:=by rw[hW6];simp[World.setCell]
 have hg5:W4.heap.size<w5.heap.size:=n5.lt (by omega);obtain⟨q1,q1f⟩:=t5 2 _ rfl;have m1:=(HA.out.below bw6).c1;rw[hW6]at m1;have HC3:Hid (Calls Tryz.prog 22 #[.slice A.a1 M.ncl A.c1] W6 fun e w'=>e=.returned (.int .i64 M.k)/\w'=W6):=XC _ _ _ _ _ (by have:=Hsz.out.s1;unfold maxLen;omega) (HI.out.below bw6).l1;have hg6:W4.heap.size<W6.heap.size:=by rw[z6];exact hg5
 have m3:=(HA.out.below bw6).c3;clear z6 k6 t4 t5 T4 T5 n4 n4' n5;go_wp2_with fail;rw[<-hW6];clear hW6 m1 q1 q1f;refine HC3.out.mono ?_;rintro e W6 ⟨rfl,rfl⟩;clear HC3;obtain⟨W7,hW7⟩:∃W,W=W6.alloc (.cells #[.int .i64 M.k,.slice A.a3 M.nnx A.c3] 86):=⟨_,rfl⟩;obtain⟨W8,hW8⟩:∃W,W=W7.alloc (.cells #[.slice none 0 0,.slice none 0 0] 88):=⟨_,rfl⟩;have x7:Below W6.heap.size W6 W7:=by rw[hW7];exact Yh _ _
 have x8:Below W7.heap.size W7 W8:=by rw[hW8];exact Yh _ _
 have x68:=x7.trans (x8.mono x7.size);have z7:W7.heap.size=W6.heap.size+1:=by rw[hW7];simp
 have z8:W8.heap.size=W7.heap.size+1:=by rw[hW8];simp
 have r8:TC W6.heap.size [.int .i64 M.k,.slice A.a3 M.nnx A.c3] W8:=by
  have h:TC W6.heap.size [.int .i64 M.k,.slice A.a3 M.nnx A.c3] W7:=by rw[hW7];exact TC.boxed _ _ _
  exact h.below x8
 have c8:TC W7.heap.size [.slice none 0 0,.slice none 0 0] W8:=by rw[hW8];exact TC.boxed _ _ _
 have S0:SK w M A w.heap.size w1.heap.size W2.heap.size W4.heap.size W6.heap.size W7.heap.size W8.heap.size (Pk.run M.nx M.k 0).ck (Pk.run M.nx M.k 0).nt (Pk.run M.nx M.k 0).bs (Pk.run M.nx M.k 0).df (.slice none 0 0) (.slice none 0 0) (.slice none 0 0) (.slice none 0 0) W8:=by
  refine⟨Yu T6 (by omega) x68,t6.below x68,n6.below x68,l6.below x68,r8,⟨c8,OwnL.nil _ _,OwnL.nil _ _,fun k hk=>(by cases hk),by omega⟩,OwnL.nil _ _,OwnL.nil _ _,fun k hk=>(by cases hk),fun k hk=>(by cases hk),fun k hk=>(by cases hk),fun k hk=>(by cases hk),fun k hk=>(by cases hk),bw6.trans (x68.mono bw6.size),Nat.le_refl _,Nat.le_refl _,hS1,hg12,hg4,hg6,by omega⟩
 rw[hW7]at hW8;clear x7 x8 x68 r8 c8 T6 t6 n6 l6 hg6 hg5 hg4 hg3 hg12 bw2 bw3 bw4 bw5 b3 b5 hT1 hBw1 x1;have Hz7:Hid (W7.heap.size=W6.heap.size+1):=z7;have HW7:Hid (W7=W6.alloc (.cells #[.int .i64 M.k,.slice A.a3 M.nnx A.c3] 86)):=hW7;clear z7 z8 hW7;go_wp2_with fail;rw[<-hW8];clear hW8 m3 bw6;rw[Hz7.out]at S0;clear Hz7 HW7 Hz2 Hz4 Hk4;generalize W8.heap.size=base at *;generalize W6.heap.size=ob at *;generalize W4.heap.size=g2 at *;generalize W2.heap.size=g1 at *;generalize w1.heap.size=tb at *
 go_loopw [9] (fun x w'=>∃(s:Nat) (vb vd vc vn:Value),s<=M.nlb/\x=.int .i64 s/\SK w M A w.heap.size tb g1 g2 ob (ob+1) base (Pk.run M.nx M.k s).ck (Pk.run M.nx M.k s).nt (Pk.run M.nx M.k s).bs (Pk.run M.nx M.k s).df vb vd vc vn w') (fun x _=>M.nlb-(intOf x).toNat)
 case atStart=>exact⟨0,_,_,_,_,by omega,rfl,S0⟩
 case round=>
  clear S0;obtain⟨s,vb,vd,vc,vn,hs,rfl,S⟩:=hrel;have m2:=(HA.out.below S.bel).c2;have I:=Pk.inv M.nx M.k s;by_cases hlt:s<M.nlb
  ·have hlt':(s:Int)<(M.nlb:Int):=by omega
   have hckl:(Pk.run M.nx M.k s).ck.length<=24576:=Nat.le_trans I.l2 (Nat.le_trans (Nat.mul_le_mul (show s<=96 by omega) hk) (by omega));have hdl:(Pk.run M.nx M.k s).df.length<=96:=by rw[I.l4];omega
   have hbl:(Pk.run M.nx M.k s).bs.length<=96:=by rw[I.l3];omega
   have hl1:=I.l1;have HN:Hid (Calls Tryz.prog 23 #[.pointer (some ⟨ob,0,none⟩),.int .i64 s] wr fun e w'=>∃v,e=.returned (.tuple #[.int .i64 (Pk.df M.nx M.k s),v])/\OwnL wr.heap.size v (Vx (Pk.own M.nx M.k s)) w'/\Below wr.heap.size wr w'):=KT ob M.k A.a3 M.nnx A.c3 M.nx s wr (S.rw HI.out) hk hnn (by omega) (Hrow.out s hlt);have Hr1:Hid (Pk.run M.nx M.k (s+1)=Pk.step M.nx M.k (Pk.run M.nx M.k s) s):=rfl;have Hol:Hid ((Pk.own M.nx M.k s).length<=256):=by
    show _<=_;unfold Pk.own;rw[Pk.near_own];exact Nat.le_trans (Pk.dif_len _ _ _ _ _) hk
   have Hom:Hid (∀c∈Pk.own M.nx M.k s,c<M.k):=fun c hc=>Pk.own_lt hc
   unfold Pk.step at Hr1;clear I;generalize Pk.run M.nx M.k s=R at *;generalize Pk.own M.nx M.k s=own at *;have hol:=Hol.out;go_wp2_with fail;refine HN.out.mono ?_;rintro e w2 ⟨v2,rfl,hO2,hB2⟩;have hcv:∀k,v2.ownBlock=some k->wr.heap.size<=k:=fun k hk=>(hO2.blk k hk).1
   have S2:=S.below hB2;have n1:Uc v2 vc:=fun k h1 h2=>by have:=hcv k h1;have:=(S.c.c.blk k h2).2;omega
   have n2:Uc v2 vn:=fun k h1 h2=>by have:=hcv k h1;have:=(S.c.n.blk k h2).2;omega
   have hbs2:base<=wr.heap.size:=S.bw;have HBF:Hid (Calls Tryz.prog 24 #[.pointer (some ⟨ob+1,0,none⟩),v2] w2 fun e w'=>e=.returned (.int .i64 (Pk.bas R.ck own))/\w'=w2):=M4 base (ob+1) vc vn R.ck R.nt _ v2 own w2 S2.c hO2 (by omega) hol (fun c hc=>by have:=Hom.out c hc;omega);obtain⟨bb,hbb⟩:∃bb,bb=Pk.bas R.ck own:=⟨_,rfl⟩;have hbb2:bb<=R.ck.length:=by rw[hbb];exact(Pk.bas_spec _ _).2.1
   rw[<-hbb]at HBF Hr1;have Hlay:Hid (∀i,(Pk.lay M.nx M.k s bb (own.take i) (R.ck,R.nt)).1.length=(Pk.lay M.nx M.k s bb (own.take i) (R.ck,R.nt)).2.length/\(Pk.lay M.nx M.k s bb (own.take i) (R.ck,R.nt)).1.length<=24576+256):=fun i=>by
    have h:=Pk.lay_len M.nx M.k s bb (own.take i) (R.ck,R.nt) hl1 (fun c hc=>Hom.out c (List.mem_of_mem_take hc));refine⟨h.1,?_⟩;have:=h.2.2;simp only at this;omega
   clear hbb HN S m2 hB2;obtain⟨a2,c2,rfl,_⟩:=hO2.il;rw[Vq]at *;have hbbb:bb<=24576:=by omega
   go_wp2_with fail;refine HBF.out.mono ?_;rintro e w2 ⟨rfl,rfl⟩;clear HBF;go_wp2_with fail
   go_loopw [67] (fun x w'=>∃(i:Nat) (vc' vn':Value),i<=own.length/\x=.int .i64 i/\SK w M A w.heap.size tb g1 g2 ob (ob+1) base (Pk.lay M.nx M.k s bb (own.take i) (R.ck,R.nt)).1 (Pk.lay M.nx M.k s bb (own.take i) (R.ck,R.nt)).2 R.bs R.df vb vd vc' vn' w'/\OwnL base (.slice a2 own.length c2) (Vx own) w'/\Uc (.slice a2 own.length c2) vc'/\Uc (.slice a2 own.length c2) vn') (fun x _=>own.length-(intOf x).toNat)
   case atStart=>exact⟨0,vc,vn,by omega,rfl,by rw[List.take_zero];exact S2,hO2.mono hbs2,n1,n2⟩
   case round=>
    clear S2 n1 n2 hO2 hcv hbs2;obtain⟨i,vc',vn',hi,rfl,S3,hO3,n1,n2⟩:=hrel;by_cases hil:i<own.length
    ·have hil':(i:Int)<(own.length:Int):=by omega
     obtain⟨c,hc⟩:∃c,own[i]?=some c:=⟨own[i],List.getElem?_eq_getElem hil⟩;have hck:=Hom.out c (List.mem_of_getElem? hc);obtain⟨ad3,cap3,hv3,il3⟩:=hO3.il;obtain⟨gv,ov,hgv,cv⟩:=il3 i (by rw[Vq];exact hil);have hv4:=(Value.slice.inj hv3).1;rw[hgv]at hv4;subst hv4;simp only[LA hc]at cv;have HL:Hid (Calls Tryz.prog 25 #[.pointer (some ⟨ob,0,none⟩),.int .i64 s,.int .i64 c] wr fun e w'=>e=.returned (.int .i64 (Pk.ld M.nx M.k s c))/\Below wr.heap.size wr w'):=Sw ob M.k A.a3 M.nnx A.c3 M.nx s c wr (S3.rw HI.out) hk hnn (Or.inr ⟨s,rfl,by omega,Hrow.out s hlt⟩) hck;have HT:Hid (Pk.lay M.nx M.k s bb (own.take (i+1)) (R.ck,R.nt)=(Pk.put (Pk.lay M.nx M.k s bb (own.take i) (R.ck,R.nt)).1 (bb+c) s,Pk.put (Pk.lay M.nx M.k s bb (own.take i) (R.ck,R.nt)).2 (bb+c) (Pk.ld M.nx M.k s c))):=Jg M.nx M.k s bb own (R.ck,R.nt) i c hc;obtain⟨ll1,ll2⟩:=Hlay.out i;obtain⟨k,ik⟩:∃k:Nat,(bb:Int)+(c:Int)=(k:Int):=⟨bb+c,by omega⟩;have hkk:k=bb+c:=by omega
     have HPut:Hid (∀w',SK w M A w.heap.size tb g1 g2 ob (ob+1) base (Pk.lay M.nx M.k s bb (own.take i) (R.ck,R.nt)).1 (Pk.lay M.nx M.k s bb (own.take i) (R.ck,R.nt)).2 R.bs R.df vb vd vc' vn' w'->Calls Tryz.prog 26 #[.pointer (some ⟨ob+1,0,none⟩),.int .i64 k,.int .i64 s,.int .i64 (Pk.ld M.nx M.k s c)] w' fun e w''=>e=.returned (.tuple #[])/\∃vc'' vn'',Cs base (ob+1) vc'' vn'' (Pk.put (Pk.lay M.nx M.k s bb (own.take i) (R.ck,R.nt)).1 (bb+c) s) (Pk.put (Pk.lay M.nx M.k s bb (own.take i) (R.ck,R.nt)).2 (bb+c) (Pk.ld M.nx M.k s c)) w''/\Xx (ob+1) vc' vn' vc'' vn'' w' w''):=fun w' h'=>by
      rw[<-hkk];exact Ih base (ob+1) vc' vn' _ _ k s (Pk.ld M.nx M.k s c) w' h'.c ll1 (by omega) (by omega) h'.bw
     have Hkk:Hid (k=bb+c):=hkk;clear il3 hv3 hgv ll1 ll2 hkk hc;go_wp2_with fail;refine HL.out.mono ?_;rintro e w4 ⟨rfl,hB4⟩;have S4:=S3.below hB4;have hO4:=hO3.below hB4;clear S3 hO3 hB4 HL cv;go_wp2_with fail;refine(HPut.out _ S4).mono ?_;rintro e w5 ⟨rfl,vc5,vn5,C5,P5⟩;have S5:=S4.put C5 P5;have hO5:OwnL base (.slice (some ⟨gv,ov,none⟩) own.length c2) (Vx own) w5:=hO4.keep (fun k hk=>P5.kept k (hO4.blk k hk).2 (by have:=(hO4.blk k hk).1;have:=S4.c.lt;omega) (n1 k hk) (n2 k hk));have n3:Uc (.slice (some ⟨gv,ov,none⟩) own.length c2) vc5:=fun k h1 h2=>by
      rcases P5.oc k h2 with e|e
      ·exact n1 k h1 e
      ·have:=(hO4.blk k h1).2;omega
     have n4:Uc (.slice (some ⟨gv,ov,none⟩) own.length c2) vn5:=fun k h1 h2=>by
      rcases P5.on k h2 with e|e
      ·exact n2 k h1 e
      ·have:=(hO4.blk k h1).2;omega
     go_wp2_with fail;go_roundw
     case rel=>
      refine⟨i+1,vc5,vn5,by omega,by go_num,?_,hO5,n3,n4⟩;rw[HT.out];exact S5
     case measure=>simp[intOf];omega
    ·have hge:¬(i:Int)<(own.length:Int):=by omega
     have hio:own.take i=own:=List.take_of_length_le (by omega);rw[hio]at S3;clear hO3 n1 n2 hio;obtain⟨ad,cd,rfl,_⟩:=S3.d.il;obtain⟨ab,cb,rfl,_⟩:=S3.b.il;have d4:=(S3.t 4 _ rfl).1;obtain⟨hO1,_,hnw,hbs,hk1,_⟩:=S3.ready (Pk.df M.nx M.k s);have HK1:Hid (∀w5,(wr.alloc (.cells #[.int .i64 (Pk.df M.nx M.k s)] 3)).grownBy w5 (Value.slice ad R.df.length cd).ownBlock->w5.cell? ⟨tb,4,none⟩=some (.slice ad R.df.length cd)/\w5.frozen? ⟨tb,4,none⟩=false):=hk1;have HX:Hid (∀g cap w5,OwnL base (.slice (some ⟨g,0,none⟩) (R.df.length+1) cap) (R.df++[Pk.df M.nx M.k s]) w5->(wr.alloc (.cells #[.int .i64 (Pk.df M.nx M.k s)] 3)).grownBy w5 (Value.slice ad R.df.length cd).ownBlock->((Value.slice ad R.df.length cd).ownBlock=some g\/g=(wr.alloc (.cells #[.int .i64 (Pk.df M.nx M.k s)] 3)).heap.size) ->
       SK w M A w.heap.size tb g1 g2 ob (ob+1) base (Pk.lay M.nx M.k s bb own (R.ck,R.nt)).1 (Pk.lay M.nx M.k s bb own (R.ck,R.nt)).2 R.bs (R.df++[Pk.df M.nx M.k s]) (.slice ab R.bs.length cb) (.slice (some ⟨g,0,none⟩) (R.df.length+1) cap) vc' vn' (w5.setCell ⟨tb,4,none⟩ (.slice (some ⟨g,0,none⟩) (R.df.length+1) cap))):=fun g cap w5 h1 h2 h3=>S3.pushD rfl h1 h2 h3
     clear S3 hk1;have HN2:Hid (∀(w5:World) (a:Addr) (u vd':Value),SK w M A w.heap.size tb g1 g2 ob (ob+1) base (Pk.lay M.nx M.k s bb own (R.ck,R.nt)).1 (Pk.lay M.nx M.k s bb own (R.ck,R.nt)).2 R.bs (R.df++[Pk.df M.nx M.k s]) (.slice ab R.bs.length cb) vd' vc' vn' (w5.setCell a u) ->
       OwnL base (.slice ab R.bs.length cb) R.bs ((w5.setCell a u).alloc (.cells #[.int .i64 (bb:Int)] 3))/\((w5.setCell a u).alloc (.cells #[.int .i64 (bb:Int)] 3)).cell? ⟨w5.heap.size,0,none⟩=some (.int .i64 (bb:Int))/\base<=((w5.setCell a u).alloc (.cells #[.int .i64 (bb:Int)] 3)).heap.size /\
       ∀w7,((w5.setCell a u).alloc (.cells #[.int .i64 (bb:Int)] 3)).grownBy w7 (Value.slice ab R.bs.length cb).ownBlock->w7.cell? ⟨tb,3,none⟩=some (.slice ab R.bs.length cb)/\w7.frozen? ⟨tb,3,none⟩=false):=fun w5 a u vd' h=>by
      have hsz:(w5.setCell a u).heap.size=w5.heap.size:=by simp[World.setCell]
      obtain⟨_,h2,h3,h4,_,h6⟩:=h.ready (bb:Int);rw[hsz]at h3;exact⟨h2,h3,h4,h6⟩
     go_wp2_with (first
      |(at_builtin;refine wpList_append_int (by rfl) _ _ (by rfl) base (.slice ad R.df.length cd) R.df (by rfl) hO1 (by omega) wr.heap.size (Pk.df M.nx M.k s) (by rfl) hnw hbs _ rfl ?_;intro g cap w5 hO5 hgrow hgb hl5;obtain⟨c5,c5f⟩:=HK1.out w5 hgrow;have S5:=HX.out g cap w5 hO5 hgrow hgb;have c6:=(S5.t 3 _ rfl).1;obtain⟨hO6,hn6,hb6,hk6⟩:=HN2.out w5 _ _ _ S5;have HK6:Hid (∀w7,((w5.setCell ⟨tb,4,none⟩ (.slice (some ⟨g,0,none⟩) (R.df.length+1) cap)).alloc (.cells #[.int .i64 (bb:Int)] 3)).grownBy w7 (Value.slice ab R.bs.length cb).ownBlock->w7.cell? ⟨tb,3,none⟩=some (.slice ab R.bs.length cb)/\w7.frozen? ⟨tb,3,none⟩=false):=hk6;clear hk6 hO1)
      |(at_builtin;refine wpList_append_int (by rfl) _ _ (by rfl) base (.slice ab R.bs.length cb) R.bs (by rfl) hO6 (by omega) w5.heap.size (bb:Int) (by rfl) hn6 hb6 _ rfl ?_;intro g7 cap7 w7 hO7 hgrow7 hgb7 hl7;obtain⟨c7,c7f⟩:=HK6.out w7 hgrow7))
     have S7:=S5.pushB rfl hO7 hgrow7 hgb7;go_roundw
     case rel=>
      have E:∀vb vd vc vn W,SK w M A w.heap.size tb g1 g2 ob (ob+1) base (Pk.lay M.nx M.k s bb own (R.ck,R.nt)).1 (Pk.lay M.nx M.k s bb own (R.ck,R.nt)).2 (R.bs++[(bb:Int)]) (R.df++[Pk.df M.nx M.k s]) vb vd vc vn W->SK w M A w.heap.size tb g1 g2 ob (ob+1) base (Pk.run M.nx M.k (s+1)).ck (Pk.run M.nx M.k (s+1)).nt (Pk.run M.nx M.k (s+1)).bs (Pk.run M.nx M.k (s+1)).df vb vd vc vn W:=by
       rw[Hr1.out];exact fun _ _ _ _ _ h=>h
      exact⟨s+1,_,_,_,_,by omega,by go_num,E _ _ _ _ _ S7⟩
     case measure=>simp[intOf];omega
  ·have hge:¬(s:Int)<(M.nlb:Int):=by omega
   have hsn:s=M.nlb:=by omega
   subst hsn;obtain⟨vca,vcc,hvc,_⟩:=S.c.c.il;obtain⟨vna,vnc,hvn,_⟩:=S.c.n.il;generalize (Pk.run M.nx M.k M.nlb).ck.length=lc at hvc;generalize (Pk.run M.nx M.k M.nlb).nt.length=ln at hvn;subst hvc;subst hvn;obtain⟨t5,t5n,hrg,hth,W9,hW9,hl9,hp9⟩:=S.last HSn.out (by unfold Mc.st;rfl);obtain⟨q5,q5f⟩:=S.t 5 _ rfl;obtain⟨q6,q6f⟩:=t5 6 _ rfl;have c0:=(S.c.s 0 _ rfl).1;have HP9:Hid (UE M w (.returned (.tuple #[.agg (XN M g1 g2 vb vd (.slice vca lc vcc) (.slice vna ln vnc)),.int .i64 0])) W9):=hp9;have HW9:Hid (W9=((wr.setCell ⟨tb,5,none⟩ (.slice vca lc vcc)).setCell ⟨tb,6,none⟩ (.slice vna ln vnc)).setCells w.heap.size 0 (XN M g1 g2 vb vd (.slice vca lc vcc) (.slice vna ln vnc)).toList):=hW9;have HL9:Hid ((loadVar 45 ⟨w.heap.size,0,none⟩).run Tryz.prog W9=.ok (.agg (XN M g1 g2 vb vd (.slice vca lc vcc) (.slice vna ln vnc))) W9):=hl9;have o1:=S.b.one;have o2:=S.d.one;have o3:=S.c.c.one;have o4:=S.c.n.one;have HO:Hid (vb.oneCell'=true/\vd.oneCell'=true/\(Value.slice vca lc vcc).oneCell'=true/\(Value.slice vna ln vnc).oneCell'=true):=⟨o1,o2,o3,o4⟩;have hone:(#[.int .i64 M.rules,.slice (some ⟨g1,0,none⟩) M.ncl M.ncl,.slice (some ⟨g2,0,none⟩) M.nlb M.nlb,vb,vd,.slice vca lc vcc,.slice vna ln vnc]:Array Value).all (·.oneCell')=true:=all_oneCell_toArray (fun v hv=>by
    simp only[List.mem_cons,List.not_mem_nil,or_false]at hv;rcases hv with rfl|rfl|rfl|rfl|rfl|rfl|rfl
    ·rfl
    ·rfl
    ·rfl
    ·exact HO.out.1
    ·exact HO.out.2.1
    ·rfl
    ·rfl)
   clear hp9 hW9 hl9 t5 S o1 o2 o3 o4 HO;unfold XN at HW9;go_wp2_with (first
    |(refine wpList_load_mid rfl 45 _ rfl tb 0 rfl [.int .i64 M.rules,.slice (some ⟨g1,0,none⟩) M.ncl M.ncl,.slice (some ⟨g2,0,none⟩) M.nlb M.nlb,vb,vd,.slice vca lc vcc,.slice vna ln vnc] _ hrg u_g rfl YM ?_)
    |(refine wpList_store_mid rfl 45 _ _ rfl w.heap.size 0 #[.int .i64 M.rules,.slice (some ⟨g1,0,none⟩) M.ncl M.ncl,.slice (some ⟨g2,0,none⟩) M.nlb M.nlb,vb,vd,.slice vca lc vcc,.slice vna ln vnc] rfl rfl hth YM hone ?_;rw[<-HW9.out]))
   refine bodyPost_ret (v:=.tuple #[.agg (XN M g1 g2 vb vd (.slice vca lc vcc) (.slice vna ln vnc)),.int .i64 0]) (Yr Tryz.results11 rfl HL9.out rfl) rfl HP9.out
theorem Nb:∀ {k n:Nat},Yz f k=some n->∀i,i<k->0<=f i/\f i<n
 |0,_,_,i,hi=>by omega
 |k+1,n,h,i,hi=>by
  rw[Yz]at h;rcases hc:Yz f k with _|m
  ·rw[hc]at h;cases h
  ·rw[hc]at h;simp only at h;have IH:=Nb hc;by_cases hb:f k<0\/(m:Int)<f k
   ·rw[if_pos hb]at h;cases h
   ·rw[if_neg hb]at h;by_cases he:f k=m
    ·rw[if_pos he]at h;cases h;by_cases e:i=k
     ·subst e;omega
     ·have:=IH i (by omega);omega
    ·rw[if_neg he]at h;cases h;by_cases e:i=k
     ·subst e;omega
     ·exact IH i (by omega)
theorem Xq.cl (h:Xq M) (i:Nat) (hi:i<256):0<=M.cl i/\M.cl i<M.k:=by
 have hk:M.k=(Yz M.cl 256).getD 0:=by unfold Mc.k VH;rw[if_pos h.ncl]
 have hp2:=h.k1.1;rcases hc:Yz M.cl 256 with _|m
 ·rw[hc]at hk;simp at hk;omega
 ·rw[hc]at hk;simp at hk;have:=Nb hc i hi;rw[hk];exact this
theorem Xq.at_ (h:Xq M) (s c:Nat) (hs:s<M.nlb) (hc:c<M.k):-1<=M.nx (s*M.k+c)/\M.nx (s*M.k+c)<M.nlb:=by
 have hb:=h.b (s*M.k+c) (by
  rw[h.e];have:(s+1)*M.k<=M.nlb*M.k:=Nat.mul_le_mul_right _ hs;rw[Nat.succ_mul]at this;omega)
 omega
theorem Uq {M:Mc} (h:Xq M):SG (XU M):=by
 have I:Pk.Inv M.nx M.k M.nlb M.st:=Pk.inv M.nx M.k M.nlb;have hl:=h.hd.2.1;have hk:=h.k1;have hce:∀j,j<M.st.ck.length->M.st.ck.getD j 0=M.st.ck.getD j (-1):=fun j hj=>Wf _ _ _ _ hj
 have hne:∀j,j<M.st.ck.length->M.st.nt.getD j 0=M.st.nt.getD j (-1):=fun j hj=>Wf _ _ _ _ (by rw[<-I.l1];exact hj)
 refine⟨h.hd,I.l3,I.l4,I.l1.symm,?_,I.b3,fun i hi=>?_,fun j hj=>?_,?_⟩
 ·exact Nat.le_trans I.l2 (Nat.mul_le_mul hl.2 hk.2)
 ·show -1<=M.st.df.getD i 0/\M.st.df.getD i 0<i;rw[I.b4 i hi];exact Pk.df_bd _ _ _
 ·unfold Wp;show(M.st.ck.getD j 0=-1/\M.st.nt.getD j 0=-1)\/_;have hj':=hj;rcases I.cs j hj' with ⟨h1,h2⟩|⟨i,c,h1,h2,h3,h4,h5⟩
  ·left;rw[hce j hj',hne j hj'];exact⟨h1,h2⟩
  ·right;have e1:(XU M).ck j=i:=by show M.st.ck.getD j 0=_;rw[hce j hj',h3]
   have e2:(XU M).nx j=M.nx (i*M.k+c):=by show M.st.nt.getD j 0=_;rw[hne j hj',h5,Pk.ld_nat]
   have e3:(XU M).bs i=M.st.bs.getD i 0:=rfl;have e4:(XU M).nlb=M.nlb:=rfl;have e5:VH (XU M).cl (XU M).ncl=M.k:=rfl;have:=h.at_ i c h1 h2;rw[e1,e2,e4,e5,Int.toNat_natCast,e3];omega
 ·show M.st.ck.length=0\/M.st.ck.getD (M.st.ck.length-1) 0≠-1;rcases I.la with h0|h0
  ·exact Or.inl h0
  ·by_cases e:M.st.ck.length=0
   ·exact Or.inl e
   ·right;rw[hce _ (by omega)];exact h0
theorem QY (h:Xq M) (c:Nat) (hc:c<M.k):∀(u s:Nat),s<M.nlb->s<u->Qk (XU M) u (s:Int) (c:Int)=M.nx (s*M.k+c)
 |0,s,_,hu=>by omega
 |u+1,s,hs,hu=>by
  have I:Pk.Inv M.nx M.k M.nlb M.st:=Pk.inv M.nx M.k M.nlb;have hl:=Pk.leads I s c hs hc;have hb:=I.b3 s hs;obtain⟨k,hk⟩:∃k:Nat,M.st.bs.getD s 0+(c:Int)=(k:Int):=⟨(M.st.bs.getD s 0+(c:Int)).toNat,by omega⟩;have hk2:(XU M).bs s+(c:Int)=(k:Int):=hk;rw[hk,Int.toNat_natCast]at hl;by_cases hcnd:(k:Int)<(M.st.ck.length:Int)/\M.st.ck.getD k (-1)=(s:Int)
  ·rw[if_pos hcnd]at hl;rw[Jh hk2 (show k<M.st.ck.length by omega) (by show M.st.ck.getD k 0=_;rw[Wf _ _ 0 (-1) (by omega)];exact hcnd.2)];show M.st.nt.getD k 0=_;rw[Wf _ _ 0 (-1) (by rw[<-I.l1];omega),hl,Pk.ld_nat]
  ·rw[if_neg hcnd]at hl;rw[Mr hk2 (fun e=>hcnd ⟨by have:=e.1;have e2:(XU M).nck=M.st.ck.length:=rfl;omega,by
    have h1:=e.1;have e2:(XU M).nck=M.st.ck.length:=rfl;rw[<-Wf _ _ 0 (-1) (by omega)];exact e.2⟩)]
   show Qk (XU M) u (M.st.df.getD s 0) c=_;rw[I.b4 s hs]at hl ⊢;have hd:=Pk.df_bd M.nx M.k s;rw[<-Pk.ld_nat M.nx M.k s c,hl];by_cases e:Pk.df M.nx M.k s=-1
   ·rw[e,Ny,Pk.ld_none]
   ·obtain⟨d,hd2⟩:=Int.eq_ofNat_of_zero_le (show 0<=Pk.df M.nx M.k s by omega);rw[hd2,QY h c hc u d (by omega) (by omega),Pk.ld_nat]
theorem KQ (h:Xq M) (s b:Nat) (hs:s<M.nlb) (hb:b<256):Tr (XU M) s b=M.nx (s*M.k+(M.cl b).toNat):=by
 have hl:=h.hd.2.1;have hc:=h.cl b hb;unfold Tr;have e4:(XU M).nlb=M.nlb:=rfl;rw[if_neg (by rw[e4];omega),Int.toNat_natCast];show Qk (XU M) 97 s (M.cl b)=_;obtain⟨c,hc2⟩:=Int.eq_ofNat_of_zero_le hc.1;rw[hc2,Int.toNat_natCast];exact QY h c (by omega) 97 s hs (by omega)
end
section
open Go.RowKit
open Bm
variable {M:Mc}{B g1 g2 n:Nat}{f:Nat->Int}{vb vc vd vn:Value}{W:World}
theorem Fj.tb (h:Fj B M g1 g2 vb vd vc vn W):∃A:T8,XN M g1 g2 vb vd vc vn=A.cells (XU M)/\Vj (XU M) A W:=by
 obtain⟨a3,c3,h3,i3⟩:=h.b.il;obtain⟨a4,c4,h4,i4⟩:=h.d.il;obtain⟨a5,c5,h5,i5⟩:=h.c.il;obtain⟨a6,c6,h6,i6⟩:=h.n.il;refine⟨⟨some ⟨g1,0,none⟩,M.ncl,some ⟨g2,0,none⟩,M.nlb,a3,c3,a4,c4,a5,c5,a6,c6⟩,?_,h.k1.il (Nat.le_refl _),h.k2.il (Nat.le_refl _),i3,i4,i5,i6⟩;rw[h3,h4,h5,h6];rfl
theorem Js (h:Xq M):J1 (XU M):=by
 have hS:=Uq h;have hl:=h.hd.2.1;have h1:=h.ncl;have e1:(XU M).ncl=M.ncl:=rfl;have e2:(XU M).nlb=M.nlb:=rfl;have:=hS.e3;have:=hS.e4;have:=hS.e5;have:=hS.e6;exact⟨by omega,by omega,by omega,by omega,by omega,by omega⟩
end
section
open Go.RowKit
theorem SW (P X S:List UInt8) (i:Nat) (h:i<X.length):We (P++X++S) (P.length+i)=We X i:=by
 rw[List.append_assoc,WJ,Ww _ _ _ h]
theorem Wi (l:List UInt8) (i:Nat):Yo ⟨l.toArray⟩ i 1=We l i:=by simp[Yo,Lx]
theorem LG (l:List UInt8) (i:Nat):Yo ⟨l.toArray⟩ i 2=We l i*256+We l (i+1):=by simp[Yo,Lx]
def QL (T:Tb):List UInt8:=[77,85,78,49,YX T.rules,YX ((VH T.cl T.ncl:Int)-1),YX T.nlb,YX ((T.nck:Int)/256),YX T.nck,YX (YJ T.bs T.nbs)]
theorem Lm (T:Tb):WT T=QL T++X3 T.cl T.ncl 0++X3 T.lb T.nlb 1++YC T.bs T.nbs (YJ T.bs T.nbs)++X3 T.df T.ndf 1++Yl T.ck T.nx T.nck:=by
 simp[WT,QL]
theorem Hq (T:Tb):(QL T).length=10:=rfl
theorem Gf (T:Tb) (i:Nat) (x:Int) (h:(QL T)[i]?=some (YX x)):We (QL T) i=x%256:=by
 unfold We;rw[List.getD_eq_getElem?_getD,h];exact Yj x
variable {n:Nat}{f:Nat->Int}
theorem J6 {w:Int} (h:w=1\/w=2):(YC f n w).length=n*w.toNat:=by
 rcases h with rfl|rfl
 ·rw[VF];simp
 ·rw[Wu];simp;omega
theorem LW:∀n,YJ f n=1->∀i,i<n->f i<=255
 |0,_,i,hi=>by omega
 |n+1,h,i,hi=>by
  rw[YJ]at h;by_cases e:255<f n
  ·rw[if_pos e]at h;omega
  ·rw[if_neg e]at h;by_cases ei:i=n
   ·subst ei;omega
   ·exact LW n h i (by omega)
structure Fk (T:Tb) (wd:Nat) (L:List UInt8):Prop where
 len:L.length=266+T.nlb*(wd+2)+T.nck*2+4
 b4:We L 4=T.rules
 b6:We L 6=T.nlb
 b7:We L 7*256+We L 8=T.nck
 b9:We L 9=wd
 l1:∀i,i<256->We L (10+i)=T.cl i
 l2:∀i,i<T.nlb->We L (266+i)=T.lb i+1
 l3:∀i,i<T.nlb->Yo ⟨L.toArray⟩ (266+T.nlb+i*wd) wd=T.bs i
 l4:∀i,i<T.nlb->We L (266+T.nlb+T.nlb*wd+i)=T.df i+1
 l5:∀i,i<T.nck->We L (266+T.nlb+T.nlb*wd+T.nlb+2*i)=T.ck i+1
 l6:∀i,i<T.nck->We L (266+T.nlb+T.nlb*wd+T.nlb+2*i+1)=T.nx i+1
theorem Ks (T:Tb) (hS:SG T) (wd:Nat) (hw:YJ T.bs T.nbs=(wd:Int)):Fk T wd (Yb T):=by
 have hcl:=hS.cl;have hd:=hS.hd;have e3:=hS.e3;have e4:=hS.e4;have e6:=hS.e6;have e5:=hS.e5;have hwd:wd=1\/wd=2:=by
  rcases Wm T.bs T.nbs with h|h<;>(rw[hw]at h;omega)
 obtain⟨⟨r1,r2⟩,⟨n1,n2⟩,_,hlb⟩:=hd;have LC:(X3 T.cl T.ncl 0).length=256:=by rw[XB,hcl.1]
 have LL:(X3 T.lb T.nlb 1).length=T.nlb:=XB _ _ _;have LB:(YC T.bs T.nbs (YJ T.bs T.nbs)).length=T.nlb*wd:=by
  rw[hw,J6 (by omega),e3];simp
 have LD:(X3 T.df T.ndf 1).length=T.nlb:=by rw[XB,e4]
 have LE:(Yl T.ck T.nx T.nck).length=2*T.nck:=Xr _ _ _;have LH:=Hq T;have hF:Yb T=QL T++X3 T.cl T.ncl 0++X3 T.lb T.nlb 1++YC T.bs T.nbs (YJ T.bs T.nbs)++X3 T.df T.ndf 1++Yl T.ck T.nx T.nck++Vt (WT T):=by rw[Yb,Lm T]
 generalize Vt (WT T)=S at hF;have hSl:(Yb T).length=(WT T).length+4:=by rw[Yb,List.length_append];rfl
 have hBl:(WT T).length=266+T.nlb*(wd+2)+T.nck*2:=by
  rw[Lm];simp only[List.length_append,LH,LC,LL,LB,LD,LE];rw[Nat.mul_add];omega
 have H:∀i x,(QL T)[i]?=some (YX x)->We (Yb T) i=x%256:=fun i x hx=>by
  have hi:=(List.getElem?_eq_some_iff.1 hx).1;rw[hF];simp only[List.append_assoc];rw[Ww _ _ _ hi];exact Gf T i x hx
 have S1:∀i,i<256->We (Yb T) (10+i)=We (X3 T.cl T.ncl 0) i:=fun i hi=>by
  rw[hF];simp only[List.append_assoc];rw[<-LH,<-List.append_assoc,SW _ _ _ _ (by omega)]
 have S2:∀i,i<T.nlb->We (Yb T) (266+i)=We (X3 T.lb T.nlb 1) i:=fun i hi=>by
  rw[hF];have:=SW (QL T++X3 T.cl T.ncl 0) (X3 T.lb T.nlb 1) (YC T.bs T.nbs (YJ T.bs T.nbs)++X3 T.df T.ndf 1++Yl T.ck T.nx T.nck++S) i (by omega);rw[List.length_append,LH,LC]at this;simpa only[List.append_assoc]using this
 have S3:∀i,i<T.nlb*wd->We (Yb T) (266+T.nlb+i)=We (YC T.bs T.nbs (YJ T.bs T.nbs)) i:=fun i hi=>by
  rw[hF];have:=SW (QL T++X3 T.cl T.ncl 0++X3 T.lb T.nlb 1) (YC T.bs T.nbs (YJ T.bs T.nbs)) (X3 T.df T.ndf 1++Yl T.ck T.nx T.nck++S) i (by omega);rw[List.length_append,List.length_append,LH,LC,LL]at this;simpa only[List.append_assoc]using this
 have S4:∀i,i<T.nlb->We (Yb T) (266+T.nlb+T.nlb*wd+i)=We (X3 T.df T.ndf 1) i:=fun i hi=>by
  rw[hF];have:=SW (QL T++X3 T.cl T.ncl 0++X3 T.lb T.nlb 1++YC T.bs T.nbs (YJ T.bs T.nbs)) (X3 T.df T.ndf 1) (Yl T.ck T.nx T.nck++S) i (by omega);rw[List.length_append,List.length_append,List.length_append,LH,LC,LL,LB]at this;simpa only[List.append_assoc]using this
 have S5:∀i,i<2*T.nck->We (Yb T) (266+T.nlb+T.nlb*wd+T.nlb+i)=We (Yl T.ck T.nx T.nck) i:=fun i hi=>by
  rw[hF];have:=SW (QL T++X3 T.cl T.ncl 0++X3 T.lb T.nlb 1++YC T.bs T.nbs (YJ T.bs T.nbs)++X3 T.df T.ndf 1) (Yl T.ck T.nx T.nck) S i (by omega);rw[List.length_append,List.length_append,List.length_append,List.length_append,LH,LC,LL,LB,LD]at this;simpa only[List.append_assoc]using this
 refine⟨by rw[hSl,hBl],?_,?_,?_,?_,fun i hi=>?_,fun i hi=>?_,fun i hi=>?_,fun i hi=>?_,fun i hi=>?_,fun i hi=>?_⟩
 ·rw[H 4 T.rules rfl];omega
 ·rw[H 6 T.nlb rfl];omega
 ·rw[H 7 ((T.nck:Int)/256) rfl,H 8 T.nck rfl];omega
 ·rw[H 9 (YJ T.bs T.nbs) rfl,hw];omega
 ·rw[S1 i hi,SV _ _ _ _ (by rw[hcl.1];exact hi)];have:=hcl.2 i hi;omega
 ·rw[S2 i hi,SV _ _ _ _ hi];have:=hlb i hi;omega
 ·have hb:=hS.b3 i hi;rcases hwd with rfl|rfl
  ·rw[Wi,Nat.mul_one,S3 i (by omega),hw];have:=QH T.bs T.nbs i (by omega);have h255:=LW T.nbs hw i (by omega);rw[show((1:Nat):Int)=1 from rfl,this];omega
  ·have b1:=S3 (2*i) (by omega);have b2:=S3 (2*i+1) (by omega);have hbb:=QI T.bs T.nbs i (by omega);rw[hw,show((2:Nat):Int)=2 from rfl]at b1 b2;rw[LG,show 266+T.nlb+i*2=266+T.nlb+2*i by omega,b1,show 266+T.nlb+2*i+1=266+T.nlb+(2*i+1) by omega,b2,hbb.1,hbb.2];omega
 ·rw[S4 i hi,SV _ _ _ _ (by omega)];have:=hS.b4 i hi;omega
 ·have hc:=hS.cs i hi;rw[S5 (2*i) (by omega),(TG T.ck T.nx T.nck i hi).1];unfold Wp at hc;omega
 ·have hc:=hS.cs i hi;rw[show 266+T.nlb+T.nlb*wd+T.nlb+2*i+1=266+T.nlb+T.nlb*wd+T.nlb+(2*i+1) by omega,S5 (2*i+1) (by omega),(TG T.ck T.nx T.nck i hi).2];unfold Wp at hc;omega
theorem Lu (l:List UInt8) (a b:Nat):((⟨l.toArray⟩:ByteArray).extract a b).data.toList=(l.take b).drop a:=by
 have h:((⟨l.toArray⟩:ByteArray).extract a b).data=l.toArray.extract a b:=by simp
 rw[h];simp[List.extract_eq_take_drop,List.drop_take]
theorem K7 (l:List UInt8):Qe ⟨(l++Vt l).toArray⟩=true:=by
 have hl:(Vt l).length=4:=rfl;have hsz:(⟨(l++Vt l).toArray⟩:ByteArray).size=l.length+4:=by
  have:(⟨(l++Vt l).toArray⟩:ByteArray).size=(l++Vt l).length:=by simp[ByteArray.size]
  rw[this,List.length_append,hl]
 unfold Qe;rw[hsz,show l.length+4-4=l.length by omega,ByteArray.toList_eq,ByteArray.toList_eq,Lu,Lu];have h1:((l++Vt l).take (l.length+4)).drop l.length=Vt l:=by
  rw[List.take_of_length_le (by rw[List.length_append,hl];omega),List.drop_left]
 have h2:((l++Vt l).take l.length).drop 0=l:=by rw[List.drop_zero,List.take_left]
 rw[h1,h2];simp
theorem round (T:Tb) (hS:SG T):RO ⟨(Yb T).toArray⟩/\JY T (Yc ⟨(Yb T).toArray⟩):=by
 obtain⟨wd,hw⟩:∃wd:Nat,YJ T.bs T.nbs=(wd:Int):=by
  rcases Wm T.bs T.nbs with h|h
  ·exact⟨1,h⟩
  ·exact⟨2,h⟩
 have R:=Ks T hS wd hw;have hwd:wd=1\/wd=2:=by
  rcases Wm T.bs T.nbs with h|h<;>(rw[hw]at h;omega)
 have hcl:=hS.cl;have hd:=hS.hd;have e3:=hS.e3;have e4:=hS.e4;have e6:=hS.e6;have e5:=hS.e5;have k4:Yo ⟨(Yb T).toArray⟩ 4 1=T.rules:=by rw[Wi];exact R.b4
 have k6:Yo ⟨(Yb T).toArray⟩ 6 1=T.nlb:=by rw[Wi];exact R.b6
 have k7:Yo ⟨(Yb T).toArray⟩ 7 2=T.nck:=by rw[LG];exact R.b7
 have k9:Yo ⟨(Yb T).toArray⟩ 9 1=wd:=by rw[Wi];exact R.b9
 have hT:Yc ⟨(Yb T).toArray⟩=LO ⟨(Yb T).toArray⟩ T.nlb T.nck wd:=by
  unfold Yc;rw[k6,k7,k9];simp
 have hE:JY T (Yc ⟨(Yb T).toArray⟩):=by
  rw[hT];refine⟨k4.symm,hcl.1,rfl,e3,e4,rfl,e6,fun i hi=>?_,fun i hi=>?_,fun i hi=>?_,fun i hi=>?_,fun i hi=>?_,fun i hi=>?_⟩
  ·simp only[LO,lst];rw[Wi,Nat.mul_one,R.l1 i (by omega)];omega
  ·simp only[LO,lst];rw[Wi,Nat.mul_one,R.l2 i hi];omega
  ·simp only[LO,lst];rw[R.l3 i (by omega)];omega
  ·simp only[LO,lst];rw[Wi,Nat.mul_one,R.l4 i (by omega)];omega
  ·simp only[LO];rw[Wi,R.l5 i hi];omega
  ·simp only[LO];rw[Wi,R.l6 i (by omega)];omega
 have hsz:(⟨(Yb T).toArray⟩:ByteArray).size=(Yb T).length:=by simp[ByteArray.size]
 refine⟨⟨?_,⟨?_,?_,?_⟩,?_,?_,?_⟩,hE⟩
 ·unfold Xe;rw[decide_eq_true (by rw[hsz,R.len];omega)];have:((⟨(Yb T).toArray⟩:ByteArray).extract 0 4).toList=[77,85,78,49]:=by
   rw[ByteArray.toList_eq];simp[ByteArray.extract,ByteArray.copySlice];unfold Yb WT;simp
  rw[this];rfl
 ·rw[hsz,R.len];omega
 ·rw[k4,k6,k7,k9];refine⟨hd.1,?_,by omega,by omega⟩;have:=hd.2.1;omega
 ·rw[hsz,R.len,k6,k7,k9];simp
 ·exact K7 (WT T)
 ·exact hE.snd hS
 ·rw[<-hE.file e6]
end
end Go.Proofs.YtoaaklhpmhjhkabGreat
