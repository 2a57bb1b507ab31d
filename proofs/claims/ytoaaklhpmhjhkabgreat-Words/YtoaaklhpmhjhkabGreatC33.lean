import Derived.Test.YtoaaklhpmhjhkabGreatC02
import Derived.Test.YtoaaklhpmhjhkabGreatC31
set_option maxRecDepth 100000
set_option maxHeartbeats 4000000
set_option linter.all false
namespace Go.Proofs.YtoaaklhpmhjhkabGreat
open Go.RowKit
structure Mc where
 rules:Int
 cl:Nat->Int
 ncl:Nat
 lb:Nat->Int
 nlb:Nat
 nx:Nat->Int
 nnx:Nat
structure Qp where
 a1:Option Addr
 c1:Nat
 a2:Option Addr
 c2:Nat
 a3:Option Addr
 c3:Nat
def Qp.cells (A:Qp) (M:Mc):Array Value:=#[.int .i64 M.rules,.slice A.a1 M.ncl A.c1,.slice A.a2 M.nlb A.c2,.slice A.a3 M.nnx A.c3]
structure MY (M:Mc) (A:Qp) (w:World):Prop where
 l1:IL A.a1 M.cl M.ncl w
 l2:IL A.a2 M.lb M.nlb w
 l3:IL A.a3 M.nx M.nnx w
variable {M:Mc}{b:Nat}{w w':World}
theorem MY.below {A:Qp} (h:MY M A w) (hW:Below w.heap.size w w'):MY M A w':=⟨h.l1.below hW,h.l2.below hW,h.l3.below hW⟩
structure GP (M:Mc):Prop where
 s1:M.ncl+3<=17592186044416
 s2:M.nlb+3<=17592186044416
 s3:M.nnx+3<=17592186044416
structure U4 (b:Nat) (M:Mc) (A:Qp) (w:World):Prop where
 c0:w.cell? ⟨b,0,none⟩=some (.int .i64 M.rules)
 c1:w.cell? ⟨b,1,none⟩=some (.slice A.a1 M.ncl A.c1)
 c2:w.cell? ⟨b,2,none⟩=some (.slice A.a2 M.nlb A.c2)
 c3:w.cell? ⟨b,3,none⟩=some (.slice A.a3 M.nnx A.c3)
theorem U4.lt {A:Qp} (h:U4 b M A w):b<w.heap.size:=World.block_lt_of_cell? w _ h.c0
theorem U4.blk {A:Qp} (h:U4 b M A w) (hb:w'.heap[b]?=w.heap[b]?):U4 b M A w':=by
 have e:∀k,w'.cell? ⟨b,k,none⟩=w.cell? ⟨b,k,none⟩:=fun k=>World.cell?_of_block (w:=w) (a:=⟨b,k,none⟩) hb
 exact⟨by rw[e];exact h.c0,by rw[e];exact h.c1,by rw[e];exact h.c2,by rw[e];exact h.c3⟩
theorem U4.below {A:Qp} (h:U4 b M A w) (hW:Below w.heap.size w w'):U4 b M A w':=h.blk (hW.block b h.lt)
theorem U4.heap {A:Qp} (h:U4 b M A w) (hW:w'.heap=w.heap):U4 b M A w':=h.blk (by rw[hW])
theorem U4.boxed (M:Mc) (A:Qp) (w:World) (t:TypeId):U4 w.heap.size M A (w.alloc (.cells (A.cells M) t)):=by
 refine⟨?_,?_,?_,?_⟩<;>(rw[World.cell?_alloc_new];rfl)
def Mc.k (M:Mc):Nat:=VH M.cl M.ncl
structure Xq (M:Mc):Prop where
 hd:Hd M.rules M.cl M.ncl M.lb M.nlb
 e:M.nnx=M.nlb*M.k
 b:∀i,i<M.nnx->-1<=M.nx i/\M.nx i<=(M.nlb:Int)-1
theorem Xq.ncl (h:Xq M):M.ncl=256:=by
 have hp:=h.hd.2.2.1;unfold VH at hp;by_cases e:M.ncl=256
 ·exact e
 ·rw[if_neg e]at hp;omega
theorem Xq.k1 (h:Xq M):1<=M.k/\M.k<=256:=⟨h.hd.2.2.1,QC _ _⟩
theorem Qf (b:Nat) (M:Mc) (A:Qp) (w:World) (hs:GP M) (h:U4 b M A w) (hI:MY M A w):
  Calls Tryz.prog 20 #[.pointer (some ⟨b,0,none⟩)] w (X2 (Xq M) w):=by
 have m1:M.ncl<=maxLen:=by have:=hs.s1;unfold maxLen;omega
 have m2:M.nlb<=maxLen:=by have:=hs.s2;unfold maxLen;omega
 have m3:M.nnx<=maxLen:=by have:=hs.s3;unfold maxLen;omega
 obtain⟨p1,k1,f1⟩:=Vl 47 #[.int .i64 M.rules,.slice A.a1 M.ncl A.c1,.slice A.a2 M.nlb A.c2] _ w (fun w' hw=>Sf _ _ _ _ _ _ _ _ _ w' m1 m2 (hI.l1.heapE hw) (hI.l2.heapE hw));have F1:=hyd f1;have F2:Hid (∀w',w'.heap=w.heap->Calls Tryz.prog 22 #[.slice A.a1 M.ncl A.c1] w' fun e w''=>e=.returned (.int .i64 M.k)/\w''=w'):=fun w' hw=>XC _ _ _ _ _ m1 (hI.l1.heapE hw)
 have F3:Hid (∀w',w'.heap=w.heap->Calls Tryz.prog 48 #[.slice A.a3 M.nnx A.c3,.int .i64 (-1),.int .i64 ((M.nlb:Int)-1)] w' (Yi (∀i,i<M.nnx->-1<=M.nx i/\M.nx i<=(M.nlb:Int)-1) w')):=fun w' hw=>VC _ _ _ _ _ _ w' m3 (hI.l3.heapE hw)
 have K1:=hyd k1;have H0:=hyd h;obtain⟨d0,d1,d2,d3⟩:=h;have hk:M.k<=256:=QC _ _;unfold maxLen at m1 m2 m3;clear hI f1 k1 hs;generalize hK:M.k=K at *;have HK:=hyd hK;clear hK;go_enter Tryz.func20,Tryz.ntmps20;go_wp2_with fail
 go_quiet ((go_at_call 47;exact Calls.quiet_of_same (F1.out _ rfl)))
 have hW1:Below w.heap.size w (w.drewN nq):=Wc _ _ _;have HW1:Hid ((w.drewN nq).heap=w.heap):=rfl;have H1':U4 b M A (w.drewN nq):=H0.out.heap rfl;generalize w.drewN nq=w1 at *;clear d0 d1 d2 d3;obtain⟨d0,d1,d2,d3⟩:=H1';cases p1
 ·have HN2:Hid (¬Xq M):=fun h=>by have:=K1.out.2 h.hd;cases this
  go_wp2_with fail;go_ret;exact X2.f HN2.out hW1
 have HQ1:=hyd (K1.out.1 rfl);have hl:=HQ1.out.2.1;clear K1;go_wp2_with fail;refine Calls.mono (F2.out _ HW1.out) ?_;rintro e w' ⟨rfl,rfl⟩;obtain⟨p,hp⟩:∃p:Nat,p=M.nlb*K:=⟨_,rfl⟩;have ip:(M.nlb:Int)*(K:Int)=(p:Int):=by rw[hp];simp
 have hpb:p<=96*256:=by rw[hp];exact Nat.mul_le_mul hl.2 hk
 have Hp:=hyd hp;clear hp;by_cases he:M.nnx=p
 ·have q1:((M.nnx:Int)==(p:Int))=true:=by simp[he]
  have q2:((M.nnx:Int) != (p:Int))=false:=by simp[he]
  have He:=hyd he;clear he;go_wp2_with fail;refine Calls.mono (F3.out _ HW1.out) ?_;rintro e w' ⟨p3,rfl,h3,rfl⟩;have H3:=hyd h3;clear h3;go_wp2_with fail;go_ret;exact⟨p3,rfl,⟨fun h=>⟨HQ1.out,by rw[He.out,Hp.out,HK.out],H3.out.1 h⟩,fun h=>H3.out.2 h.b⟩,hW1⟩
 ·have q1:((M.nnx:Int)==(p:Int))=false:=beq_eq_false_iff_ne.2 (by omega);have q2:((M.nnx:Int) != (p:Int))=true:=by simp;omega
  have HN2:Hid (¬Xq M):=fun h=>he (by rw[h.e,HK.out,Hp.out])
  clear he;go_wp2_with fail;go_ret;exact X2.f HN2.out hW1
end Go.Proofs.YtoaaklhpmhjhkabGreat
