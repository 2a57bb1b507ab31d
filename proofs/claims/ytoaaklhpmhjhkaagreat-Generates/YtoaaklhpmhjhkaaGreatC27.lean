import Derived.Test.YtoaaklhpmhjhkaaGreatC02
import Derived.Test.YtoaaklhpmhjhkaaGreatC16
set_option maxRecDepth 100000
set_option maxHeartbeats 4000000
set_option linter.all false
namespace Go.Proofs.YtoaaklhpmhjhkaaGreat
open Go.RowKit
structure Mc where
 rules:Int
 cl:Nat->Int
 ncl:Nat
 lb:Nat->Int
 nlb:Nat
 nx:Nat->Int
 nnx:Nat
structure Ux where
 a1:Option Addr
 c1:Nat
 a2:Option Addr
 c2:Nat
 a3:Option Addr
 c3:Nat
def Ux.cells (A:Ux) (M:Mc):Array Value:=#[.int .i64 M.rules,.slice A.a1 M.ncl A.c1,.slice A.a2 M.nlb A.c2,.slice A.a3 M.nnx A.c3]
structure QH (M:Mc) (A:Ux) (w:World):Prop where
 l1:IL A.a1 M.cl M.ncl w
 l2:IL A.a2 M.lb M.nlb w
 l3:IL A.a3 M.nx M.nnx w
variable {M:Mc}{b:Nat}{w w':World}
theorem QH.below {A:Ux} (h:QH M A w) (y:Bl w w'):QH M A w':=⟨h.l1.below y,h.l2.below y,h.l3.below y⟩
structure La (M:Mc):Prop where
 s1:M.ncl+3<=17592186044416
 s2:M.nlb+3<=17592186044416
 s3:M.nnx+3<=17592186044416
structure WD (b:Nat) (M:Mc) (A:Ux) (w:World):Prop where
 c0:w.cell? ⟨b,0,none⟩=some (.int .i64 M.rules)
 c1:w.cell? ⟨b,1,none⟩=some (.slice A.a1 M.ncl A.c1)
 c2:w.cell? ⟨b,2,none⟩=some (.slice A.a2 M.nlb A.c2)
 c3:w.cell? ⟨b,3,none⟩=some (.slice A.a3 M.nnx A.c3)
theorem WD.lt {A:Ux} (h:WD b M A w):b<w.heap.size:=Ze w _ h.c0
theorem WD.blk {A:Ux} (h:WD b M A w) (y:w'.heap[b]?=w.heap[b]?):WD b M A w':=by
 have e:∀k,w'.cell? (a_ b k)=w.cell? (a_ b k):=λk=>World.cell?_of_block (w:=w) (a:=(a_ b k)) y
 exact⟨by rw[e];exact h.c0,by rw[e];exact h.c1,by rw[e];exact h.c2,by rw[e];exact h.c3⟩
theorem WD.below {A:Ux} (h:WD b M A w) (y:Bl w w'):WD b M A w':=h.blk (y.block b h.lt)
theorem WD.heap {A:Ux} (h:WD b M A w) (y:w'.heap=w.heap):WD b M A w':=h.blk (by rw[y])
theorem WD.boxed (M:Mc) (A:Ux) (w:World) (t:TypeId):WD w.heap.size M A (w.alloc (.cells (A.cells M) t)):=by
 refine⟨?_,?_,?_,?_⟩<;>(rw[Zm];rfl)
def Mc.k (M:Mc):Nat:=Vg M.cl M.ncl
structure WO (M:Mc):Prop where
 hd:Hd M.rules M.cl M.ncl M.lb M.nlb
 e:M.nnx=M.nlb*M.k
 b:∀i,i<M.nnx->-1<=M.nx i/\M.nx i<=(M.nlb:Int)-1
theorem WO.ncl (h:WO M):M.ncl=256:=by
 have a:=h.hd.2.2.1;unfold Vg at a;by_cases e:M.ncl=256
 ·exact e
 rw[if_neg e]at a;omega
theorem WO.k1 (h:WO M):1<=M.k/\M.k<=256:=⟨h.hd.2.2.1,SS _ _⟩
theorem M9 (b:Nat) (M:Mc) (A:Ux) (w:World) (hs:La M) (h:WD b M A w) (Y:QH M A w):
  Cp 69 #[pT b] w (YD (WO M) w):=by
 have q:M.ncl<=maxLen:=by have:=hs.s1;unfold maxLen;omega
 have m2:M.nlb<=maxLen:=by have:=hs.s2;unfold maxLen;omega
 have C:M.nnx<=maxLen:=by have:=hs.s3;unfold maxLen;omega
 obtain⟨N,k1,z⟩:=Ui 134 #[I6 M.rules,.slice A.a1 M.ncl A.c1,.slice A.a2 M.nlb A.c2] _ w (λw' g=>P9 _ _ _ _ _ _ _ _ _ w' q m2 (Y.l1.heapE g) (Y.l2.heapE g));have D:=hyd z;have E:Hid (∀w',w'.heap=w.heap->Cp 71 #[.slice A.a1 M.ncl A.c1] w' λe w''=>e=.returned (I6 M.k)/\w''=w'):=λw' g=>Xa _ _ _ _ _ q (Y.l1.heapE g)
 have F:Hid (∀w',w'.heap=w.heap->Cp 135 #[.slice A.a3 M.nnx A.c3,I6 (-1),I6 ((M.nlb:Int)-1)] w' (YC (∀i,i<M.nnx->-1<=M.nx i/\M.nx i<=(M.nlb:Int)-1) w')):=λw' g=>UD _ _ _ _ _ _ w' C (Y.l3.heapE g)
 have o:=hyd k1;have G:=hyd h;obtain⟨u,v,x,y⟩:=h;have I:M.k<=256:=SS _ _;unfold maxLen at q m2 C;clear Y z k1 hs;generalize B:M.k=K at *;have s:=hyd B;clear B;go_enter Tryz.func69,Tryz.ntmps69;go_wp2
 go_quiet ((go_at_call 134;exact Calls.quiet_of_same (D.out _ rfl)))
 have c:Bl w (w.drewN nq):=Ve _ _ _;have l:Hid ((w.drewN nq).heap=w.heap):=rfl;have n:WD b M A (w.drewN nq):=G.out.heap rfl;generalize w.drewN nq=w1 at *;clear u v x y;obtain⟨u,v,x,y⟩:=n;cases N
 ·have a:Hid (¬WO M):=λh=>by have:=o.out.2 h.hd;cases this
  go_wp2;go_ret;exact YD.f a c
 have j:=hyd (o.out.1 rfl);have J:=j.out.2.1;clear o;go_wp2_with fail;refine Calls.mono (E.out _ l) ?_;rintro e w' ⟨rfl,rfl⟩;obtain⟨p,m⟩:∃p:Nat,p=M.nlb*K:=⟨_,rfl⟩;have R:(M.nlb:Int)*(K:Int)=(p:Int):=by rw[m];simp
 have L:p<=96*256:=by rw[m];exact Nat.mul_le_mul J.2 I
 have t:=hyd m;clear m;by_cases d:M.nnx=p
 ·have P:((M.nnx:Int)==(p:Int))=true:=by simp[d]
  have Q:((M.nnx:Int) != (p:Int))=false:=by simp[d]
  have H:=hyd d;clear d;go_wp2_with fail;refine Calls.mono (F.out _ l.out) ?_;rintro e w' ⟨O,rfl,h3,rfl⟩;have r:=hyd h3;clear h3;go_wp2;go_ret;exact⟨O,rfl,⟨λh=>⟨j.out,by rw[H.out,t.out,s.out],r.out.1 h⟩,λh=>r.out.2 h.b⟩,c⟩
 have P:((M.nnx:Int)==(p:Int))=false:=beq_eq_false_iff_ne.2 (by omega);have Q:((M.nnx:Int) != (p:Int))=true:=by simp;omega
 have a:Hid (¬WO M):=λh=>d (by rw[h.e,s.out,t.out])
 clear d;go_wp2;go_ret;exact YD.f a c
theorem M3 (M:Mc) (A:Ux) (w:World) (hs:La M) (Y:QH M A w):
  Cp 118 #[.agg (A.cells M)] w (YD (WO M) w):=by
 have o:M.ncl<=maxLen:=by have:=hs.s1;unfold maxLen;omega
 have m2:M.nlb<=maxLen:=by have:=hs.s2;unfold maxLen;omega
 have u:M.nnx<=maxLen:=by have:=hs.s3;unfold maxLen;omega
 obtain⟨W,g⟩:=nam (w.alloc (.cells (A.cells M) 25));have l:Bl w W:=by rw[g];exact Yg _ _
 have F:WD w.heap.size M A W:=by rw[g];exact WD.boxed M A w _
 have a:=Y.below l;have x:Hid (Cp 166 #[I6 M.rules,.slice A.a1 M.ncl A.c1,.slice A.a2 M.nlb A.c2] W (YC (Hd M.rules M.cl M.ncl M.lb M.nlb) W)):=Re _ _ _ _ _ _ _ _ _ _ o m2 a.l1 a.l2;have y:Hid (Cp 120 #[.slice A.a1 M.ncl A.c1] W λe w'=>e=.returned (I6 M.k)/\w'=W):=WZ _ _ _ _ _ o a.l1;have z:Hid (Cp 167 #[.slice A.a3 M.nnx A.c3,I6 (-1),I6 ((M.nlb:Int)-1)] W (YC (∀i,i<M.nnx->-1<=M.nx i/\M.nx i<=(M.nlb:Int)-1) W)):=Se _ _ _ _ _ _ W u a.l3;have G:M.k<=256:=SS _ _;unfold maxLen at o m2 u;clear Y a hs;generalize t:M.k=K at *;have r:Hid (M.k=K):=t;clear t;obtain⟨C,D,E,N⟩:=F;unfold Ux.cells at *;rw[g]at C D E;go_enter Tryz.func118,Tryz.ntmps118;go_wp2_with fail;rw[<-g]at *;clear g;refine Calls.mono x.out ?_;rintro e w' ⟨v,rfl,k1,rfl⟩;have n:Hid (v=true<->Hd M.rules M.cl M.ncl M.lb M.nlb):=k1;clear k1;cases v
 ·have c:Hid (¬WO M):=λh=>by have:=n.out.2 h.hd;cases this
  go_wp2_with fail;go_ret;exact YD.f c l
 have d:=hyd (n.out.1 rfl);have H:=d.out.2.1;clear n;go_wp2_with fail;refine Calls.mono y.out ?_;rintro e w' ⟨rfl,rfl⟩;obtain⟨p,m⟩:∃p:Nat,p=M.nlb*K:=⟨_,rfl⟩;have O:(K:Int)*(M.nlb:Int)=(p:Int):=by rw[m,Int.mul_comm];simp
 have I:p<=96*256:=by rw[m];exact Nat.mul_le_mul H.2 G
 have s:=hyd m;clear m;by_cases j:M.nnx=p
 ·have L:((M.nnx:Int)==(p:Int))=true:=by simp[j]
  have B:=hyd j;clear j;go_wp2_with fail;refine Calls.mono z.out ?_;rintro e w' ⟨J,rfl,h3,rfl⟩;have q:=hyd h3;clear h3;go_wp2_with fail;go_ret;exact⟨J,rfl,⟨λh=>⟨d.out,by rw[B.out,s.out,r.out],q.out.1 h⟩,λh=>q.out.2 h.b⟩,l⟩
 have L:((M.nnx:Int)==(p:Int))=false:=beq_eq_false_iff_ne.2 (by omega);have c:Hid (¬WO M):=λh=>j (by rw[h.e,r.out,s.out])
 clear j;go_wp2_with fail;go_ret;exact YD.f c l
end Go.Proofs.YtoaaklhpmhjhkaaGreat
