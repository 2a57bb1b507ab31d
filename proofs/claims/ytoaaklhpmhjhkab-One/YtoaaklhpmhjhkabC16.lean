import Derived.Test.YtoaaklhpmhjhkabC14
import Derived.Test.YtoaaklhpmhjhkabC15
set_option maxRecDepth 100000
set_option maxHeartbeats 4000000
set_option linter.all false
namespace Go.Proofs.Ytoaaklhpmhjhkab
open Go.RowKit
open Bm (Aut fl gAt Tg)
structure Gr (gb:Nat) (A:Aut) (ta:Option Addr) (tc:Nat) (sv:Value) (w:World):Prop where
 c0:w.cell? ⟨gb,0,none⟩=some (.int .i64 A.K)
 c1:w.cell? ⟨gb,1,none⟩=some sv
 c2:w.cell? ⟨gb,2,none⟩=some (.slice ta (A.N*A.K) tc)
 l:IL ta (fl A) (A.N*A.K) w
variable {A : Aut}{K b gb m n : Nat}{w w' : World}
theorem Gr.below {ta:Option Addr}{tc:Nat}{sv:Value} (h:Gr gb A ta tc sv w) (hW:Below w.heap.size w w'):Gr gb A ta tc sv w':=by
 have hb:=World.block_lt_of_cell? w _ h.c0;have e:∀k,w'.cell? ⟨gb,k,none⟩=w.cell? ⟨gb,k,none⟩:=fun k=>hW.cell (p:=⟨gb,k,none⟩) hb
 exact⟨by rw[e];exact h.c0,by rw[e];exact h.c1,by rw[e];exact h.c2,h.l.below hW⟩
structure Aut.Small (A:Aut):Prop where
 n:A.N<=200
 k:A.K<=256
theorem M5 {a:Nat} (h1:a<=m) (h2:b<=n):a*b<=m*n:=Nat.mul_le_mul h1 h2
theorem Sx (gb:Nat) (A:Aut) (ta:Option Addr) (tc:Nat) (sv:Value) (oa:Option Addr) (oc:Nat) (of:Nat->Int) (a k:Nat) (w:World) (hA:Aut.Small A) (hr:∀s k,s<A.N->k<A.K->-1<=A.to s k/\A.to s k<A.N) (hG:Gr gb A ta tc sv w) (hO:IL oa of A.N w) (ha:a<A.N) (hk:k<A.K):
  Calls Try.prog 100 #[.pointer (some ⟨gb,0,none⟩),.slice oa A.N oc,.int .i64 a,.int .i64 k] w fun e w'=>e=.returned (.int .i64 (gAt A of a k))/\Below w.heap.size w w':=by
 obtain⟨R,hR⟩:=nam (gAt A of a k);rw[<-hR];unfold gAt at hR;obtain⟨p,hp⟩:=nam (a*A.K);have ia:(a:Int)*(A.K:Int)=(p:Int):=by rw[hp];simp
 obtain⟨t,ht⟩:=nam (p+k);have it:(p:Int)+(k:Int)=(t:Int):=by omega
 have htl:t<A.N*A.K:=by rw[ht,hp];exact Bm.time_lt ha hk
 have hb:=M5 hA.n hA.k;have hb2:=hA.k;have hf:fl A t=A.to a k:=by rw[ht,hp];exact Bm.fl_at A hk
 obtain⟨tb,to_,rfl,c3⟩:=hG.l t htl;rw[hf]at c3;have c0:=hG.c0;have c2:=hG.c2;obtain⟨M,hM⟩:=nam (A.N*A.K);rw[<-hM]at c2 htl hb;have htl':(t:Int)<M:=by omega
 have hrr:=hr a k ha hk;have HO:=hyd hO;clear hO hG hp ht hM hf hr;by_cases h1:A.to a k=-1
 ·rw[if_pos h1]at hR;have q1:(A.to a k==-1)=true:=by simpa using h1
  subst hR;go_enter Try.func100,Try.ntmps100;go_wp2_with fail
  go_quiet (fail)
  go_wp2_with fail;go_ret;exact⟨rfl,(Below.refl _ _).trans ⟨rfl,rfl,rfl,Nat.le_refl _,fun _ _=>rfl⟩⟩
 ·rw[if_neg h1]at hR;have q1:(A.to a k==-1)=false:=by simpa using h1
  obtain⟨m,hm⟩:=Int.eq_ofNat_of_zero_le (show 0<=A.to a k by omega);have hmn:m<A.N:=by omega
  have hmn':(m:Int)<(A.N:Int):=by omega
  rw[hm]at hR c3 q1;rw[Int.toNat_natCast]at hR;obtain⟨ob,oo,rfl,c4⟩:=HO.out m hmn;subst hR;clear HO h1 hm hrr;go_enter Try.func100,Try.ntmps100;go_wp2_with fail
  go_quiet (fail)
  go_wp2_with fail;go_ret;exact⟨rfl,(Below.refl _ _).trans ⟨rfl,rfl,rfl,Nat.le_refl _,fun _ _=>rfl⟩⟩
theorem VC (B:Nat) (w:World) (q:Nat):Below B w (w.drewN q):=⟨rfl,rfl,rfl,Nat.le_refl _,fun _ _=>rfl⟩
theorem PX (gb:Nat) (A:Aut) (ta:Option Addr) (tc:Nat) (sv:Value) (oa:Option Addr) (oc:Nat) (of:Nat->Int) (a b:Nat) (w:World) (hA:Aut.Small A) (hr:∀s k,s<A.N->k<A.K->-1<=A.to s k/\A.to s k<A.N) (hG:Gr gb A ta tc sv w) (hO:IL oa of A.N w) (ha:a<A.N) (hb:b<A.N):
  Calls Try.prog 99 #[.pointer (some ⟨gb,0,none⟩),.slice oa A.N oc,.int .i64 a,.int .i64 b] w fun e w'=>e=.returned (.bool (Tg A of a b))/\Below w.heap.size w w':=by
 obtain⟨R,hR⟩:=nam (Tg A of a b);rw[<-hR];have HR:Hid (R=true<->of a=of b/\∀k,k<A.K->gAt A of a k=gAt A of b k):=by rw[hR];exact Bm.Tg_iff A of a b
 clear hR;have HC:Hid (∀(s k:Nat) (w':World),s<A.N->k<A.K->Below w.heap.size w w'->Calls Try.prog 100 #[.pointer (some ⟨gb,0,none⟩),.slice oa A.N oc,.int .i64 s,.int .i64 k] w' fun e w''=>e=.returned (.int .i64 (gAt A of s k))/\Below w'.heap.size w' w''):=fun s k w' hs hk h'=>Sx gb A ta tc sv oa oc of s k w' hA hr (hG.below h') (hO.below h') hs hk
 have HK:Hid (∀w',Below w.heap.size w w'->w'.cell? ⟨gb,0,none⟩=some (.int .i64 A.K)):=fun w' h'=>(hG.below h').c0
 have hk2:=hA.k;obtain⟨o1,f1,e1,c1⟩:=hO a ha;obtain⟨o2,f2,e2,c2⟩:=hO b hb;subst e1;cases e2;have ha':(a:Int)<(A.N:Int):=by omega
 have hb':(b:Int)<(A.N:Int):=by omega
 have c0:=hG.c0;clear hG hO hr;by_cases h1:of a=of b
 case neg=>
  have HR1:Hid (R=false):=by
   show _=_;cases hR:R
   ·rfl
   ·exact absurd (HR.out.1 hR).1 h1
  have q2:(of a != of b)=true:=by simp[h1]
  clear HR;go_enter Try.func99,Try.ntmps99;go_wp2_with fail
  go_quiet (fail)
  go_wp2_with fail;go_ret;exact⟨Yj HR1.out.symm,VC _ _ _⟩
 have q2:(of a != of b)=false:=by simp[h1]
 have HR2:Hid (R=true<->∀k,k<A.K->gAt A of a k=gAt A of b k):=⟨fun h=>(HR.out.1 h).2,fun h=>HR.out.2 ⟨h1,h⟩⟩;clear HR h1;go_enter Try.func99,Try.ntmps99;go_wp2_with fail
 go_quiet (fail)
 go_wp2_with fail
 go_loopw [9] (fun x w'=>∃k:Nat,k<=A.K/\x=.int .i64 k/\Below w.heap.size w w'/\Hid (∀j,j<k->gAt A of a j=gAt A of b j)) (fun x _=>A.K-(intOf x).toNat)
 case atStart=>exact⟨0,by omega,rfl,VC _ _ _,fun j hj=>by omega⟩
 case round=>
  obtain⟨k,hk,rfl,hW,HI⟩:=hrel;have c0:=HK.out wr hW;by_cases hlt:k<A.K
  ·have hlt':(k:Int)<(A.K:Int):=by omega
   go_wp2_with fail;refine(HC.out a k _ ha hlt hW).mono ?_;rintro e w1 ⟨rfl,hW1⟩;have hB1:=hW.trans (hW1.mono hW.size);go_wp2_with fail;refine(HC.out b k _ hb hlt hB1).mono ?_;rintro e w2 ⟨rfl,hW2⟩;have hB2:=hB1.trans (hW2.mono hB1.size);by_cases he:gAt A of a k=gAt A of b k
   ·have q3:(gAt A of a k==gAt A of b k)=true:=by simpa using he
    have q4:(gAt A of a k != gAt A of b k)=false:=by simp[he]
    have HI2:Hid (∀j,j<k+1->gAt A of a j=gAt A of b j):=fun j hj=>by
     by_cases ej:j=k
     ·subst ej;exact he
     ·exact HI.out j (by omega)
    clear he;go_wp2_with fail;go_roundw
    case rel=>exact⟨k+1,by omega,by go_num,hB2,HI2⟩
    case measure=>simp[intOf];omega
   ·have q3:(gAt A of a k==gAt A of b k)=false:=by simpa using he
    have q4:(gAt A of a k != gAt A of b k)=true:=by simp[he]
    have HR1:Hid (R=false):=by
     show _=_;cases hR:R
     ·rfl
     ·exact absurd (HR2.out.1 hR k hlt) he
    clear he;go_wp2_with fail;go_ret;exact⟨Yj HR1.out.symm,hB2⟩
  ·have hge:¬(k:Int)<(A.K:Int):=by omega
   have HR1:=hyd (HR2.out.2 (fun j hj=>HI.out j (by omega)));go_wp2_with fail;go_ret;exact⟨Yj HR1.out.symm,hW⟩
end Go.Proofs.Ytoaaklhpmhjhkab
namespace Go.Proofs.Ytoaaklhpmhjhkab
open Go.RowKit
structure Mc where
 rules:Int
 cl:Nat->Int
 ncl:Nat
 lb:Nat->Int
 nlb:Nat
 nx:Nat->Int
 nnx:Nat
structure Vj where
 a1:Option Addr
 c1:Nat
 a2:Option Addr
 c2:Nat
 a3:Option Addr
 c3:Nat
def Vj.cells (A:Vj) (M:Mc):Array Value:=#[.int .i64 M.rules,.slice A.a1 M.ncl A.c1,.slice A.a2 M.nlb A.c2,.slice A.a3 M.nnx A.c3]
structure SM (M:Mc) (A:Vj) (w:World):Prop where
 l1:IL A.a1 M.cl M.ncl w
 l2:IL A.a2 M.lb M.nlb w
 l3:IL A.a3 M.nx M.nnx w
variable {M : Mc}{K b : Nat}{w w' : World}
theorem SM.below {A:Vj} (h:SM M A w) (hW:Below w.heap.size w w'):SM M A w':=⟨h.l1.below hW,h.l2.below hW,h.l3.below hW⟩
structure NC (M:Mc):Prop where
 s1:M.ncl+3<=17592186044416
 s2:M.nlb+3<=17592186044416
 s3:M.nnx+3<=17592186044416
structure WT (b:Nat) (M:Mc) (A:Vj) (w:World):Prop where
 c0:w.cell? ⟨b,0,none⟩=some (.int .i64 M.rules)
 c1:w.cell? ⟨b,1,none⟩=some (.slice A.a1 M.ncl A.c1)
 c2:w.cell? ⟨b,2,none⟩=some (.slice A.a2 M.nlb A.c2)
 c3:w.cell? ⟨b,3,none⟩=some (.slice A.a3 M.nnx A.c3)
theorem WT.lt {A:Vj} (h:WT b M A w):b<w.heap.size:=World.block_lt_of_cell? w _ h.c0
theorem WT.blk {A:Vj} (h:WT b M A w) (hb:w'.heap[b]?=w.heap[b]?):WT b M A w':=by
 have e:∀k,w'.cell? ⟨b,k,none⟩=w.cell? ⟨b,k,none⟩:=fun k=>World.cell?_of_block (w:=w) (a:=⟨b,k,none⟩) hb
 exact⟨by rw[e];exact h.c0,by rw[e];exact h.c1,by rw[e];exact h.c2,by rw[e];exact h.c3⟩
theorem WT.below {A:Vj} (h:WT b M A w) (hW:Below w.heap.size w w'):WT b M A w':=h.blk (hW.block b h.lt)
theorem WT.heap {A:Vj} (h:WT b M A w) (hW:w'.heap=w.heap):WT b M A w':=h.blk (by rw[hW])
theorem WT.boxed (M:Mc) (A:Vj) (w:World) (t:TypeId):WT w.heap.size M A (w.alloc (.cells (A.cells M) t)):=by
 refine⟨?_,?_,?_,?_⟩<;>(rw[World.cell?_alloc_new];rfl)
def Mc.k (M:Mc):Nat:=Vo M.cl M.ncl
structure Wc (M:Mc):Prop where
 hd:Hd M.rules M.cl M.ncl M.lb M.nlb
 e:M.nnx=M.nlb*M.k
 b:∀i,i<M.nnx->-1<=M.nx i/\M.nx i<=(M.nlb:Int)-1
theorem Wc.ncl (h:Wc M):M.ncl=256:=by
 have hp:=h.hd.2.2.1;unfold Vo at hp;by_cases e:M.ncl=256
 ·exact e
 ·rw[if_neg e]at hp;omega
theorem Wc.k1 (h:Wc M):1<=M.k/\M.k<=256:=⟨h.hd.2.2.1,Q3 _ _⟩
theorem QL (b:Nat) (M:Mc) (A:Vj) (w:World) (hs:NC M) (h:WT b M A w) (hI:SM M A w):
  Calls Try.prog 62 #[.pointer (some ⟨b,0,none⟩)] w (V8 (Wc M) w):=by
 have m1:M.ncl<=maxLen:=by have:=hs.s1;unfold maxLen;omega
 have m2:M.nlb<=maxLen:=by have:=hs.s2;unfold maxLen;omega
 have m3:M.nnx<=maxLen:=by have:=hs.s3;unfold maxLen;omega
 obtain⟨p1,k1,f1⟩:=VE 67 #[.int .i64 M.rules,.slice A.a1 M.ncl A.c1,.slice A.a2 M.nlb A.c2] _ w (fun w' hw=>SH _ _ _ _ _ _ _ _ _ w' m1 m2 (hI.l1.heapE hw) (hI.l2.heapE hw));have F1:=hyd f1;have F2:Hid (∀w',w'.heap=w.heap->Calls Try.prog 43 #[.slice A.a1 M.ncl A.c1] w' fun e w''=>e=.returned (.int .i64 M.k)/\w''=w'):=fun w' hw=>Xz _ _ _ _ _ m1 (hI.l1.heapE hw)
 have F3:Hid (∀w',w'.heap=w.heap->Calls Try.prog 69 #[.slice A.a3 M.nnx A.c3,.int .i64 (-1),.int .i64 ((M.nlb:Int)-1)] w' (Yf (∀i,i<M.nnx->-1<=M.nx i/\M.nx i<=(M.nlb:Int)-1) w')):=fun w' hw=>VT _ _ _ _ _ _ w' m3 (hI.l3.heapE hw)
 have K1:=hyd k1;have H0:=hyd h;obtain⟨d0,d1,d2,d3⟩:=h;have hk:M.k<=256:=Q3 _ _;unfold maxLen at m1 m2 m3;clear hI f1 k1 hs;generalize hK:M.k=K at *;have HK:=hyd hK;clear hK;go_enter Try.func62,Try.ntmps62;go_wp2_with fail
 go_quiet ((go_at_call 67;exact Calls.quiet_of_same (F1.out _ rfl)))
 have hW1:Below w.heap.size w (w.drewN nq):=XC _ _ _;have HW1:Hid ((w.drewN nq).heap=w.heap):=rfl;have H1':WT b M A (w.drewN nq):=H0.out.heap rfl;generalize w.drewN nq=w1 at *;clear d0 d1 d2 d3;obtain⟨d0,d1,d2,d3⟩:=H1';cases p1
 ·have HN2:Hid (¬Wc M):=fun h=>by have:=K1.out.2 h.hd;cases this
  go_wp2_with fail;go_ret;exact V8.f HN2.out hW1
 have HQ1:=hyd (K1.out.1 rfl);have hl:=HQ1.out.2.1;clear K1;go_wp2_with fail;refine Calls.mono (F2.out _ HW1.out) ?_;rintro e w' ⟨rfl,rfl⟩;obtain⟨p,hp⟩:∃p:Nat,p=M.nlb*K:=⟨_,rfl⟩;have ip:(M.nlb:Int)*(K:Int)=(p:Int):=by rw[hp];simp
 have hpb:p<=96*256:=by rw[hp];exact Nat.mul_le_mul hl.2 hk
 have Hp:=hyd hp;clear hp;by_cases he:M.nnx=p
 ·have q1:((M.nnx:Int)==(p:Int))=true:=by simp[he]
  have q2:((M.nnx:Int) != (p:Int))=false:=by simp[he]
  have He:=hyd he;clear he;go_wp2_with fail;refine Calls.mono (F3.out _ HW1.out) ?_;rintro e w' ⟨p3,rfl,h3,rfl⟩;have H3:=hyd h3;clear h3;go_wp2_with fail;go_ret;exact⟨p3,rfl,⟨fun h=>⟨HQ1.out,by rw[He.out,Hp.out,HK.out],H3.out.1 h⟩,fun h=>H3.out.2 h.b⟩,hW1⟩
 ·have q1:((M.nnx:Int)==(p:Int))=false:=beq_eq_false_iff_ne.2 (by omega);have q2:((M.nnx:Int) != (p:Int))=true:=by simp;omega
  have HN2:Hid (¬Wc M):=fun h=>he (by rw[h.e,HK.out,Hp.out])
  clear he;go_wp2_with fail;go_ret;exact V8.f HN2.out hW1
theorem MX (M:Mc) (A:Vj) (s:Int) (w:World) (hs:NC M) (hI:SM M A w) (h1:-1<=s) (h2:s<M.nlb):
  Calls Try.prog 39 #[.agg (A.cells M),.int .i64 s] w fun e w'=>e=.returned (.int .i64 (if s=-1 then -1 else M.lb s.toNat))/\Below w.heap.size w w':=by
 obtain⟨a1,q1,a2,q2,a3,q3⟩:=A;obtain⟨W,hW⟩:=nam (w.alloc (.cells (Vj.cells ⟨a1,q1,a2,q2,a3,q3⟩ M) 24));have x0:Below w.heap.size w W:=by rw[hW];exact Xu _ _
 have hA:WT w.heap.size M ⟨a1,q1,a2,q2,a3,q3⟩ W:=by rw[hW];exact WT.boxed M _ w _
 have hI2:=hI.below x0;obtain⟨d0,d1,d2,d3⟩:=hA;have HX:=hyd x0;by_cases h:s=-1
 ·subst h;rw[if_pos rfl];have e1:((-1:Int)==-1)=true:=rfl;unfold Vj.cells at hW ⊢;clear hI2 d0 d1 d2 d3 hI hs x0;go_enter Try.func39,Try.ntmps39;go_wp2_with fail;rw[<-hW];go_ret;exact⟨rfl,HX.out⟩
 ·rw[if_neg h];obtain⟨k,rfl⟩:=Int.eq_ofNat_of_zero_le (show 0<=s by omega);rw[Int.toNat_natCast];have hk:k<M.nlb:=by omega
  have e1:((k:Int)==-1)=false:=beq_eq_false_iff_ne.2 (by omega);obtain⟨g,o,hg,hc⟩:=hI2.l2 k hk;have hg':=hg;subst hg';rw[hW]at d0 d1 d2 d3 hc;unfold Vj.cells at hW d0 d1 d2 d3 hc ⊢;clear hI2 hI hs x0;go_enter Try.func39,Try.ntmps39;go_wp2_with fail;rw[<-hW];go_ret;exact⟨rfl,HX.out⟩
theorem IE (M:Mc) (A:Vj) (n:Nat) (w:World) (kn:Nat->Nat) (hs:NC M) (hI:SM M A w) (hn1:1<=n) (hn2:n<=256) (k0:kn 0=1) (ks:∀i,i<M.nnx->kn (i+1)=if M.nx i=(kn i:Int) then kn i+1 else kn i)
  (hle:∀i,i<M.nnx->M.nx i<=kn i) (hrow:∀i,i<M.nnx->i/n<kn i) (hall:kn M.nnx=M.nlb) (hkb:∀i,i<=M.nnx->kn i<=96):
  Calls Try.prog 25 #[.agg (A.cells M),.int .i64 n] w fun e w'=>e=.returned (.bool true)/\Below w.heap.size w w':=by
 obtain⟨a1,q1,a2,q2,a3,q3⟩:=A;obtain⟨W,hW⟩:=nam (w.alloc (.cells (Vj.cells ⟨a1,q1,a2,q2,a3,q3⟩ M) 24));have x0:Below w.heap.size w W:=by rw[hW];exact Xu _ _
 have hA:WT w.heap.size M ⟨a1,q1,a2,q2,a3,q3⟩ W:=by rw[hW];exact WT.boxed M _ w _
 have hsz:=hs.s3;have HI:=hyd (hI.below x0);have HX:=hyd x0;have HA:=hyd hA;have HK:=hyd ks;have HL:=hyd4 hle hrow hall hkb;have Hk0:=hyd k0;have HW:=hyd hW;unfold Vj.cells at HW ⊢;clear hW hA x0 hI hs ks hle hrow hall hkb k0;go_enter Try.func25,Try.ntmps25;go_wp2_with fail;rw[<-HW.out];clear HW
 go_loopw [5,6] (fun x y w'=>∃i:Nat,i<=M.nnx/\x=.int .i64 (kn i)/\y=.int .i64 i/\w'=W) (fun _ y _=>M.nnx-(intOf y).toNat)
 case atStart=>exact⟨0,by omega,by rw[Hk0.out];rfl,rfl,rfl⟩
 case round=>
  obtain⟨i,hi,rfl,rfl,rfl⟩:=hrel;obtain⟨d0,d1,d2,d3⟩:=HA.out;obtain⟨z,hz⟩:=nam (kn i);have hzb:z<=96:=by rw[hz];exact HL.out.2.2.2 i hi
  rw[<-hz];by_cases hlt:i<M.nnx
  ·have hlt':(i:Int)<(M.nnx:Int):=by omega
   obtain⟨g,o,hg,hc⟩:=HI.out.l3 i hlt;have hg':=hg;subst hg';obtain⟨v,hv⟩:=nam (M.nx i);rw[<-hv]at hc;have hvz:v<=z:=by rw[hv,hz];exact HL.out.1 i hlt
   obtain⟨q,hq⟩:=nam (i/n);have hqz:q<z:=by rw[hq,hz];exact HL.out.2.1 i hlt
   have hqt:(i:Int).tdiv (n:Int)=(q:Int):=by rw[Int.tdiv_eq_ediv_of_nonneg (by omega),hq];rfl
   have t1:¬(z:Int)<=q:=by omega
   have t2:¬(z:Int)<v:=by omega
   have Hks:Hid (kn (i+1)=if v=(z:Int) then z+1 else z):=by show _=_;rw[HK.out i hlt,hv,hz]
   clear hz hv hq;by_cases he:v=(z:Int)
   ·have he':(v==(z:Int))=true:=by simpa using he
    have Hn:Hid (kn (i+1)=z+1):=by show _=_;rw[Hks.out,if_pos he]
    clear Hks;go_wp2_with fail;go_roundw
    case rel=>exact⟨i+1,by omega,by rw[Hn.out];go_num,by go_num,by first|rfl|trivial⟩
    case measure=>simp[intOf];omega
   ·have he':(v==(z:Int))=false:=by simpa using he
    have Hn:Hid (kn (i+1)=z):=by show _=_;rw[Hks.out,if_neg he]
    clear Hks;go_wp2_with fail;go_roundw
    case rel=>exact⟨i+1,by omega,by rw[Hn.out],by go_num,by first|rfl|trivial⟩
    case measure=>simp[intOf];omega
  ·have hlt':¬(i:Int)<(M.nnx:Int):=by omega
   have hin:i=M.nnx:=by omega
   have hzl:z=M.nlb:=by rw[hz,hin];exact HL.out.2.2.1
   have he':((z:Int)==(M.nlb:Int))=true:=by rw[hzl];simp
   clear hz;go_wp2_with fail;go_ret;exact⟨rfl,HX.out⟩
theorem MM {f:Nat->Int} (h:Yq f 256=some K) {b n:Nat} (hb:b<256) (hn:Yq f b=some n):0<=f b/\f b<=n/\Yq f (b+1)=some (if f b=n then n+1 else n):=by
 have h1:Yq f (b+1)≠none:=fun e=>by
  have:=T8 e (255-b);rw[show b+1+(255-b)=256 by omega,h]at this;cases this
 rw[Yq,hn]at h1 ⊢;simp only at h1 ⊢;by_cases h2:f b<0\/(n:Int)<f b
 ·rw[if_pos h2]at h1;exact absurd rfl h1
 ·rw[if_neg h2];refine⟨by omega,by omega,?_⟩;by_cases h3:f b=n
  ·rw[if_pos h3,if_pos h3]
  ·rw[if_neg h3,if_neg h3]
theorem G5 (M:Mc) (A:Vj) (w:World) (hS:Wc M) (hI:SM M A w):
  Calls Try.prog 24 #[.agg (A.cells M),.int .i64 M.rules] w fun e w'=>e=.returned (.tuple #[.int .i64 M.k,.bool true])/\Below w.heap.size w w':=by
 obtain⟨a1,q1,a2,q2,a3,q3⟩:=A;have hl:=hS.hd.2.1;have hnc:=hS.ncl;have hk:=hS.k1;obtain⟨r,hr⟩:=nam M.rules;obtain⟨p,hp⟩:∃p:Nat,p=M.nnx:=⟨_,rfl⟩;have hrb:=hS.hd.1;rw[<-hr]at hrb;have eC:Vj.cells ⟨a1,q1,a2,q2,a3,q3⟩ M=#[.int .i64 r,.slice a1 256 q1,.slice a2 M.nlb q2,.slice a3 p q3]:=by unfold Vj.cells;rw[<-hr,hnc,<-hp]
 obtain⟨W,hW⟩:=nam (w.alloc (.cells #[.int .i64 r,.slice a1 256 q1,.slice a2 M.nlb q2,.slice a3 p q3] 24));have x0:Below w.heap.size w W:=by rw[hW];exact Xu _ _
 have hA:WT w.heap.size M ⟨a1,q1,a2,q2,a3,q3⟩ W:=by rw[hW,<-eC];exact WT.boxed M _ w _
 have HI:=hyd (hI.below x0);have HX:=hyd x0;have HF:Hid (∀w',w'.heap=W.heap->w'.cell? ⟨w.heap.size,2,none⟩=some (.slice a2 M.nlb q2)/\w'.cell? ⟨w.heap.size,3,none⟩=some (.slice a3 p q3)/\IL a3 M.nx M.nnx w'):=fun w' hw=>⟨(hA.heap hw).c2,by rw[hp];exact(hA.heap hw).c3,(hI.below x0).l3.heapE hw⟩
 have d0:W.cell? ⟨w.heap.size,0,none⟩=some (.int .i64 r):=by rw[hr];exact hA.c0
 have d1:W.cell? ⟨w.heap.size,1,none⟩=some (.slice a1 256 q1):=by have:=hA.c1;rw[hnc]at this;exact this
 have d2:=hA.c2;have d3:W.cell? ⟨w.heap.size,3,none⟩=some (.slice a3 p q3):=by rw[hp];exact hA.c3
 have HD:=hyd3 d1 d2 d3;have hC:Yq M.cl 256=some M.k:=by
  have h1:=hS.hd.2.2.1;unfold Mc.k;unfold Vo at h1 ⊢;rw[if_pos hnc]at h1 ⊢;cases h:Yq M.cl 256 with
  |none=>rw[h]at h1;simp at h1
  |some v=>rfl
 have HC:=hyd hC;have HLb:Hid (∀i,i<M.nlb->-1<=M.lb i/\M.lb i<=r-1):=by show ∀i,_->_;rw[hr];exact hS.hd.2.2.2
 have HNx:=hyd hS.b;have ip:(M.k:Int)*(M.nlb:Int)=(p:Int):=by rw[hp,hS.e,Nat.mul_comm];simp
 have hpb:p<=24576:=by rw[hp,hS.e];exact Nat.mul_le_mul hl.2 hk.2
 have HW:=hyd hW;rw[eC,<-hr];have e2:¬(M.nlb:Int)<1:=by omega
 have e3:¬(96:Int)<(M.nlb:Int):=by omega
 rw[hW]at d0 d1 d2 d3;have Hp:=hyd hp;have Hnc:=hyd hnc;generalize hK:M.k=K at *;have HK:=hyd hK;clear hp hr hW x0 hI hS hC hnc eC hA hK;go_enter Try.func24,Try.ntmps24;go_wp2_with fail;rw[<-HW.out];clear HW d0 d1 d2 d3
 go_loopw [6,7] (fun x y w'=>∃b n:Nat,b<=256/\n<=b/\x=.int .i64 n/\y=.int .i64 b/\Hid (Yq M.cl b=some n)/\w'=W) (fun _ y _=>256-(intOf y).toNat)
 case atStart=>exact⟨0,0,by omega,by omega,rfl,rfl,rfl,rfl⟩
 case round=>
  obtain⟨b,n,hb,hnb,rfl,rfl,HT,rfl⟩:=hrel;obtain⟨d1,d2,d3⟩:=HD.out;by_cases hlt:b<256
  ·have hlt':(b:Int)<256:=by omega
   obtain⟨g,o,hg,hc⟩:=HI.out.l1 b (by rw[Hnc.out];exact hlt);have hg':=hg;subst hg';obtain⟨s1,s2,s3⟩:=MM HC.out hlt HT.out;obtain⟨v,hv⟩:=nam (M.cl b);rw[<-hv]at hc s1 s2 s3;have HS3:=hyd s3;have t1:¬v<0:=by omega
   have t2:¬(n:Int)<v:=by omega
   clear hv s3 HT;by_cases he:v=(n:Int)
   ·have he':(v==(n:Int))=true:=by simpa using he
    have Hn:Hid (Yq M.cl (b+1)=some (n+1)):=by show _=_;rw[HS3.out,if_pos he]
    clear HS3;go_wp2_with fail;go_roundw
    case rel=>exact⟨b+1,n+1,by omega,by omega,by go_num,by go_num,Hn,by first|rfl|trivial⟩
    case measure=>simp[intOf];omega
   ·have he':(v==(n:Int))=false:=by simpa using he
    have Hn:Hid (Yq M.cl (b+1)=some n):=by show _=_;rw[HS3.out,if_neg he]
    clear HS3;go_wp2_with fail;go_roundw
    case rel=>exact⟨b+1,n,by omega,by omega,rfl,by go_num,Hn,by first|rfl|trivial⟩
    case measure=>simp[intOf];omega
  ·have hlt':¬(b:Int)<256:=by omega
   have hb2:b=256:=by omega
   subst hb2;have hnk:n=K:=by
    have:=HT.out;rw[HC.out]at this;exact(Option.some.inj this).symm
   subst hnk;clear HT HC;go_wp2_with fail
   go_loopw [8] (fun x w'=>∃s:Nat,s<=M.nlb/\x=.int .i64 s/\w'=wr) (fun x _=>M.nlb-(intOf x).toNat)
   case atStart=>exact⟨0,by omega,rfl,rfl⟩
   case round=>
    obtain⟨s,hs,rfl,rfl⟩:=hrel;by_cases hls:s<M.nlb
    ·have hls':(s:Int)<(M.nlb:Int):=by omega
     obtain⟨g,o,hg,hc⟩:=HI.out.l2 s hls;have hg':=hg;subst hg';have hv:=HLb.out s hls;obtain⟨v,hv2⟩:=nam (M.lb s);rw[<-hv2]at hc hv;have t1:¬v < -1:=by omega
     have t2:¬r<=v:=by omega
     clear hv2;go_wp2_with fail;go_roundw
     case rel=>exact⟨s+1,by omega,by go_num,by first|rfl|trivial⟩
     case measure=>simp[intOf];omega
    ·have hls':¬(s:Int)<(M.nlb:Int):=by omega
     have q1:((p:Int)==(p:Int))=true:=by simp
     go_wp2_with fail;clear d1 d2 d3
     go_loopw [9] (fun x w'=>∃i:Nat,i<=p/\x=.int .i64 i/\w'.heap=wr.heap/\Below w.heap.size w w') (fun x _=>p-(intOf x).toNat)
     case atStart=>exact⟨0,by omega,rfl,rfl,HX.out⟩
     case round=>
      obtain⟨i,hi,rfl,hwr,hBr⟩:=hrel;obtain⟨c2,c3,hil⟩:=HF.out _ hwr;by_cases hli:i<p
      ·have hli':(i:Int)<p:=by omega
       obtain⟨g,o,hg,hc⟩:=hil i (by rw[<-Hp.out];exact hli);subst hg;have hv:=HNx.out i (by rw[<-Hp.out];exact hli);obtain⟨v,hv2⟩:=nam (M.nx i);rw[<-hv2]at hc hv;have t1:¬v < -1:=by omega
       have t2:¬(M.nlb:Int)<=v:=by omega
       have Hh:=hyd hwr;clear hv2 hwr hil;go_wp2_with fail
       go_quiet (fail)
       go_wp2_with fail;go_roundw
       case rel=>exact⟨i+1,by omega,by go_num,Hh.out,hBr.trans (XC _ _ _)⟩
       case measure=>simp[intOf];omega
      ·have hli':¬(i:Int)<p:=by omega
       clear hwr hil;go_wp2_with fail;go_ret2;exact⟨rfl,hBr⟩
theorem ID (M:Mc) (A:Vj) (n:Nat) (w:World) (hs:NC M) (hI:SM M A w) (hn1:1<=n) (hn2:n<=256) (hl:M.nlb<=96) (he:M.nnx=M.nlb*n)
  (hcol:∀c d,d<c->c<n->∃s,s<M.nlb/\M.nx (s*n+c)≠M.nx (s*n+d)):
  Calls Try.prog 26 #[.agg (A.cells M),.int .i64 n] w fun e w'=>e=.returned (.bool true)/\Below w.heap.size w w':=by
 obtain⟨a1,q1,a2,q2,a3,q3⟩:=A;obtain⟨p,hp⟩:∃p:Nat,p=M.nnx:=⟨_,rfl⟩;have hpb:p<=24576:=by rw[hp,he];exact Nat.mul_le_mul hl hn2
 have eC:Vj.cells ⟨a1,q1,a2,q2,a3,q3⟩ M=#[.int .i64 M.rules,.slice a1 M.ncl q1,.slice a2 M.nlb q2,.slice a3 p q3]:=by unfold Vj.cells;rw[<-hp]
 obtain⟨W,hW⟩:=nam (w.alloc (.cells #[.int .i64 M.rules,.slice a1 M.ncl q1,.slice a2 M.nlb q2,.slice a3 p q3] 24));have x0:Below w.heap.size w W:=by rw[hW];exact Xu _ _
 have hA:WT w.heap.size M ⟨a1,q1,a2,q2,a3,q3⟩ W:=by rw[hW,<-eC];exact WT.boxed M _ w _
 have HX:=hyd x0;have HF:Hid (∀w',w'.heap=W.heap->w'.cell? ⟨w.heap.size,2,none⟩=some (.slice a2 M.nlb q2)/\w'.cell? ⟨w.heap.size,3,none⟩=some (.slice a3 p q3)/\IL a3 M.nx M.nnx w'):=fun w' hw=>⟨(hA.heap hw).c2,by rw[hp];exact(hA.heap hw).c3,(hI.below x0).l3.heapE hw⟩
 have HCol:=hyd hcol;have He:=hyd he;have Hp:=hyd hp;have HW:=hyd hW;rw[eC];clear hW x0 hA hI hcol he hp eC hs;go_enter Try.func26,Try.ntmps26;go_wp2_with fail;rw[<-HW.out];clear HW
 go_loopw [5] (fun x w'=>∃c:Nat,c<=n/\x=.int .i64 c/\w'.heap=W.heap/\Below w.heap.size w w') (fun x _=>n-(intOf x).toNat)
 case atStart=>exact⟨0,by omega,rfl,rfl,HX.out⟩
 case round=>
  obtain⟨c,hc,rfl,hh,hB⟩:=hrel;by_cases hlt:c<n
  ·have hlt':(c:Int)<n:=by omega
   have Hh:=hyd hh;have HB:=hyd hB;clear hh hB;go_wp2_with fail
   go_loopw [6] (fun x w'=>∃d:Nat,d<=c/\x=.int .i64 d/\w'.heap=W.heap/\Below w.heap.size w w') (fun x _=>c-(intOf x).toNat)
   case atStart=>exact⟨0,by omega,rfl,Hh.out,HB.out⟩
   case round=>
    clear Hh HB;obtain⟨d,hd,rfl,hh,hB⟩:=hrel;by_cases hdc:d<c
    ·have hdc':(d:Int)<c:=by omega
     have Hh:=hyd hh;have HB:=hyd hB;clear hh hB;go_wp2_with fail
     go_loopw [7,8] (fun x y w'=>∃(s:Nat) (b:Bool),s<=M.nlb/\x=.bool b/\y=.int .i64 s/\Hid (b=true->∀j,j<s->M.nx (j*n+c)=M.nx (j*n+d))/\w'.heap=W.heap/\Below w.heap.size w w') (fun _ y _=>M.nlb-(intOf y).toNat)
     case atStart=>exact⟨0,true,by omega,rfl,rfl,fun _ j hj=>by omega,Hh.out,HB.out⟩
     case round=>
      clear Hh HB;obtain⟨s,b,hs,rfl,rfl,HJ,hh,hB⟩:=hrel;obtain⟨f2,f3,hil⟩:=HF.out _ hh;have Hh:=hyd hh;clear hh;by_cases hsl:s<M.nlb
      ·have hsl':(s:Int)<(M.nlb:Int):=by omega
       cases b
       ·have HJ2:Hid (false=true->∀j,j<s+1->M.nx (j*n+c)=M.nx (j*n+d)):=fun h=>by cases h
        clear HJ hil;go_wp2_with fail
        go_quiet (fail)
        go_wp2_with fail;go_roundw
        case rel=>exact⟨s+1,false,by omega,rfl,by go_num,HJ2,Hh.out,hB.trans (XC _ _ _)⟩
        case measure=>simp[intOf];omega
       ·obtain⟨m,hm⟩:∃m:Nat,m=s*n:=⟨_,rfl⟩;have im:(s:Int)*(n:Int)=(m:Int):=by rw[hm];simp
        have hmn:m+n<=p:=by rw[hm,Hp.out,He.out,<-Nat.succ_mul];exact Nat.mul_le_mul_right _ hsl
        obtain⟨x,hx⟩:∃x:Nat,x=m+c:=⟨_,rfl⟩;obtain⟨y,hy⟩:∃y:Nat,y=m+d:=⟨_,rfl⟩;have ix:(m:Int)+(c:Int)=(x:Int):=by omega
        have iy:(m:Int)+(d:Int)=(y:Int):=by omega
        have hxp:(x:Int)<p:=by omega
        have hyp:(y:Int)<p:=by omega
        obtain⟨g,o,hg,hcx⟩:=hil x (by rw[<-Hp.out];omega);obtain⟨g',o',hg',hcy⟩:=hil y (by rw[<-Hp.out];omega);subst hg;cases hg';have hJx:M.nx (s*n+c)=M.nx x:=by rw[hx,hm]
        have hJy:M.nx (s*n+d)=M.nx y:=by rw[hy,hm]
        obtain⟨v,hv⟩:=nam (M.nx x);obtain⟨v',hv'⟩:=nam (M.nx y);rw[<-hv]at hcx hJx;rw[<-hv']at hcy hJy;by_cases hq:v=v'
        ·have hq':(v==v')=true:=by simpa using hq
         have HJ2:Hid (true=true->∀j,j<s+1->M.nx (j*n+c)=M.nx (j*n+d)):=fun _ j hj=>by
          by_cases e:j=s
          ·subst e;rw[hJx,hJy,hq]
          ·exact HJ.out rfl j (by omega)
         clear HJ hil hv hv' hJx hJy hx hy hm hq;go_wp2_with fail
         go_quiet (fail)
         go_wp2_with fail;go_roundw
         case rel=>exact⟨s+1,true,by omega,rfl,by go_num,fun _=>HJ2.out (by trivial),Hh.out,hB.trans (XC _ _ _)⟩
         case measure=>simp[intOf];omega
        ·have hq':(v==v')=false:=by simpa using hq
         have HJ2:Hid (false=true->∀j,j<s+1->M.nx (j*n+c)=M.nx (j*n+d)):=fun h=>by cases h
         clear HJ hil hv hv' hJx hJy hx hy hm hq;go_wp2_with fail
         go_quiet (fail)
         go_wp2_with fail;go_roundw
         case rel=>exact⟨s+1,false,by omega,rfl,by go_num,HJ2,Hh.out,hB.trans (XC _ _ _)⟩
         case measure=>simp[intOf];omega
      ·have hsl':¬(s:Int)<(M.nlb:Int):=by omega
       cases b
       ·clear HJ hil;go_wp2_with fail;go_roundw
        case rel=>exact⟨d+1,by omega,by go_num,Hh.out,hB⟩
        case measure=>simp[intOf];omega
       ·obtain⟨j,hj1,hj2⟩:=HCol.out c d hdc hlt;exact absurd (HJ.out rfl j (by omega)) hj2
    ·have hdc':¬(d:Int)<c:=by omega
     have Hh:=hyd hh;clear hh;go_wp2_with fail;go_roundw
     case rel=>exact⟨c+1,by omega,by go_num,Hh.out,hB⟩
     case measure=>simp[intOf];omega
  ·have hlt':¬(c:Int)<n:=by omega
   clear hh;go_wp2_with fail;go_ret;exact⟨rfl,hB⟩
theorem JY (r:Nat) (h:r<4294967296):4294967295 ^^^ r=4294967295-r:=by
 apply Nat.eq_of_testBit_eq;intro i;rw[Nat.testBit_xor,show(4294967295:Nat)=2 ^ 32-1 from rfl,Nat.testBit_two_pow_sub_one,show 2 ^ 32-1-r=2 ^ 32-(r+1) by omega,Nat.testBit_two_pow_sub_succ (by omega)];by_cases hi:i<32
 ·simp[hi]
 ·have:r.testBit i=false:=Nat.testBit_lt_two_pow (Nat.lt_of_lt_of_le h (by
   have:2 ^ 32<=2 ^ i:=Nat.pow_le_pow_right (by omega) (by omega);simpa using this))
  simp[hi,this]
theorem NJ (w:World) (o:Obj):Below w.heap.size w (w.alloc o):=(Below.refl _ _).alloc (Nat.le_refl _) o
theorem KI (s:ByteArray) (w:World) (hs:s.size<=1000000):
  Calls Try.prog 72 #[.string s] w fun e w'=>e=.returned (.int .u32 (Lk s.data.toList))/\w'=w:=by
 have hl:s.data.toList.length=s.size:=by simp
 go_enter Try.func72,Try.ntmps72;go_wp2_with fail
 go_loop [3,8] (fun x i=>∃k r:Nat,k<=s.size/\i=.int .i64 k/\x=.int .u32 r/\r<4294967296/\Hid (r=LL s.data.toList (8*k))) (fun _ i=>s.size-(intOf i).toNat)
 case atStart=>exact⟨0,4294967295,by omega,rfl,rfl,by omega,rfl⟩
 case round=>
  obtain⟨k,r,hk,rfl,rfl,hr,HR⟩:=hrel;by_cases hlt:k<s.size
  ·have hlt':(k:Int)<(s.size:Int):=by omega
   have HB:Hid (s.data.toList[k]'(by omega)=s[k]):=rfl;go_wp2_with fail;have hb:=s[k].toNat_lt
   go_loop [3,18] (fun x i=>∃j y:Nat,j<=8/\i=.int .i64 j/\x=.int .u32 y/\y<4294967296/\Hid (y=LL s.data.toList (8*k+j) ^^^ XR s[k] j)) (fun _ i=>8-(intOf i).toNat)
   case atStart=>
    refine⟨0,r ^^^ XR s[k] 0,by omega,rfl,?_,?_,?_⟩
    ·have e:((s[k].toNat:Int)%4294967296*16777216%4294967296)=((XR s[k] 0:Nat):Int):=by rw[Oj];omega
     rw[e,u32_xor_nat r _ hr (Qg _ _)]
    ·have:r ^^^ XR s[k] 0<2 ^ 32:=Nat.xor_lt_two_pow (by omega) (by have:=Qg s[k] 0;omega);omega
    ·show _=_;rw[HR.out];rfl
   case round=>
    obtain⟨j,y,hj,rfl,rfl,hy,HY⟩:=hrel;by_cases hjl:j<8
    ·have hjl':(j:Int)<8:=by omega
     have HST:Hid (VX y=LL s.data.toList (8*k+(j+1)) ^^^ XR s[k] (j+1)):=by
      show _=_;have:=KK s.data.toList k j (by omega) hjl;rw[show s.data.toList[k]=s[k] from HB.out]at this;rw[HY.out];exact this
     by_cases hh:2147483648<=y
     ·have q1:((y:Int)/2147483648==1)=true:=by simp;omega
      have HC:=MO hh hy;rw[HST.out]at HC;have HC2:Hid (LL s.data.toList (8*k+(j+1)) ^^^ XR s[k] (j+1)=(2*y%4294967296) ^^^ 79764919):=HC;clear HC HST hh;go_wp2_with fail
      go_round
      case rel=>
       refine⟨j+1,(2*y%4294967296) ^^^ 79764919,by omega,by go_num,?_,?_,HC2.out.symm⟩
       ·have e:((y:Int)*2%4294967296)=((2*y%4294967296:Nat):Int):=by omega
        rw[e];exact congrArg _ (u32_xor_nat (2*y%4294967296) 79764919 (by omega) (by omega))
       ·have:(2*y%4294967296) ^^^ 79764919<2 ^ 32:=Nat.xor_lt_two_pow (by omega) (by omega);omega
      case measure=>simp[intOf];omega
     ·have q1:((y:Int)/2147483648==1)=false:=by simp;omega
      have HC:=MP (show y<2147483648 by omega);rw[HST.out]at HC;have HC2:Hid (LL s.data.toList (8*k+(j+1)) ^^^ XR s[k] (j+1)=2*y%4294967296):=HC;clear HC HST hh;go_wp2_with fail
      go_round
      case rel=>
       refine⟨j+1,2*y%4294967296,by omega,by go_num,?_,by omega,HC2.out.symm⟩;have e:((y:Int)*2%4294967296)=((2*y%4294967296:Nat):Int):=by omega
       rw[e]
      case measure=>simp[intOf];omega
    ·have hge:¬(j:Int)<8:=by omega
     have hj8:j=8:=by omega
     subst hj8;have HZ:Hid (y=LL s.data.toList (8*(k+1))):=by show _=_;rw[HY.out,KJ]
     clear HY;go_wp2_with fail
     go_round
     case rel=>exact⟨k+1,y,by omega,by go_num,rfl,hy,HZ.out⟩
     case measure=>simp[intOf];omega
  ·have hge:¬(k:Int)<(s.size:Int):=by omega
   have hkn:k=s.size:=by omega
   have HE:Hid ((Lk s.data.toList:Int)=4294967295-(r:Int)):=by
    show _=_;rw[Lk,hl,<-hkn,<-HR.out];omega
   clear HR;go_wp2_with fail;go_ret;refine⟨?_,rfl⟩;show Ending.returned (.int .u32 (bits .xor .u32 IntKind.u32.max (r:Int)))=_;rw[HE.out,show IntKind.u32.max=((4294967295:Nat):Int) from rfl,u32_xor_nat 4294967295 r (by omega) hr,JY r hr,Int.ofNat_sub (by omega)];rfl
theorem Kw (s:ByteArray) (w:World) (hs:s.size<=1000000):
  Calls Try.prog 49 #[.string s] w fun e w'=>e=.returned (.string ⟨(OY s.data.toList).toArray⟩)/\Below w.heap.size w w':=by
 have HS:Hid (Calls Try.prog 72 #[.string s] w fun e w'=>e=.returned (.int .u32 (Lk s.data.toList))/\w'=w):=KI s w hs;have HL:Hid (OY s.data.toList=[YP ((Lk s.data.toList/16777216:Nat):Int),YP ((Lk s.data.toList/65536:Nat):Int),YP ((Lk s.data.toList/256:Nat):Int),YP ((Lk s.data.toList:Nat):Int)]):=rfl;generalize OY s.data.toList=L at *;generalize Lk s.data.toList=c at *;have hconv:(convert 78 9 (.slice (some ⟨w.heap.size,0,none⟩) 4 4)).run Try.prog (w.alloc (.cells #[.int .u8 ((c:Int)/16777216%256),.int .u8 ((c:Int)/65536%256),.int .u8 ((c:Int)/256%256),.int .u8 ((c:Int)%256)] 5))=.ok (.string ⟨L.toArray⟩) (w.alloc (.cells #[.int .u8 ((c:Int)/16777216%256),.int .u8 ((c:Int)/65536%256),.int .u8 ((c:Int)/256%256),.int .u8 ((c:Int)%256)] 5)):=by
  have hL:L.length=4:=by rw[HL.out];rfl
  have:=run_convert_bytes_back (P:=Try.prog) (w.alloc (.cells #[.int .u8 ((c:Int)/16777216%256),.int .u8 ((c:Int)/65536%256),.int .u8 ((c:Int)/256%256),.int .u8 ((c:Int)%256)] 5)) 78 9 5 ⟨w.heap.size,0,none⟩ 4 L Try.underlying78 Try.underlying5 Try.underlying9 (fun j hj=>by
   rw[Addr.add_lit,Nat.zero_add,World.cell?_alloc_new];have hj':j<4:=by omega
   have HLo:=HL.out;subst HLo;rcases j with _|_|_|_|j
   ·simp[WV]
   ·simp[WV]
   ·simp[WV]
   ·simp[WV]
   ·omega)
  rw[hL]at this;exact this
 go_enter Try.func49,Try.ntmps49;go_wp2_with fail;refine HS.out.mono ?_;rintro e w ⟨rfl,rfl⟩;go_wp2_with fail;go_ret;exact⟨rfl,NJ _ _⟩
end Go.Proofs.Ytoaaklhpmhjhkab
