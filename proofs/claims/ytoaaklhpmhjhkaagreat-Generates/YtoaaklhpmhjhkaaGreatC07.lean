import Derived.StillTailTactics
import Derived.Test.YtoaaklhpmhjhkaaGreatC04
set_option maxRecDepth 100000
set_option maxHeartbeats 4000000
set_option linter.all false
namespace Go.Proofs.YtoaaklhpmhjhkaaGreat
open Go.RowKit
open Bm
variable {a:Act}{ops:Array Oper}{rest:List Oper}{P:Nat}{f:N_}{bh:Nat->N_}{op:Oper}{ba:Option Addr}{W W' w w':World}
theorem Vv {P:Program}{Q:Act->Prop} (hw:Region.wanted op (yielded ops a.tmps)=true) (y:TypeId) (x:Operand) (Y:op.op=.load y x)
  (b o:Nat) (hx:a.eval x=.pointer (some (a_ b o))) (cs:List Value) (d:TypeDesc) (z:w.rangeAt b o cs)
  (Z:P.underlying y=some d) (H:d.isRow=true) (J:(P.info? y).map (·.size)=some cs.length)
  (h:wpStill P ops w Q rest (a.put op.dst (.agg cs.toArray))):wpStill P ops w Q (op::rest) a:=
 wpStill_step λK c=>by
  rw[if_pos hw];unfold Oper.still execOp;simp only[Y,hx,Instr.loadAt,Instr.sureAddr,Sem.run_bind,Sem.run_pure,Zu,ZF w b o y cs d z Z H J];exact⟨rfl,c _ h⟩
def BH (ba:Option Addr) (bh:Nat->Nat->Bool) (P:Nat) (w:World):Prop:=∀p,p<P->∃blk off,ba=some ⟨blk,off,none⟩/\w.rangeAt blk (off+p*104) (bl (bh p) 104)
theorem BH.below (h:BH ba bh P w) (y:Bl w w'):BH ba bh P w':=λp c=>by
 obtain⟨blk,a,e,b⟩:=h p c;refine⟨blk,a,e,λj v d=>?_⟩;have:=b j v d;rw[y.cell (p:=(a_ blk (a+p*104+j))) (Ze w _ this)];exact this
def Yh (hs bh:Nat->Nat->Bool) (f:Nat->Bool) (b:Nat) (n q:Nat):Bool:=(List.range n).any λp=>f p&&hs p b&&bh p q
theorem Ru (hs bh:Nat->N_) (f:N_) (b n q:Nat):Yh hs bh f b (n+1) q=(Yh hs bh f b n q || (f n&&hs n b&&bh n q)):=by
 simp[Yh,ZT]
structure AF (w:World) (f c:Nat->Bool) (W:World):Prop where
 n:TC w.heap.size (bl f 104) W
 z:TC (w.heap.size+1) (bl (fun _=>false) 104) W
 a:TC (w.heap.size+2) (bl c 104) W
 b:Below w.heap.size w W
theorem AF.below {c:N_} (h:AF w f c W) (y:Bl W W'):AF w f c W':=
 ⟨h.n.block (y.block _ h.n.ltB),h.z.block (y.block _ h.z.ltB),h.a.block (y.block _ h.a.ltB),h.b.trans (y.mono h.b.size)⟩
theorem FV (nb:Nat) (ha:Option Addr) (hc P:Nat) (hs:Nat->N_) (ba:Option Addr) (bc:Nat) (bh:Nat->N_) (f:N_) (b:Nat) (w:World) (hP:P<=96) (hb:b<256)
  (ab:w.cell? (a_ nb 0)=some (.slice ha P hc)) (ac:w.cell? (a_ nb 1)=some (.slice ba P bc)) (hH:HS ha hs P w) (hB:BH ba bh P w):
  Cp 128 #[pT nb,.agg (bl f 104).toArray,.int .u8 b] w λe w'=>e=.returned (.agg (bl (Yh hs bh f b P) 104).toArray)/\Bl w w':=by
 have hz:=SI;have aa:(b:Int)<256:=by omega
 have HN:Hid (∀w',Bl w w'->w'.cell? (a_ nb 0)=some (.slice ha P hc)/\w'.cell? (a_ nb 1)=some (.slice ba P bc)/\HS ha hs P w'/\BH ba bh P w'):=λw' N=>by
  have e:∀k,w'.cell? (a_ nb k)=w.cell? (a_ nb k):=λk=>N.cell (p:=(a_ nb k)) (Ze w (a_ nb 0) ab)
  exact⟨by rw[e];exact ab,by rw[e];exact ac,hH.below N,hB.below N⟩
 clear ab ac hH hB;obtain⟨W,H⟩:=nam (((w.alloc (.cells (bl f 104).toArray 135)).alloc (.cells (bl (λ_=>false) 104).toArray 135)).alloc (.cells (bl (λ_=>false) 104).toArray 135));have S0:AF w f (Yh hs bh f b 0) W:=by
  have h1:(w.alloc (.cells (bl f 104).toArray 135)).heap.size=w.heap.size+1:=by simp
  have h2:((w.alloc (.cells (bl f 104).toArray 135)).alloc (.cells (bl (λ_=>false) 104).toArray 135)).heap.size=w.heap.size+2:=by simp
  have X:=TC.boxed w (bl f 104) 135;have Y:=TC.boxed (w.alloc (.cells (bl f 104).toArray 135)) (bl (λ_=>false) 104) 135;have Z:=TC.boxed ((w.alloc (.cells (bl f 104).toArray 135)).alloc (.cells (bl (λ_=>false) 104).toArray 135)) (bl (λ_=>false) 104) 135;rw[h1]at Y;rw[h2,<-H]at Z;have x1:=box_bel w (.cells (bl f 104).toArray 135);have x2:=box_bel (w.alloc (.cells (bl f 104).toArray 135)) (.cells (bl (λ_=>false) 104).toArray 135);have x3:=box_bel ((w.alloc (.cells (bl f 104).toArray 135)).alloc (.cells (bl (λ_=>false) 104).toArray 135)) (.cells (bl (λ_=>false) 104).toArray 135);rw[<-H]at x3;exact⟨(X.block (x2.block _ X.ltB)).block (x3.block _ (by omega)),Y.block (x3.block _ (by omega)),Z,(x1.trans (x2.mono (by omega))).trans (x3.mono (by omega))⟩
 go_enter Tryz.func128,Tryz.ntmps128;go_wp2;rw[<-H];clear H
 go_loopw [8] (λx w'=>∃p:Nat,p<=P/\x=I6 p/\AF w f (Yh hs bh f b p) w') (λx _=>P-(intOf x).toNat)
 ·exact⟨0,by omega,rfl,S0⟩
 clear S0;obtain⟨p,hp,rfl,S⟩:=hrel;obtain⟨c0,c1,hH,hB⟩:=HN.out wr S.b;by_cases D:p<P
 ·have⟨hlt',hp96⟩:(p:Int)<P/\(p:Int)<96:=by omega
  have cf:=(S.n p _ (YO _ (by omega))).1;obtain⟨g1,o1,e1,k1⟩:=hH p b D hb;subst e1;obtain⟨g2,o2,e2,J⟩:=hB p D;have G:∀q,Yh hs bh f b (p+1) q=(Yh hs bh f b p q || (f p&&hs p b&&bh p q)):=λq=>Ru _ _ _ _ _ _
  have h:=hyd G;clear hH hB G;obtain⟨x,R⟩:=nam (f p);obtain⟨y,T⟩:=nam (hs p b);rw[<-R,<-T]at h;rw[<-R]at cf;rw[<-T]at k1;clear R T;cases x
  ·have l:bl (Yh hs bh f b (p+1)) 104=bl (Yh hs bh f b p) 104:=YU (λq _=>by rw[h.out q];simp);have S2:AF w f (Yh hs bh f b (p+1)) wr:=⟨S.n,S.z,by rw[l];exact S.a,S.b⟩;clear l;clear S J;go_wp2;go_roundw
   ·exact⟨p+1,by omega,by go_num,S2⟩
   simp[intOf];omega
  cases y
  ·have l:bl (Yh hs bh f b (p+1)) 104=bl (Yh hs bh f b p) 104:=YU (λq _=>by rw[h.out q];simp);have S2:AF w f (Yh hs bh f b (p+1)) wr:=⟨S.n,S.z,by rw[l];exact S.a,S.b⟩;clear l;clear S J;go_wp2;go_roundw
   ·exact⟨p+1,by omega,by go_num,S2⟩
   simp[intOf];omega
  subst e2;have F:=S.a.range;have t:=hyd S;clear S;go_wp2;refine wp_region_still_tail 8 (by kernel_rfl) (by kernel_rfl) ?_;simp only[ZK,List.take_zero,ZL,Zw];change wpStill _ _ wr.drew (λa'=>wpList _ _ _ _ a' wr.drew) _ _;refine Vv rfl 135 _ rfl (w.heap.size+2) 0 rfl (bl (Yh hs bh f b p) 104) _ (λj v s=>F j v s) u_d rfl (by rw[Y9];exact Yw) ?_
  repeat still_step
  refine Vv rfl 135 _ rfl g2 (o2+p*104) rfl (bl (bh p) 104) _ (λj v s=>J j v s) u_d rfl (by rw[Y9];exact Yw) ?_;refine wpStill_nil ?_;have V:=t.out.below (Zk _ _).drew;have U:Hid (Cp 175 #[.agg (bl (Yh hs bh f b p) 104).toArray,.agg (bl (bh p) 104).toArray] wr.drew λe w'=>e=.returned (.agg (bl (λq=>Yh hs bh f b p q || bh p q) 104).toArray)/\Below wr.drew.heap.size wr.drew w'):=GJ _ _ _;clear t F c0 c1 cf k1 J;go_wp2_with fail;refine U.out.mono ?_;rintro e w2 ⟨rfl,C⟩;have S2:=V.below C;obtain⟨L,i⟩:∃L,L=bl (λq=>Yh hs bh f b p q || bh p q) 104:=⟨_,rfl⟩;have c:L.length=104:=by rw[i];exact Y9 _ _
  have A:L=bl (Yh hs bh f b (p+1)) 104:=by rw[i];exact YU (λq _=>by rw[h.out q];simp)
  have g:w2.there (w.heap.size+2) 0 104:=by have:=S2.a.there;rw[Y9]at this;exact this
  have I:=Y8 (w.heap.size+2) L 0 w2;have S3:AF w f (Yh hs bh f b (p+1)) (w2.setCells (w.heap.size+2) 0 L):=by
   refine⟨S2.n.block (I.block _ S2.n.ltB (λe=>by have:=Zh e;omega)),S2.z.block (I.block _ S2.z.ltB (λe=>by have:=Zh e;omega)),λk v s=>?_,S2.b.grown I S2.b.size (λq O=>by cases O;omega)⟩;rw[<-A]at s;have h1:=Zo w2 (w.heap.size+2) 0 L (by rw[c];exact g) k v s;have hk:k<104:=by have:=(Zi.1 s).1;omega
   have h2:=(g k hk).2;rw[Zn]at h1 h2;exact⟨h1,by rw[World.frozen?_setCells];exact h2⟩
  have o:Hid (L.toArray.all (·.oneCell')=true):=by show _=true;rw[i];exact YL _ _
  have d:=hyd c;rw[<-i];clear V U C S2 i c A I h;go_wp2_with (first|(refine Za rfl 135 _ _ rfl (w.heap.size+2) 0 L.toArray rfl rfl (by simpa[d.out]using g) (by simpa[d.out]using Yw) o.out ?_;rw[Zc]));go_roundw
  ·exact⟨p+1,by omega,by go_num,S3⟩
  simp[intOf];omega
 have⟨hge,hpP⟩:¬(p:Int)<P/\p=P:=by omega
 subst hpP;obtain⟨L,i⟩:=nam (bl (Yh hs bh f b p) 104);have c:L.length=104:=by rw[i];exact Y9 _ _
 have M:=S.a;rw[<-i]at M;have Q:=M.range;have g:wr.there (w.heap.size+1) 0 104:=by have:=S.z.there;rw[Y9]at this;exact this
 have hG:=Y8 (w.heap.size+1) L 0 wr;have E:=Zo wr (w.heap.size+1) 0 L (by rw[c];exact g);have m:=ZF (P:=Tryz.prog) (wr.setCells (w.heap.size+1) 0 L) (w.heap.size+1) 0 135 L _ E u_d rfl (by rw[c];exact Yw);obtain⟨W9,r⟩:=nam (wr.setCells (w.heap.size+1) 0 L);rw[<-r]at hG m;have K:=hyd r;have u:=hyd m;have o:Hid (L.toArray.all (·.oneCell')=true):=by show _=true;rw[i];exact YL _ _
 have d:=hyd c;have HL:=hyd i;have B:=S.b;clear r E m i c S M hH hB;go_wp2_with (first|(refine Zb rfl 135 _ rfl (w.heap.size+2) 0 rfl L _ Q u_d rfl (by rw[d.out];exact Yw) ?_)|(refine Za rfl 135 _ _ rfl (w.heap.size+1) 0 L.toArray rfl rfl (by simpa[d.out]using g) (by simpa[d.out]using Yw) o.out ?_;rw[Zc,<-K.out]));refine Zr (v:=.agg L.toArray) (res_load1 Tryz.results128 rfl u.out) rfl ?_;exact⟨by rw[HL.out],B.grown hG B.size (λq O=>by cases O;omega)⟩
end Go.Proofs.YtoaaklhpmhjhkaaGreat
