import Derived.StillTailTactics
import Derived.Test.YtoaaklhpmhjhkaaGreatC06
set_option maxRecDepth 100000
set_option maxHeartbeats 4000000
set_option linter.all false
namespace Go.Proofs.YtoaaklhpmhjhkaaGreat
open Go.RowKit
open Bm
variable {a:Act}{ops:Array Oper}{rest:List Oper}{P:Nat}{bh:Nat->N_}{op:Oper}{ba:Option Addr}{W W' w w':World}
def Vb{P:Program}{Q:Act->Prop}(hw:Region.wanted op (yielded ops a.tmps)=true)(z:TypeId)(x:Operand)(Z:op.op=.load z x)
  (b o:Nat) (hx:a.eval x=.pointer (some (a_ b o))) (cs:List Value) (d:TypeDesc) (H:w.rangeAt b o cs)
  (hu:P.underlying z=some d) (J:d.isRow=true) (Y:(P.info? z).map (·.size)=some cs.length)
  (h:wpStill P ops w Q rest (a.put op.dst (.agg cs.toArray))):wpStill P ops w Q (op::rest) a:=
 wpStill_step λK c=>by
  rw[dF hw];unfold Oper.still execOp;simp only[Z,hx,Instr.loadAt,Instr.sureAddr,fE,fV,Zu,ZF w b o z cs d H hu J Y];exact⟨rfl,c _ h⟩
def BH(ba:Option Addr)(bh:Nat->Nat->Bool)(P:Nat)(w:World):Prop:=∀p,p<P->∃blk off,ba=some ⟨blk,off,none⟩/\w.rangeAt blk (off+p*104) (bl (bh p) 104)
def BH.below(h:BH ba bh P w)(z:Bl w w'):BH ba bh P w':=λp c=>by
 let⟨blk,a,e,b⟩:=h p c;refine⟨blk,a,e,λj v d=>?_⟩;have:=b j v d;rw[z.cell (p:=(a_ blk (a+p*104+j))) (Ze w _ this)];exact this
def YC(hs bh:Nat->Nat->Bool)(f:Nat->Bool)(b:Nat)(n q:Nat):Bool:=(List.range n).any λp=>f p&&hs p b&&bh p q
def Q0(hs bh:Nat->N_)(f:N_)(b n q:Nat):YC hs bh f b (n+1) q=(YC hs bh f b n q || (f n&&hs n b&&bh n q)):=by
 simp[YC,ZT]
structure AF (w:World) (f c:Nat->Bool) (W:World):Prop where
 n:TC w.heap.size (bl f 104) W
 z:TC (w.heap.size+1) (bl (fun _=>false) 104) W
 a:TC (w.heap.size+2) (bl c 104) W
 b:Below w.heap.size w W
def AF.below{f c:N_}(h:AF w f c W)(H:Bl W W'):AF w f c W':=
 ⟨h.n.block (H.block _ h.n.ltB),h.z.block (H.block _ h.z.ltB),h.a.block (H.block _ h.a.ltB),h.b.trans (H.mono h.b.size)⟩
def Dy(nb:Nat)(ha:Option Addr)(hc P:Nat)(hs:Nat->N_)(ba:Option Addr)(bc:Nat)(bh:Nat->N_)(f:N_)(b:Nat)(w:World)(hP:P<=96)(hb:b<256)
  (af:w.cell? (a_ nb 0)=some (.slice ha P hc)) (ag:w.cell? (a_ nb 1)=some (.slice ba P bc)) (hH:HS ha hs P w) (hB:BH ba bh P w):
  Cp 128 #[pT nb,.agg (bl f 104).toArray,.int .u8 b] w λe w'=>e=.returned (.agg (bl (YC hs bh f b P) 104).toArray)/\Bl w w':=by
 have hz:=So;have ac:(b:Int)<256:=Qo
 have HN:Hid (∀w',Bl w w'->w'.cell? (a_ nb 0)=some (.slice ha P hc)/\w'.cell? (a_ nb 1)=some (.slice ba P bc)/\HS ha hs P w'/\BH ba bh P w'):=λw' N=>by
  have e:∀k,w'.cell? (a_ nb k)=w.cell? (a_ nb k):=λk=>N.cell (p:=(a_ nb k)) (Ze w (a_ nb 0) af)
  exact⟨by rw[e];exact af,by rw[e];exact ag,hH.below N,hB.below N⟩
 clear af ag hH hB;let⟨W,H⟩:=nam (((w.alloc (.cells (bl f 104).toArray 135)).alloc (.cells (bl (λ_=>false) 104).toArray 135)).alloc (.cells (bl (λ_=>false) 104).toArray 135));have S0:AF w f (YC hs bh f b 0) W:=by
  have h1:(w.alloc (.cells (bl f 104).toArray 135)).heap.size=w.heap.size+1:=Qs
  have h2:((w.alloc (.cells (bl f 104).toArray 135)).alloc (.cells (bl (λ_=>false) 104).toArray 135)).heap.size=w.heap.size+2:=Qs
  have Y:=TC.boxed w (bl f 104) 135;have Z:=TC.boxed (w.alloc (.cells (bl f 104).toArray 135)) (bl (λ_=>false) 104) 135;have T3:=TC.boxed ((w.alloc (.cells (bl f 104).toArray 135)).alloc (.cells (bl (λ_=>false) 104).toArray 135)) (bl (λ_=>false) 104) 135;rw[h1]at Z;rw[h2,<-H]at T3;have x1:=box_bel w (.cells (bl f 104).toArray 135);have x2:=box_bel (w.alloc (.cells (bl f 104).toArray 135)) (.cells (bl (λ_=>false) 104).toArray 135);have x3:=box_bel ((w.alloc (.cells (bl f 104).toArray 135)).alloc (.cells (bl (λ_=>false) 104).toArray 135)) (.cells (bl (λ_=>false) 104).toArray 135);rw[<-H]at x3;exact⟨(Y.block (x2.block _ Y.ltB)).block (x3.block _ Qo),Z.block (x3.block _ Qo),T3,(x1.trans (x2.mono Qo)).trans (x3.mono Qo)⟩
 go_enter Tryz.func128,Tryz.ntmps128;go_wp2;rw[<-H];clear H
 go_loopw [8] (λx w'=>∃p:Nat,p<=P/\x=I6 p/\AF w f (YC hs bh f b p) w') (λx _=>P-(intOf x).toNat)
 .exact⟨0,Qo,rfl,S0⟩
 clear S0;obtain⟨p,hp,rfl,S⟩:=hrel;let⟨c0,c1,hH,hB⟩:=HN.o wr S.b;by_cases D:p<P
 .have aa:(p:Int)<P:=Qo
  have ab:(p:Int)<96:=Qo
  have cf:=(S.n p _ (YO _ Qo)).1;let⟨g1,o1,e1,k1⟩:=hH p b D hb;subst e1;let⟨g2,o2,e2,J⟩:=hB p D;have G:∀q,YC hs bh f b (p+1) q=(YC hs bh f b p q || (f p&&hs p b&&bh p q)):=λq=>Q0 _ _ _ _ _ _
  have h:=hyd G;clear hH hB G;let⟨x,T⟩:=nam (f p);let⟨y,U⟩:=nam (hs p b);rw[<-T,<-U]at h;rw[<-T]at cf;rw[<-U]at k1;clear T U;cases x
  .have l:bl (YC hs bh f b (p+1)) 104=bl (YC hs bh f b p) 104:=YW (λq _=>by rw[h.o q];simp);have S2:AF w f (YC hs bh f b (p+1)) wr:=⟨S.n,S.z,by rw[l];exact S.a,S.b⟩;clear l;clear S J;go_wp2;go_roundw
   .exact⟨p+1,Qo,Qg,S2⟩
   simp[intOf];omega
  cases y
  .have l:bl (YC hs bh f b (p+1)) 104=bl (YC hs bh f b p) 104:=YW (λq _=>by rw[h.o q];simp);have S2:AF w f (YC hs bh f b (p+1)) wr:=⟨S.n,S.z,by rw[l];exact S.a,S.b⟩;clear l;clear S J;go_wp2;go_roundw
   .exact⟨p+1,Qo,Qg,S2⟩
   simp[intOf];omega
  subst e2;have F:=S.a.range;have t:=hyd S;clear S;go_wp2;apply wp_region_still_tail 8 Qk Qk;simp only[ZK,f7,ZL,Zw];change wpStill _ _ wr.drew (λa'=>wpList _ _ _ _ a' wr.drew) _ _;refine Vb rfl 135 _ rfl (w.heap.size+2) 0 rfl (bl (YC hs bh f b p) 104) _ (λj v s=>F j v s) u_d rfl (by rw[Y9];exact Yt) ?_
  repeat still_step
  refine Vb rfl 135 _ rfl g2 (o2+p*104) rfl (bl (bh p) 104) _ (λj v s=>J j v s) u_d rfl (by rw[Y9];exact Yt) ?_;apply f8;have X:=t.o.below (Zk _ _).drew;have V:Hid (Cp 175 #[.agg (bl (YC hs bh f b p) 104).toArray,.agg (bl (bh p) 104).toArray] wr.drew λe w'=>e=.returned (.agg (bl (λq=>YC hs bh f b p q || bh p q) 104).toArray)/\Below wr.drew.heap.size wr.drew w'):=Ei _ _ _;clear t F c0 c1 cf k1 J;go_wp2_with fail;apply V.o.mono;rintro e w2 ⟨rfl,C⟩;have S2:=X.below C;obtain⟨L,i⟩:∃L,L=bl (λq=>YC hs bh f b p q || bh p q) 104:=⟨_,rfl⟩;have c:L.length=104:=by rw[i];exact Y9 _ _
  have A:L=bl (YC hs bh f b (p+1)) 104:=by rw[i];exact YW (λq _=>by rw[h.o q];simp)
  have g:w2.there (w.heap.size+2) 0 104:=by have:=S2.a.there;rw[Y9]at this;exact this
  have I:=Y8 (w.heap.size+2) L 0 w2;have S3:AF w f (YC hs bh f b (p+1)) (w2.setCells (w.heap.size+2) 0 L):=by
   refine⟨S2.n.block (I.block _ S2.n.ltB (λe=>by have:=Zh e;omega)),S2.z.block (I.block _ S2.z.ltB (λe=>by have:=Zh e;omega)),λk v s=>?_,S2.b.grown I S2.b.size (λq Q=>by cases Q;omega)⟩;rw[<-A]at s;have h1:=Zo w2 (w.heap.size+2) 0 L (by rw[c];exact g) k v s;have hk:k<104:=by have:=(Zi.1 s).1;omega
   have h2:=(g k hk).2;rw[Zn]at h1 h2;exact⟨h1,by rw[fp];exact h2⟩
  have o:Hid (L.toArray.all (·.oneCell')=true):=by show _=true;rw[i];exact YJ _ _
  have d:=hyd c;rw[<-i];clear X V C S2 i c A I h;go_wp2_with (first|(apply Za rfl 135 _ _ rfl (w.heap.size+2) 0 L.toArray rfl rfl (by simpa[d.o]using g) (by simpa[d.o]using Yt) o.o;rw[Zc]));go_roundw
  .exact⟨p+1,Qo,Qg,S3⟩
  simp[intOf];omega
 have ae:¬(p:Int)<P:=Qo
 have O:p=P:=Qo
 subst O;let⟨L,i⟩:=nam (bl (YC hs bh f b p) 104);have c:L.length=104:=by rw[i];exact Y9 _ _
 have M:=S.a;rw[<-i]at M;have R:=M.range;have g:wr.there (w.heap.size+1) 0 104:=by have:=S.z.there;rw[Y9]at this;exact this
 have hG:=Y8 (w.heap.size+1) L 0 wr;have E:=Zo wr (w.heap.size+1) 0 L (by rw[c];exact g);have m:=ZF (P:=Tryz.prog) (wr.setCells (w.heap.size+1) 0 L) (w.heap.size+1) 0 135 L _ E u_d rfl (by rw[c];exact Yt);let⟨W9,r⟩:=nam (wr.setCells (w.heap.size+1) 0 L);rw[<-r]at hG m;have K:=hyd r;have u:=hyd m;have o:Hid (L.toArray.all (·.oneCell')=true):=by show _=true;rw[i];exact YJ _ _
 have d:=hyd c;have HL:=hyd i;have B:=S.b;clear r E m i c S M hH hB;go_wp2_with (first|(refine Zb rfl 135 _ rfl (w.heap.size+2) 0 rfl L _ R u_d rfl (by rw[d.o];exact Yt) ?_)|(apply Za rfl 135 _ _ rfl (w.heap.size+1) 0 L.toArray rfl rfl (by simpa[d.o]using g) (by simpa[d.o]using Yt) o.o;rw[Zc,<-K.o]));apply Zr (v:=.agg L.toArray) (res_load1 Tryz.results128 rfl u.o) rfl;exact⟨by rw[HL.o],B.grown hG B.size (λq Q=>by cases Q;omega)⟩
