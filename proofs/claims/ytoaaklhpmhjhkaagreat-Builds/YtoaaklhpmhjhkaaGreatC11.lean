import Derived.StillTailTactics
import Derived.Test.YtoaaklhpmhjhkaaGreatC08
set_option maxRecDepth 100000
set_option maxHeartbeats 4000000
set_option linter.all false
namespace Go.Proofs.YtoaaklhpmhjhkaaGreat
open Go.RowKit
open Bm
variable {a : Act}{ops : Array Oper}{rest : List Oper}{P : Nat}{bh : Nat → Nat → Bool}{op : Oper}{ba : Option Addr}{W W' w w' : World}
theorem q1Q {P:Program}{Q:Act->Prop} (hw:Region.wanted op (yielded ops a.tmps)=true) (ty:TypeId) (x:Operand) (ho:op.op=.load ty x)
  (b o:Nat) (hx:a.eval x=.pointer (some ⟨b,o,none⟩)) (cs:List Value) (d:TypeDesc) (hc:w.rangeAt b o cs)
  (hu:P.underlying ty=some d) (hd:d.isRow=true) (hi:(P.info? ty).map (·.size)=some cs.length)
  (h:wpStill P ops w Q rest (a.put op.dst (.agg cs.toArray))):wpStill P ops w Q (op::rest) a:=
 wpStill_step λK c=>by
  rw[if_pos hw];unfold Oper.still execOp;simp only[ho,hx,Instr.loadAt,Instr.sureAddr,Sem.run_bind,Sem.run_pure,Result.andThen_ok,run_loadVar_mid w b o ty cs d hc hu hd hi];exact⟨rfl,c _ h⟩
def BH (ba:Option Addr) (bh:Nat->Nat->Bool) (P:Nat) (w:World):Prop:=∀p,p<P->∃blk off,ba=some ⟨blk,off,none⟩/\w.rangeAt blk (off+p*104) (bl (bh p) 104)
theorem BH.below (h:BH ba bh P w) (hW:Below w.heap.size w w'):BH ba bh P w':=λp b=>by
 obtain⟨blk,off,e,a⟩:=h p b;refine⟨blk,off,e,λj v c=>?_⟩;have:=a j v c;rw[hW.cell (p:=⟨blk,off+p*104+j,none⟩) (World.block_lt_of_cell? w _ this)];exact this
def aftTo (hs bh:Nat->Nat->Bool) (f:Nat->Bool) (b:Nat) (n q:Nat):Bool:=(List.range n).any λp=>f p&&hs p b&&bh p q
theorem q3R (hs bh:Nat->Nat->Bool) (f:Nat->Bool) (b n q:Nat):aftTo hs bh f b (n+1) q=(aftTo hs bh f b n q || (f n&&hs n b&&bh n q)):=by
 simp[aftTo,List.range_succ]
structure AF (w:World) (f c:Nat->Bool) (W:World):Prop where
 n:TC w.heap.size (bl f 104) W
 z:TC (w.heap.size+1) (bl (fun _=>false) 104) W
 a:TC (w.heap.size+2) (bl c 104) W
 b:Below w.heap.size w W
theorem AF.below {f c:Nat->Bool} (h:AF w f c W) (hW:Below W.heap.size W W'):AF w f c W':=
 ⟨h.n.block (hW.block _ h.n.ltB),h.z.block (hW.block _ h.z.ltB),h.a.block (hW.block _ h.a.ltB),h.b.trans (hW.mono h.b.size)⟩
theorem y1c (nb:Nat) (ha:Option Addr) (hc P:Nat) (hs:Nat->Nat->Bool) (ba:Option Addr) (bc:Nat) (bh:Nat->Nat->Bool) (f:Nat->Bool) (b:Nat) (w:World) (hP:P<=96) (hb:b<256)
  (hc0:w.cell? ⟨nb,0,none⟩=some (.slice ha P hc)) (hc1:w.cell? ⟨nb,1,none⟩=some (.slice ba P bc)) (hH:HS ha hs P w) (hB:BH ba bh P w):
  Calls Tryz.prog 128 #[.pointer (some ⟨nb,0,none⟩),.agg (bl f 104).toArray,.int .u8 b] w λe w'=>e=.returned (.agg (bl (aftTo hs bh f b P) 104).toArray)/\Below w.heap.size w w':=by
 have hz:=q2Z;have aa:(b:Int)<256:=by omega
 have HN:Hid (∀w',Below w.heap.size w w'->w'.cell? ⟨nb,0,none⟩=some (.slice ha P hc)/\w'.cell? ⟨nb,1,none⟩=some (.slice ba P bc)/\HS ha hs P w'/\BH ba bh P w'):=λw' R=>by
  have e:∀k,w'.cell? ⟨nb,k,none⟩=w.cell? ⟨nb,k,none⟩:=λk=>R.cell (p:=⟨nb,k,none⟩) (World.block_lt_of_cell? w ⟨nb,0,none⟩ hc0)
  exact⟨by rw[e];exact hc0,by rw[e];exact hc1,hH.below R,hB.below R⟩
 clear hc0 hc1 hH hB;obtain⟨W,J⟩:=nam (((w.alloc (.cells (bl f 104).toArray 135)).alloc (.cells (bl (λ_=>false) 104).toArray 135)).alloc (.cells (bl (λ_=>false) 104).toArray 135));have S0:AF w f (aftTo hs bh f b 0) W:=by
  have H:(w.alloc (.cells (bl f 104).toArray 135)).heap.size=w.heap.size+1:=by simp
  have I:((w.alloc (.cells (bl f 104).toArray 135)).alloc (.cells (bl (λ_=>false) 104).toArray 135)).heap.size=w.heap.size+2:=by simp
  have T1:=TC.boxed w (bl f 104) 135;have T2:=TC.boxed (w.alloc (.cells (bl f 104).toArray 135)) (bl (λ_=>false) 104) 135;have T3:=TC.boxed ((w.alloc (.cells (bl f 104).toArray 135)).alloc (.cells (bl (λ_=>false) 104).toArray 135)) (bl (λ_=>false) 104) 135;rw[H]at T2;rw[I,<-J]at T3;have x1:=box_bel w (.cells (bl f 104).toArray 135);have x2:=box_bel (w.alloc (.cells (bl f 104).toArray 135)) (.cells (bl (λ_=>false) 104).toArray 135);have N:=box_bel ((w.alloc (.cells (bl f 104).toArray 135)).alloc (.cells (bl (λ_=>false) 104).toArray 135)) (.cells (bl (λ_=>false) 104).toArray 135);rw[<-J]at N;exact⟨(T1.block (x2.block _ T1.ltB)).block (N.block _ (by omega)),T2.block (N.block _ (by omega)),T3,(x1.trans (x2.mono (by omega))).trans (N.mono (by omega))⟩
 go_enter Tryz.func128,Tryz.ntmps128;go_wp2_with fail;rw[<-J];clear J
 go_loopw [8] (λx w'=>∃p:Nat,p<=P/\x=.int .i64 p/\AF w f (aftTo hs bh f b p) w') (λx _=>P-(intOf x).toNat)
 ·exact⟨0,by omega,rfl,S0⟩
 clear S0;obtain⟨p,hp,rfl,S⟩:=hrel;obtain⟨c0,c1,hH,hB⟩:=HN.out wr S.b;by_cases D:p<P
 ·have⟨hlt',hp96⟩:(p:Int)<P/\(p:Int)<96:=by omega
  have cf:=(S.n p _ (q0x _ (by omega))).1;obtain⟨g1,o1,e1,k1⟩:=hH p b D hb;subst e1;obtain⟨g2,o2,e2,M⟩:=hB p D;have G:∀q,aftTo hs bh f b (p+1) q=(aftTo hs bh f b p q || (f p&&hs p b&&bh p q)):=λq=>q3R _ _ _ _ _ _
  have h:=hyd G;clear hH hB G;obtain⟨x,V⟩:=nam (f p);obtain⟨y,X⟩:=nam (hs p b);rw[<-V,<-X]at h;rw[<-V]at cf;rw[<-X]at k1;clear V X;cases x
  ·have l:bl (aftTo hs bh f b (p+1)) 104=bl (aftTo hs bh f b p) 104:=q0o (λq _=>by rw[h.out q];simp);have S2:AF w f (aftTo hs bh f b (p+1)) wr:=⟨S.n,S.z,by rw[l];exact S.a,S.b⟩;clear l;clear S M;go_wp2_with fail;go_roundw
   ·exact⟨p+1,by omega,by go_num,S2⟩
   simp[intOf];omega
  cases y
  ·have l:bl (aftTo hs bh f b (p+1)) 104=bl (aftTo hs bh f b p) 104:=q0o (λq _=>by rw[h.out q];simp);have S2:AF w f (aftTo hs bh f b (p+1)) wr:=⟨S.n,S.z,by rw[l];exact S.a,S.b⟩;clear l;clear S M;go_wp2_with fail;go_roundw
   ·exact⟨p+1,by omega,by go_num,S2⟩
   simp[intOf];omega
  subst e2;have F:=S.a.range;have t:=hyd S;clear S;go_wp2_with fail;refine wp_region_still_tail 8 (by kernel_rfl) (by kernel_rfl) ?_;simp only[List.take_succ_cons,List.take_zero,List.drop_succ_cons,List.drop_zero];change wpStill _ _ wr.drew (λa'=>wpList _ _ _ _ a' wr.drew) _ _;refine q1Q rfl 135 _ rfl (w.heap.size+2) 0 rfl (bl (aftTo hs bh f b p) 104) _ (λj v s=>F j v s) Tryz.underlying135 rfl (by rw[q0c];exact q0B) ?_
  repeat still_step
  refine q1Q rfl 135 _ rfl g2 (o2+p*104) rfl (bl (bh p) 104) _ (λj v s=>M j v s) Tryz.underlying135 rfl (by rw[q0c];exact q0B) ?_;refine wpStill_nil ?_;have Z:=t.out.below (Below.refl _ _).drew;have Y:Hid (Calls Tryz.prog 175 #[.agg (bl (aftTo hs bh f b p) 104).toArray,.agg (bl (bh p) 104).toArray] wr.drew λe w'=>e=.returned (.agg (bl (λq=>aftTo hs bh f b p q || bh p q) 104).toArray)/\Below wr.drew.heap.size wr.drew w'):=y0p _ _ _;clear t F c0 c1 cf k1 M;go_wp2_with fail;refine Y.out.mono ?_;rintro e w2 ⟨rfl,C⟩;have S2:=Z.below C;obtain⟨L,i⟩:∃L,L=bl (λq=>aftTo hs bh f b p q || bh p q) 104:=⟨_,rfl⟩;have c:L.length=104:=by rw[i];exact q0c _ _
  have A:L=bl (aftTo hs bh f b (p+1)) 104:=by rw[i];exact q0o (λq _=>by rw[h.out q];simp)
  have g:w2.there (w.heap.size+2) 0 104:=by have:=S2.a.there;rw[q0c]at this;exact this
  have K:=q0e (w.heap.size+2) L 0 w2;have S3:AF w f (aftTo hs bh f b (p+1)) (w2.setCells (w.heap.size+2) 0 L):=by
   refine⟨S2.n.block (K.block _ S2.n.ltB (λe=>by have:=Option.some.inj e;omega)),S2.z.block (K.block _ S2.z.ltB (λe=>by have:=Option.some.inj e;omega)),λk v s=>?_,S2.b.grown K S2.b.size (λq T=>by cases T;omega)⟩;rw[<-A]at s;have H:=World.rangeAt_setCells_same w2 (w.heap.size+2) 0 L (by rw[c];exact g) k v s;have hk:k<104:=by have:=(List.getElem?_eq_some_iff.1 s).1;omega
   have I:=(g k hk).2;rw[Nat.zero_add]at H I;exact⟨H,by rw[World.frozen?_setCells];exact I⟩
  have o:Hid (L.toArray.all (·.oneCell')=true):=by show _=true;rw[i];exact q0w _ _
  have d:=hyd c;rw[<-i];clear Z Y C S2 i c A K h;go_wp2_with (first|(refine wpList_store_mid rfl 135 _ _ rfl (w.heap.size+2) 0 L.toArray rfl rfl (by simpa[d.out]using g) (by simpa[d.out]using q0B) o.out ?_;rw[List.toList_toArray]));go_roundw
  ·exact⟨p+1,by omega,by go_num,S3⟩
  simp[intOf];omega
 have⟨hge,hpP⟩:¬(p:Int)<P/\p=P:=by omega
 subst hpP;obtain⟨L,i⟩:=nam (bl (aftTo hs bh f b p) 104);have c:L.length=104:=by rw[i];exact q0c _ _
 have Q:=S.a;rw[<-i]at Q;have U:=Q.range;have g:wr.there (w.heap.size+1) 0 104:=by have:=S.z.there;rw[q0c]at this;exact this
 have hG:=q0e (w.heap.size+1) L 0 wr;have E:=World.rangeAt_setCells_same wr (w.heap.size+1) 0 L (by rw[c];exact g);have m:=run_loadVar_mid (P:=Tryz.prog) (wr.setCells (w.heap.size+1) 0 L) (w.heap.size+1) 0 135 L _ E Tryz.underlying135 rfl (by rw[c];exact q0B);obtain⟨W9,r⟩:=nam (wr.setCells (w.heap.size+1) 0 L);rw[<-r]at hG m;have O:=hyd r;have u:=hyd m;have o:Hid (L.toArray.all (·.oneCell')=true):=by show _=true;rw[i];exact q0w _ _
 have d:=hyd c;have HL:=hyd i;have B:=S.b;clear r E m i c S Q hH hB;go_wp2_with (first|(refine wpList_load_mid rfl 135 _ rfl (w.heap.size+2) 0 rfl L _ U Tryz.underlying135 rfl (by rw[d.out];exact q0B) ?_)|(refine wpList_store_mid rfl 135 _ _ rfl (w.heap.size+1) 0 L.toArray rfl rfl (by simpa[d.out]using g) (by simpa[d.out]using q0B) o.out ?_;rw[List.toList_toArray,<-O.out]));refine bodyPost_ret (v:=.agg L.toArray) (res_load1 Tryz.results128 rfl u.out) rfl ?_;exact⟨by rw[HL.out],B.grown hG B.size (λq T=>by cases T;omega)⟩
end Go.Proofs.YtoaaklhpmhjhkaaGreat
