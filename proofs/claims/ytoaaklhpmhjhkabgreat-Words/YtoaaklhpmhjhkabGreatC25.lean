import Derived.Test.YtoaaklhpmhjhkabGreatC24
set_option maxRecDepth 100000
set_option maxHeartbeats 4000000
set_option linter.all false
namespace Go.Proofs.YtoaaklhpmhjhkabGreat
open Go.RowKit
open Bm
open Pg (Pt)
structure RA (nb base:Nat) (vh vb vh' vb':Value) (m:Nat) (hs bh:Nat->Nat->Bool) (F:Nat->Bool) (w w':World) (A:Nat):Prop where
 net:YH nb base vh' vb' m hs bh F w'
 nf:NF nb vh vb vh' vb' w w'
 a:TC A (bl (fun _=>false) 193) w'
 o1:∀k,vh'.ownBlock=some k->k<A\/A<k
 o2:∀k,vb'.ownBlock=some k->k<A\/A<k
variable {base m m2 nb:Nat}{F:N_}{bh bh2 hs hs2:Nat->N_}{vb vb' vb2 vh vh' vh2:Value}{w w' w'':World}
theorem RA.below {A:Nat} (h:RA nb base vh vb vh' vb' m hs bh F w w' A) (hW:Below w'.heap.size w' w''):RA nb base vh vb vh' vb' m hs bh F w w'' A:=
 ⟨h.net.below hW,h.nf.trans (NF.of _ _ (by have:=h.net.c.lt;omega) hW),h.a.block (hW.block _ h.a.ltB),h.o1,h.o2⟩
theorem RA.call {A:Nat} (h:RA nb base vh vb vh' vb' m hs bh F w w' A) (hA:nb<A) (hN:YH nb base vh2 vb2 m2 hs2 bh2 F w'') (hF:NF nb vh' vb' vh2 vb2 w' w''):RA nb base vh vb vh2 vb2 m2 hs2 bh2 F w w'' A:=by
 have ha:=h.a.ltB;refine⟨hN,h.nf.trans hF,h.a.block (hF.k A ha (by omega) (fun e=>by have:=h.o1 A e;omega) (fun e=>by have:=h.o2 A e;omega)),fun k hk=>?_,fun k hk=>?_⟩
 ·rcases hF.oh k hk with e|e
  ·exact h.o1 k e
  ·exact Or.inr (by omega)
 ·rcases hF.ob k hk with e|e
  ·exact h.o2 k e
  ·exact Or.inr (by omega)
theorem RA.done {A:Nat} (h:RA nb base vh vb vh' vb' m hs bh F w w' A) (hA:nb<A) (hw:w.heap.size<=A) (hnb:nb<w.heap.size) (f:Nat->Bool):
  (loadVar 142 ⟨A,0,none⟩).run Tryz.prog (w'.setCells A 0 (bl f 193))=.ok (.agg (bl f 193).toArray) (w'.setCells A 0 (bl f 193))/\YH nb base vh' vb' m hs bh F (w'.setCells A 0 (bl f 193))/\NF nb vh vb vh' vb' w (w'.setCells A 0 (bl f 193))/\w'.there A 0 193:=by
 have hg:=Y6 A (bl f 193) 0 w';exact⟨Rb h.a f,h.net.mine hg (by omega) (fun e=>by have:=h.o1 A e;omega) (fun e=>by have:=h.o2 A e;omega),h.nf.mine hg hw hnb,Yq h.a⟩
theorem JX (f:Nat) (hR:Sk 85 1 f) (hW:Sk 68 2 f):Sk 68 2 (f+1):=by
 intro ts e ps ad cap nb base vh vb n hs bh F w hp hb hpre hn hmo;have hz:=Xh;have hnw:=hpre.net.c.lt;obtain⟨A,hA⟩:=nam w.heap.size;obtain⟨W1,hW1⟩:=nam (w.alloc (.cells (bl (fun _=>false) 193).toArray 142));have T1:=TC.boxed w (bl (fun _=>false) 193) 142;have x1:=box_bel w (.cells (bl (fun _=>false) 193).toArray 142);rw[<-hW1]at T1 x1;rw[<-hA]at T1;have R1:RA nb base vh vb vh vb n hs bh F w W1 A:=by
  have h1:=hpre.net.h.blk;have h2:=hpre.net.b.blk;exact⟨hpre.net.below x1,NF.of vh vb (by omega) x1,T1,fun k hk=>Or.inl (by have:=(h1 k hk).2;omega),fun k hk=>Or.inl (by have:=(h2 k hk).2;omega)⟩
 obtain⟨r,rest,e1,hr,hrest,hts⟩:∃(r rest:List Tq) (e1:Rx),Pp f 1 r e1/\((rest=[]/\e=e1)\/∃b q e2,rest=b::q/\b.t.kd=4/\Pp f 2 q e2/\e=.alt e1 e2)/\ts=r++rest:=by
  rcases hp with h|⟨r,b,q,e1,e2,k1,_,k3,k4,k5,k6⟩
  ·exact⟨ts,[],e,h,Or.inl ⟨rfl,rfl⟩,by simp⟩
  ·exact⟨r,b::q,e1,k4,Or.inr ⟨b,q,e2,rfl,k3,k5,k6⟩,k1⟩
 rw[hts]at hb;obtain⟨hb1,hb2⟩:=X9.split _ _ _ hb;have hlen:=hb.len;rw[List.length_append]at hlen;have hre:Tm ps 0 0=r.length:=JF hr (by rw[hb.kds,VW]) (by
  rcases hrest with ⟨h,_⟩|⟨b,q,_,h,h4,_⟩
  ·exact Or.inl (by rw[h];rfl)
  ·exact Or.inr ⟨kds q,by rw[h];simp[kds,h4]⟩)
 have hsz:e1.sz<=e.sz:=by
  rcases hrest with ⟨_,h⟩|⟨_,_,e2,_,_,_,h⟩
  ·rw[h];exact Nat.le_refl _
  ·rw[h];simp[Rx.sz]
 have hcap:=hpre.lcap;have hpl:=hpre.len;have HRE:Hid (Calls Tryz.prog 84 #[.slice ad ps.length cap] W1 fun en w'=>en=.returned (.int .i64 (r.length:Nat))/\Below W1.heap.size W1 w'):=by
  have:=MH ad cap ps W1 hpl (hpre.prt.below x1);rw[hre]at this;exact this
 have HRow:Hid (∀W,NF nb vh vb vh vb w W->YH nb base vh vb n hs bh F W->Calls Tryz.prog 85 #[.pointer (some ⟨nb,0,none⟩),.slice (RL ad cap 0) (r.length-0) (cap-0)] W (WB nb base vh vb n hs bh F e1 W)):=fun W hf hN=>by
  have h1:(ps.take r.length).length=r.length-0:=by rw[List.length_take];omega
  have h3:=(hpre.prt.nf hpre.sep hf).sub (cap:=cap) 0 r.length (by omega) hcap;rw[List.drop_zero]at h3;have:=hR r e1 (ps.take r.length) (RL ad cap 0) (cap-0) nb base vh vb n hs bh F W hr hb1 ⟨hN,hpre.lnb,by have:=hf.b.size;have:=hpre.bw;omega,h3,by omega,by omega,(hpre.sep.nf hf).sub _ _⟩ (by omega) (fun p hp=>hmo p (List.mem_of_mem_take hp));rw[h1]at this;exact this
 have HA:=hyd hA;have HW1:=hyd hW1;have HR1:=hyd R1;have Hpre:=hyd hpre;have Hrest:=hyd hrest;have Hb2:=hyd hb2;have Hmo:=hyd hmo;have HWh:=hyd hW;have Hn:=hyd hn;have Hlen:=hyd hlen;have hrl:r.length<=ps.length:=by omega
 have hgA:nb<A:=by omega
 clear hR hW hp hb hpre hn hmo hA hW1 T1 x1 R1 hr hrest hts hb1 hb2 hlen hre hsz;go_enter Tryz.func68,Tryz.ntmps68;go_wp2_with fail;rw[<-HW1.out];refine HRE.out.mono ?_;rintro en w1 ⟨rfl,hB1⟩;have R2:=HR1.out.below hB1;have HCr:=hyd (HRow.out w1 R2.nf R2.net);rw[<-HA.out];clear HRE HRow HR1 HW1 hB1;go_wp2_with (first|(with_reducible show wpList _ _ _ (⟨_,Op.slice 103 _ _ _ _,_,_,_,_⟩::_) _ _;refine WR rfl _ _ _ rfl ad ps.length cap rfl 0 r.length (Or.inl ⟨rfl,rfl⟩) (Or.inr ⟨_,rfl,rfl⟩) (by omega) (by omega) ?_));refine HCr.out.mono ?_;rintro en w3 ⟨vh2,vb2,rfl,N3,F3⟩;have R3:=R2.call hgA N3 F3;obtain⟨b1,b2,b3⟩:=VL w3 (Y1 e1 n);have ht3:(w3.alloc (.cells (bl (fun _=>false) 193).toArray 142)).there w3.heap.size 0 193:=Yq (TC.boxed w3 _ _);obtain⟨L3,hL3⟩:=nam (bl (Y1 e1 n) 193);obtain⟨W4,hW4⟩:=nam ((w3.alloc (.cells (bl (fun _=>false) 193).toArray 142)).setCells w3.heap.size 0 (bl (Y1 e1 n) 193));rw[<-hW4]at b1 b2 b3;rw[<-hL3]at hW4 ⊢;have HL3l:Hid (L3.length=193):=by show _=_;rw[hL3];exact Y7 _ _
 have HOL3:Hid (L3.toArray.all (·.oneCell')=true):=by show _=true;rw[hL3];exact YO _ _
 have HW4:=hyd hW4;have HL3:=hyd hL3;have R4:=R3.below b2;rw[<-hL3]at b1;have rB:=b1.range;have hAw:=HA.out;rcases Hrest.out with ⟨h0,he⟩|⟨b,q,e2,h0,hb4,hq,he⟩
 ·subst he;have hpr:ps.length=r.length:=by have:=Hlen.out;rw[h0]at this;simpa using this
  have hge:(ps.length:Int)<=(r.length:Int):=by omega
  obtain⟨d1,d2,d3,d4⟩:=R4.done hgA (by omega) hnw (Y1 e n);rw[<-hL3]at d1 d2 d3;obtain⟨WX,hWX⟩:=nam (W4.setCells A 0 L3);rw[<-hWX]at d1 d2 d3;have HWX:=hyd hWX;have Hfin:=hyd d1;clear hL3 hW4 b1 b2 b3 R2 R3 R4 hAw hWX d1 N3 F3 h0 hpr;go_wp2_with (first|(with_reducible refine gst 142 ?_;refine wpList_store_mid rfl 142 _ _ rfl w3.heap.size 0 L3.toArray rfl rfl (by simpa[HL3l.out]using ht3) (by simpa[HL3l.out]using Y3) HOL3.out ?_;rw[List.toList_toArray,<-HW4.out])|(with_reducible refine gld 142 ?_;refine wpList_load_mid rfl 142 _ rfl w3.heap.size 0 rfl L3 _ rB u_c rfl (by rw[HL3l.out];exact Y3) ?_)|(with_reducible refine gst 142 ?_;refine wpList_store_mid rfl 142 _ _ rfl A 0 L3.toArray rfl rfl (by simpa[HL3l.out]using d4) (by simpa[HL3l.out]using Y3) HOL3.out ?_;rw[List.toList_toArray,<-HWX.out]));refine bodyPost_ret (v:=.agg L3.toArray) (res_load1 Tryz.results68 rfl Hfin.out) rfl ?_;exact⟨vh2,vb2,by rw[HL3.out],d2,d3⟩
 ·have hpr:ps.length=r.length+(q.length+1):=by have:=Hlen.out;rw[h0]at this;simpa using this
  have hge:¬((ps.length:Int)<=(r.length:Int)):=by omega
  have hb2:=Hb2.out;rw[h0]at hb2;have hb3:X9 Sm (ps.drop (r.length+1)) q:=by
   generalize hd:ps.drop r.length=dd at hb2;cases hb2 with
   |cons h t=>
    rw[<-List.drop_drop,hd];exact t
  have P:=Hpre.out;have hsz:e.sz=e1.sz+e2.sz:=by rw[he];rfl
  have hn96:n+e1.sz+e2.sz<=96:=by have:=Hn.out;omega
  have HCw:Hid (Calls Tryz.prog 68 #[.pointer (some ⟨nb,0,none⟩),.slice (RL ad cap (r.length+1)) (ps.length-(r.length+1)) (cap-(r.length+1))] W4 (WB nb base vh2 vb2 (n+e1.sz) (Va hs e1 n) (UW bh e1 n) F e2 W4)):=by
   have h1:(ps.drop (r.length+1)).length=ps.length-(r.length+1):=by rw[List.length_drop]
   have h3:=(P.prt.nf P.sep R4.nf).sub (cap:=cap) (r.length+1) (ps.length-(r.length+1)) (by omega) hcap;rw[List.take_of_length_le (by rw[List.length_drop];omega)]at h3;have:=HWh.out q e2 (ps.drop (r.length+1)) (RL ad cap (r.length+1)) (cap-(r.length+1)) nb base vh2 vb2 (n+e1.sz) (Va hs e1 n) (UW bh e1 n) F W4 hq hb3 ⟨R4.net,P.lnb,by have:=R4.nf.b.size;have:=P.bw;omega,h3,by omega,by omega,(P.sep.nf R4.nf).sub _ _⟩ hn96 (fun p hp=>Hmo.out p (List.mem_of_mem_drop hp));rw[h1]at this;exact this
  have HR4:=hyd R4;have Hb1:=hyd2 b1 b3;have HoB:Hid ((∀k,vh2.ownBlock=some k->k<w3.heap.size)/\(∀k,vb2.ownBlock=some k->k<w3.heap.size)/\nb<w3.heap.size):=⟨fun k hk=>(N3.h.blk k hk).2,fun k hk=>(N3.b.blk k hk).2,N3.c.lt⟩;have He:=hyd he;have hr1:(r.length:Int)+1<=100:=by omega
  have hc1:r.length+1<=ps.length:=by omega
  clear hW4 b1 b2 b3 R2 R3 R4 hAw N3 F3 h0 hb2 hb3 P hsz he hq rB hL3 hpr;go_wp2_with (first|(with_reducible refine gst 142 ?_;refine wpList_store_mid rfl 142 _ _ rfl w3.heap.size 0 L3.toArray rfl rfl (by simpa[HL3l.out]using ht3) (by simpa[HL3l.out]using Y3) HOL3.out ?_;rw[List.toList_toArray,<-HW4.out])|(with_reducible show wpList _ _ _ (⟨_,Op.slice 103 _ _ _ _,_,_,_,_⟩::_) _ _;refine Wg.out ?_)
   )
  refine⟨?_⟩
  (try simp only[psm])
  refine WR rfl _ _ _ rfl ad ps.length cap rfl (r.length+1) ps.length (Or.inr ⟨_,rfl,(by show Value.int .i64 ((r.length:Int)+1)=Value.int .i64 ((r.length+1:Nat):Int);simp)⟩) (Or.inl ⟨rfl,rfl⟩) hc1 hcap ?_;go_wp2_with fail;refine HCw.out.mono ?_;rintro en w5 ⟨vh3,vb3,rfl,N5,F5⟩;have R5:=HR4.out.call hgA N5 F5;obtain⟨c1,c2⟩:=Hb1.out;obtain⟨q1,q2,q3⟩:=HoB.out;have tB:=c1.block (F5.k w3.heap.size (by omega) (by omega) (fun x=>by have:=q1 _ x;omega) (fun x=>by have:=q2 _ x;omega));have hB5:=F5.b.size;obtain⟨b1,b2,b3⟩:=VL w5 (Y1 e2 (n+e1.sz));have ht5:(w5.alloc (.cells (bl (fun _=>false) 193).toArray 142)).there w5.heap.size 0 193:=Yq (TC.boxed w5 _ _);obtain⟨L5,hL5⟩:=nam (bl (Y1 e2 (n+e1.sz)) 193);obtain⟨W6,hW6⟩:=nam ((w5.alloc (.cells (bl (fun _=>false) 193).toArray 142)).setCells w5.heap.size 0 (bl (Y1 e2 (n+e1.sz)) 193));rw[<-hW6]at b1 b2 b3;rw[<-hL5]at hW6 ⊢;have HL5l:Hid (L5.length=193):=by show _=_;rw[hL5];exact Y7 _ _
  have HOL5:Hid (L5.toArray.all (·.oneCell')=true):=by show _=true;rw[hL5];exact YO _ _
  have HW6:=hyd hW6;have R6:=R5.below b2;have tB6:=tB.block (b2.block w3.heap.size (by omega));rw[<-hL5]at b1;have rB:=tB6.range;have rC:=b1.range;have HCe:Hid (Calls Tryz.prog 86 #[.agg L3.toArray,.agg L5.toArray] W6 fun en w'=>en=.returned (.agg (bl (Y1 e n) 193).toArray)/\Below W6.heap.size W6 w'):=by
   have:=Mh (Y1 e1 n) (Y1 e2 (n+e1.sz)) W6;rw[<-HL3.out,<-hL5,YR (g:=Y1 e n) (fun i _=>by rw[He.out];exact KW e1 e2 n i)]at this;exact this
  have HR6:=hyd R6;clear hL5 hW6 b1 b2 b3 R5 R6 tB tB6 N5 F5 c1 c2 q1 q2 q3 hB5 HR4 HCw HoB Hb1;go_wp2_with (first|(with_reducible refine gst 142 ?_;refine wpList_store_mid rfl 142 _ _ rfl w5.heap.size 0 L5.toArray rfl rfl (by simpa[HL5l.out]using ht5) (by simpa[HL5l.out]using Y3) HOL5.out ?_;rw[List.toList_toArray,<-HW6.out])|(with_reducible refine gld 142 ?_;refine wpList_load_mid rfl 142 _ rfl w3.heap.size 0 rfl L3 _ rB u_c rfl (by rw[HL3l.out];exact Y3) ?_)|(with_reducible refine gld 142 ?_;refine wpList_load_mid rfl 142 _ rfl w5.heap.size 0 rfl L5 _ rC u_c rfl (by rw[HL5l.out];exact Y3) ?_));refine HCe.out.mono ?_;rintro en w7 ⟨rfl,hB7⟩;have R7:=HR6.out.below hB7;have hAw:=HA.out;obtain⟨d1,d2,d3,d4⟩:=R7.done hgA (by omega) hnw (Y1 e n);obtain⟨M,hM⟩:=nam (bl (Y1 e n) 193);rw[<-hM]at d1 d2 d3 ⊢;obtain⟨WX,hWX⟩:=nam (w7.setCells A 0 M);rw[<-hWX]at d1 d2 d3;have HWX:=hyd hWX;have Hfin:=hyd d1;have HMl:Hid (M.length=193):=by show _=_;rw[hM];exact Y7 _ _
  have HOM:Hid (M.toArray.all (·.oneCell')=true):=by show _=true;rw[hM];exact YO _ _
  have HM:=hyd hM;have NX:YH nb base vh3 vb3 (n+e.sz) (Va hs e n) (UW bh e n) F WX:=by
   have hsz:(Rx.alt e1 e2).sz=e1.sz+e2.sz:=rfl;rw[He.out,hsz,<-Nat.add_assoc];exact d2.congr (fun p q _ _=>Hu hs e1 e2 n p q) (fun p q _ _=>GT bh e1 e2 n p q)
  clear hM hWX d1 d2 R7 hAw rB rC hB7;go_wp2_with (first|(with_reducible refine gst 142 ?_;refine wpList_store_mid rfl 142 _ _ rfl A 0 M.toArray rfl rfl (by simpa[HMl.out]using d4) (by simpa[HMl.out]using Y3) HOM.out ?_;rw[List.toList_toArray,<-HWX.out]));refine bodyPost_ret (v:=.agg M.toArray) (res_load1 Tryz.results68 rfl Hfin.out) rfl ?_;exact⟨vh3,vb3,by rw[HM.out],NX,d3⟩
end Go.Proofs.YtoaaklhpmhjhkabGreat
