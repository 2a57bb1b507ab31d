import Derived.Test.YtoaaklhpmhjhkabC25
set_option maxRecDepth 100000
set_option maxHeartbeats 4000000
set_option linter.all false
namespace Go.Proofs.Ytoaaklhpmhjhkab
open Go.RowKit
open Bm
open Pg (Pt)
def GD:Value->Nat
 |.slice _ n _=>n
 |_=>0
variable {ts : List Tq}{base m m2 nb : Nat}{F : Nat → Bool}{bh bh2 hs hs2 : Nat → Nat → Bool}{e : Rx}{vb vb' vb2 vh vh' vh2 : Value}{w w' w'' : World}
theorem Ue {f:Nat} (h:Pp f 0 ts e):∃q r,ts=q::r/\(q.t.kd=1\/q.t.kd=2):=by
 obtain⟨_,F,k2,_,_⟩:=QQ f 0 ts e h;exact(k2 rfl).2
theorem Ku {f:Nat}{L:List (List Tq × Rx)} (h:∀x∈L,Pp f 0 x.1 x.2):∀k r,kds (L.map (·.1)).flatten=k::r->Pg.isSuffix k=false:=by
 intro k r he;rcases L with _|⟨x,L⟩
 ·simp[kds]at he
 ·obtain⟨q,r',e1,e2⟩:=Ue (h x (by simp));rw[List.map_cons,List.flatten_cons,Wf,e1]at he;simp[kds]at he;rw[<-he.1];rcases e2 with e2|e2<;>(rw[e2];rfl)
theorem HQ (f:Nat) (hP:SL 118 0 f) (L:List (List Tq × Rx)) (ps:List Pt) (ad:Option Addr) (cap nb base:Nat) (vh vb:Value) (n:Nat) (hs bh:Nat->Nat->Bool) (F:Nat->Bool) (w:World) (hL:∀x∈L,Pp f 0 x.1 x.2) (hb:X9 Sm ps (L.map (·.1)).flatten) (hpre:UP nb base vh vb n hs bh F ad cap ps w) (hn:n+(Rx.rowOf (L.map (·.2))).sz<=96) (hmo:∀p∈ps,0<=p.mo/\p.mo<=9):
  Calls Try.prog 110 #[.pointer (some ⟨nb,0,none⟩),.slice ad ps.length cap] w (WC nb base vh vb n hs bh F (Rx.rowOf (L.map (·.2))) w):=by
 have hz:=Xc;have hnw:=hpre.net.c.lt;obtain⟨A,hA⟩:=nam w.heap.size;obtain⟨W1,hW1⟩:=nam (w.alloc (.cells (bl (fun _=>false) 193).toArray 178));have T1:=TC.boxed w (bl (fun _=>false) 193) 178;have x1:=box_bel w (.cells (bl (fun _=>false) 193).toArray 178);rw[<-hW1]at T1 x1;rw[<-hA]at T1;have HA:=hyd hA;have HW1:=hyd hW1;have HP:=hyd hP;have Hb:=hyd hb;have Hpre:=hyd hpre;have Hmo:=hyd hmo;have Hx1:=hyd2 x1 T1;have Hn:=hyd hn;have HL:=hyd hL;clear hP hL hb hpre hmo hA hW1 T1 x1 hn;go_enter Try.func110,Try.ntmps110;go_wp2_with fail;rw[<-HW1.out];refine Calls.mono (UX W1) ?_;rintro en w1 ⟨rfl,hB1⟩;obtain⟨b1,b2,b3⟩:=VZ w1 Ug;have ht0:(w1.alloc (.cells (bl (fun _=>false) 193).toArray 178)).there w1.heap.size 0 193:=Yn (TC.boxed w1 _ _);obtain⟨B,hB⟩:=nam w1.heap.size;obtain⟨L0,hL0⟩:=nam (bl Ug 193);obtain⟨W2,hW2⟩:=nam ((w1.alloc (.cells (bl (fun _=>false) 193).toArray 178)).setCells w1.heap.size 0 (bl Ug 193));rw[<-hW2]at b1 b2 b3;rw[<-hL0]at hW2 ⊢;have HL0:Hid (L0.length=193):=by show _=_;rw[hL0];exact Y7 _ _
 have HO0:Hid (L0.toArray.all (·.oneCell')=true):=by show _=true;rw[hL0];exact YK _ _
 have HW2:=hyd hW2;obtain⟨y1,y2⟩:=Hx1.out;have hsA:=HA.out;have hz1:=y1.size;have hzw:=hB1.size;have hW1s:W1.heap.size=A+1:=by rw[HW1.out,HA.out];simp
 have C:RC nb base w A B:=⟨by omega,by omega,hsA,Hpre.out.lnb,Hpre.out.bw⟩;have S0:RW nb base vh vb vh vb n hs bh F (Rx.rowOf (([]:List (List Tq × Rx)).map (·.2))) w W2 A B:=by
  have P:=Hpre.out;have hN:=((P.net.below y1).below hB1).below b2;have h1:=P.net.h.blk;have h2:=P.net.b.blk;refine⟨M6 hN,((NF.of vh vb (by omega) y1).trans (NF.of vh vb (by omega) hB1)).trans (NF.of vh vb (by omega) b2),(y2.block (hB1.block _ y2.ltB)).block (b2.block A (by omega)),?_,fun k hk=>Or.inl (by have:=(h1 k hk).2;omega),fun k hk=>Or.inl (by have:=(h2 k hk).2;omega)⟩;rw[<-hB]at b1;show TC B (bl (YZ Rx.eps n) 193) W2;rw[YO (g:=Ug) (fun i hi=>Tl n i hi)];exact b1
 have HC:=hyd C;have HB:=hyd hB;clear b1 b2 b3 hB hL0 hW2 y1 y2 hsA hz1 hzw hW1s C HW1 hB1;go_wp2_with (first|(with_reducible refine gst 178 ?_;refine wpList_store_mid rfl 178 _ _ rfl w1.heap.size 0 L0.toArray rfl rfl (by simpa[HL0.out]using ht0) (by simpa[HL0.out]using Y2) HO0.out ?_;rw[List.toList_toArray,<-HW2.out]));rw[<-HB.out,<-HA.out];clear HL0 HO0 HW2 ht0
 (try simp only[Act.put])
 go_loopw [1] (fun x w'=>∃(L1 L2:List (List Tq × Rx)) (ad':Option Addr) (cap':Nat) (ps':List Pt) (vh' vb':Value),x=.slice ad' ps'.length cap'/\Hid (L=L1++L2)/\Hid (X9 Sm ps' (L2.map (·.1)).flatten)/\Hid (UP nb base vh vb n hs bh F ad' cap' ps' w)/\Hid (∀p∈ps',0<=p.mo/\p.mo<=9)/\RW nb base vh vb vh' vb' n hs bh F (Rx.rowOf (L1.map (·.2))) w w' A B) (fun x _=>GD x)
 case atStart=>exact⟨[],L,ad,cap,ps,vh,vb,rfl,rfl,Hb,Hpre,Hmo,S0⟩
 case round=>
  clear S0 Hb Hpre Hmo;obtain⟨L1,L2,ad',cap',ps',vh',vb',rfl,HLL,Hb,Hpre,Hmo,S⟩:=hrel;rcases L2 with _|⟨⟨p1,e1⟩,L2⟩
  ·have hp0:ps'.length=0:=by have:=Hb.out.len;simpa using this
   have hLe:L=L1:=by have:=HLL.out;simpa using this
   subst hLe;have hq:¬((0:Int)<(ps'.length:Int)):=by omega
   have hrB:=S.b.range;have tA:=Yn S.a;obtain⟨M,hM⟩:=nam (bl (YZ (Rx.rowOf (L.map (·.2))) n) 193);rw[<-hM]at hrB;have hMl:M.length=193:=by rw[hM];exact Y7 _ _
   have hGr:=Y4 A M 0 wr;have hfin:=RE S.a (YZ (Rx.rowOf (L.map (·.2))) n);rw[<-hM]at hfin;have a1:=HC.out.g1;have a2:=HC.out.g2;have a4:=HC.out.g4;have NX:=S.net.mine hGr (by omega) (fun x=>by have:=S.o1 A x;omega) (fun x=>by have:=S.o2 A x;omega);have FX:=S.nf.mine hGr (by omega) (by omega);obtain⟨WX,hWX⟩:=nam (wr.setCells A 0 M);rw[<-hWX]at hfin NX FX;have HWX:=hyd hWX;have Hfin:=hyd hfin;have HMl:=hyd hMl;have HOM:Hid (M.toArray.all (·.oneCell')=true):=by show _=true;rw[hM];exact YK _ _
   have HM:=hyd hM;clear hM hMl hGr hfin hWX a1 a2 a4 S hp0;go_wp2_with (first|(with_reducible refine gld 178 ?_;refine wpList_load_mid rfl 178 _ rfl B 0 rfl M _ hrB Try.underlying178 rfl (by rw[HMl.out];exact Y2) ?_)|(with_reducible refine gst 178 ?_;refine wpList_store_mid rfl 178 _ _ rfl A 0 M.toArray rfl rfl (by simpa[HMl.out]using tA) (by simpa[HMl.out]using Y2) HOM.out ?_;rw[List.toList_toArray,<-HWX.out]));refine bodyPost_ret (v:=.agg M.toArray) (res_load1 Try.results110 rfl Hfin.out) rfl ?_;exact⟨vh',vb',by rw[HM.out],NX,FX⟩
  ·have hmem:∀x∈L2,Pp f 0 x.1 x.2:=fun x hx=>HL.out x (by rw[HLL.out];simp[hx])
   have hp1:Pp f 0 p1 e1:=HL.out (p1,e1) (by rw[HLL.out];simp);have hbs:X9 Sm ps' (p1++(L2.map (·.1)).flatten):=Hb.out;obtain⟨hb1,hb2⟩:=X9.split _ _ _ hbs;have hlen:=hbs.len;rw[List.length_append]at hlen;have hm0:0<p1.length:=by obtain⟨q,r,e,_⟩:=Ue hp1;rw[e];simp
   have hpe:Rq ps'=p1.length:=Ne hp1 (by rw[hbs.kds,Wf]) (Ku hmem);have P:=Hpre.out;have hq:(0:Int)<(ps'.length:Int):=by omega
   have Hpe:Hid (Calls Try.prog 117 #[.slice ad' ps'.length cap'] wr fun e w'=>e=.returned (.int .i64 (p1.length:Nat))/\Below wr.heap.size wr w'):=by
    have:=PD ad' cap' ps' wr P.len (P.prt.nf P.sep S.nf);rw[hpe]at this;exact this
   obtain⟨E,hE⟩:=nam (Rx.rowOf (L1.map (·.2)));rw[<-hE]at S;have HE:Hid (Rx.rowOf ((L1++[(p1,e1)]).map (·.2))=.cat E e1):=by show _=_;rw[List.map_append,hE];exact Rx.rowOf_snoc _ _
   have hn96:n+E.sz+e1.sz<=96:=by
    have h1:=Hn.out;rw[HLL.out,Rx.rowOf_sz]at h1;rw[hE,Rx.rowOf_sz];simp at h1 ⊢;omega
   have hcap:=P.lcap;have hpl:=P.len;have HLP:Hid (∀W,NF nb vh vb vh' vb' w W->YF nb base vh' vb' (n+E.sz) (Vq hs E n) (Vd bh E n) F W->Calls Try.prog 118 #[.pointer (some ⟨nb,0,none⟩),.slice (Sp ad' cap' 0) (p1.length-0) (cap'-0)] W (WC nb base vh' vb' (n+E.sz) (Vq hs E n) (Vd bh E n) F e1 W)):=fun W hf hN=>by
    have h1:(ps'.take p1.length).length=p1.length-0:=by rw[List.length_take];omega
    have h2:=P.prt.nf P.sep hf;have h3:=h2.sub (cap:=cap') 0 p1.length (by omega) hcap;rw[List.drop_zero]at h3;have:=HP.out p1 e1 (ps'.take p1.length) (Sp ad' cap' 0) (cap'-0) nb base vh' vb' (n+E.sz) (Vq hs E n) (Vd bh E n) F W hp1 hb1 ⟨hN,P.lnb,by have:=hf.b.size;have:=P.bw;omega,h3,by omega,by omega,(P.sep.nf hf).sub _ _⟩ hn96 (fun p hp=>Hmo.out p (List.mem_of_mem_take hp));rw[h1]at this;exact this
   have Hpre2:Hid (UP nb base vh vb n hs bh F (Sp ad' cap' p1.length) (cap'-p1.length) (ps'.drop p1.length) w):=by
    have h3:=P.prt.sub (cap:=cap') p1.length (ps'.length-p1.length) (by omega) hcap;rw[List.take_of_length_le (by rw[List.length_drop];omega)]at h3;exact⟨P.net,P.lnb,P.bw,h3,by rw[List.length_drop];omega,by rw[List.length_drop];omega,P.sep.sub _ _⟩
   have Hb2:=hyd hb2;have HLL2:Hid (L=(L1++[(p1,e1)])++L2):=by show _=_;rw[HLL.out];simp
   have Hmo2:Hid (∀p∈ps'.drop p1.length,0<=p.mo/\p.mo<=9):=fun p hp=>Hmo.out p (List.mem_of_mem_drop hp)
   have Hlen2:Hid ((ps'.drop p1.length).length=ps'.length-p1.length):=by show _=_;rw[List.length_drop]
   have hpl1:p1.length<=ps'.length:=by omega
   clear hE hmem hp1 hbs hb1 hb2 hlen hpe P Hb Hpre HLL;go_wp2_with fail;refine Hpe.out.mono ?_;rintro en w1 ⟨rfl,hB1⟩;have S1:RW nb base vh vb vh' vb' n hs bh F E w w1 A B:=⟨S.net.below hB1,S.nf.trans (NF.of _ _ (by have:=S.net.c.lt;omega) hB1),S.a.block (hB1.block _ S.a.ltB),S.b.block (hB1.block _ S.b.ltB),S.o1,S.o2⟩;have HCp:=hyd (HLP.out w1 S1.nf S1.net);clear HLP Hpe S hB1;go_wp2_with (first|(with_reducible show wpList _ _ _ (⟨_,Op.slice 155 _ _ _ _,_,_,_,_⟩::_) _ _;refine WO rfl _ _ _ rfl ad' ps'.length cap' rfl 0 p1.length (Or.inl ⟨rfl,rfl⟩) (Or.inr ⟨_,rfl,rfl⟩) (by omega) (by omega) ?_));refine HCp.out.mono ?_;rintro en w3 ⟨vh2,vb2,rfl,N3,F3⟩;obtain⟨TA,TB,NFw,o1,o2⟩:=S1.call HC.out F3;obtain⟨b1,b2,b3⟩:=VZ w3 (YZ e1 (n+E.sz));have ht3:(w3.alloc (.cells (bl (fun _=>false) 193).toArray 178)).there w3.heap.size 0 193:=Yn (TC.boxed w3 _ _);obtain⟨L3,hL3⟩:=nam (bl (YZ e1 (n+E.sz)) 193);obtain⟨W4,hW4⟩:=nam ((w3.alloc (.cells (bl (fun _=>false) 193).toArray 178)).setCells w3.heap.size 0 (bl (YZ e1 (n+E.sz)) 193));rw[<-hW4]at b1 b2 b3;rw[<-hL3]at hW4 ⊢;have HL3:Hid (L3.length=193):=by show _=_;rw[hL3];exact Y7 _ _
   have HO3:Hid (L3.toArray.all (·.oneCell')=true):=by show _=true;rw[hL3];exact YK _ _
   have HW4:=hyd hW4;have hnb3:=N3.c.lt;have UA:=TA.block (b2.block A TA.ltB);have UB:=TB.block (b2.block B TB.ltB);have N4:=N3.below b2;have F4:=NFw.trans (NF.of vh2 vb2 (by omega) b2);have HCj:=hyd (Ub nb base vh2 vb2 (n+E.sz+e1.sz) _ _ F (YZ E n) (YZ e1 (n+E.sz)) W4 N4 HC.out.g7 hn96);have HS4:=hyd3 UA UB F4;have rB:=UB.range;have rC:=b1.range;have Ho:=hyd2 o1 o2;clear UA UB N4 F4 b1 b2 b3 o1 o2 hnb3 hL3 hW4 TA TB N3 NFw S1 F3 HCp;go_wp2_with (first|(with_reducible refine gst 178 ?_;refine wpList_store_mid rfl 178 _ _ rfl w3.heap.size 0 L3.toArray rfl rfl (by simpa[HL3.out]using ht3) (by simpa[HL3.out]using Y2) HO3.out ?_;rw[List.toList_toArray,<-HW4.out])|(with_reducible refine gld 178 ?_;refine wpList_load_mid rfl 178 _ rfl B 0 rfl (bl (YZ E n) 193) _ rB Try.underlying178 rfl (by rw[Y7];exact Y2) ?_)|(with_reducible refine gld 178 ?_;refine wpList_load_mid rfl 178 _ rfl w3.heap.size 0 rfl (bl (YZ e1 (n+E.sz)) 193) _ rC Try.underlying178 rfl (by rw[Y7];exact Y2) ?_));refine HCj.out.mono ?_;rintro en w6 ⟨rfl,N6,F6⟩;obtain⟨h4a,h4b,h4f⟩:=HS4.out;obtain⟨tB,R⟩:=RW.step (e2:=e1) HC.out h4a h4b h4f Ho.out.1 Ho.out.2 N6 F6 hn96;rw[<-HE.out]at R;obtain⟨L6,hL6⟩:=nam (bl (jn (YZ E n) (YZ e1 (n+E.sz))) 193);rw[<-hL6]at R ⊢;have HL6:Hid (L6.length=193):=by show _=_;rw[hL6];exact Y7 _ _
   have HO6:Hid (L6.toArray.all (·.oneCell')=true):=by show _=true;rw[hL6];exact YK _ _
   clear hL6 N6 F6 h4a h4b h4f rB rC;go_wp2_with (first|(with_reducible refine gst 178 ?_;refine wpList_store_mid rfl 178 _ _ rfl B 0 L6.toArray rfl rfl (by simpa[HL6.out]using tB) (by simpa[HL6.out]using Y2) HO6.out ?_;rw[List.toList_toArray])|(with_reducible show wpList _ _ _ (⟨_,Op.slice 155 _ _ _ _,_,_,_,_⟩::_) _ _;refine WO rfl _ _ _ rfl ad' ps'.length cap' rfl p1.length ps'.length (Or.inr ⟨_,rfl,rfl⟩) (Or.inl ⟨rfl,rfl⟩) hpl1 hcap ?_));go_roundw
   case rel=>exact⟨L1++[(p1,e1)],L2,Sp ad' cap' p1.length,cap'-p1.length,ps'.drop p1.length,vh2,vb2,by rw[Hlen2.out],HLL2,Hb2,Hpre2,Hmo2,R⟩
   case measure=>simp[GD];omega
structure RA (nb base:Nat) (vh vb vh' vb':Value) (m:Nat) (hs bh:Nat->Nat->Bool) (F:Nat->Bool) (w w':World) (A:Nat):Prop where
 net:YF nb base vh' vb' m hs bh F w'
 nf:NF nb vh vb vh' vb' w w'
 a:TC A (bl (fun _=>false) 193) w'
 o1:∀k,vh'.ownBlock=some k->k<A\/A<k
 o2:∀k,vb'.ownBlock=some k->k<A\/A<k
theorem RA.below {A:Nat} (h:RA nb base vh vb vh' vb' m hs bh F w w' A) (hW:Below w'.heap.size w' w''):RA nb base vh vb vh' vb' m hs bh F w w'' A:=
 ⟨h.net.below hW,h.nf.trans (NF.of _ _ (by have:=h.net.c.lt;omega) hW),h.a.block (hW.block _ h.a.ltB),h.o1,h.o2⟩
theorem RA.call {A:Nat} (h:RA nb base vh vb vh' vb' m hs bh F w w' A) (hA:nb<A) (hN:YF nb base vh2 vb2 m2 hs2 bh2 F w'') (hF:NF nb vh' vb' vh2 vb2 w' w''):RA nb base vh vb vh2 vb2 m2 hs2 bh2 F w w'' A:=by
 have ha:=h.a.ltB;refine⟨hN,h.nf.trans hF,h.a.block (hF.k A ha (by omega) (fun e=>by have:=h.o1 A e;omega) (fun e=>by have:=h.o2 A e;omega)),fun k hk=>?_,fun k hk=>?_⟩
 ·rcases hF.oh k hk with e|e
  ·exact h.o1 k e
  ·exact Or.inr (by omega)
 ·rcases hF.ob k hk with e|e
  ·exact h.o2 k e
  ·exact Or.inr (by omega)
theorem RA.done {A:Nat} (h:RA nb base vh vb vh' vb' m hs bh F w w' A) (hA:nb<A) (hw:w.heap.size<=A) (hnb:nb<w.heap.size) (f:Nat->Bool):
  (loadVar 178 ⟨A,0,none⟩).run Try.prog (w'.setCells A 0 (bl f 193))=.ok (.agg (bl f 193).toArray) (w'.setCells A 0 (bl f 193))/\YF nb base vh' vb' m hs bh F (w'.setCells A 0 (bl f 193))/\NF nb vh vb vh' vb' w (w'.setCells A 0 (bl f 193))/\w'.there A 0 193:=by
 have hg:=Y4 A (bl f 193) 0 w';exact⟨RE h.a f,h.net.mine hg (by omega) (fun e=>by have:=h.o1 A e;omega) (fun e=>by have:=h.o2 A e;omega),h.nf.mine hg hw hnb,Yn h.a⟩
theorem KR (f:Nat) (hR:SL 110 1 f) (hW:SL 96 2 f):SL 96 2 (f+1):=by
 intro ts e ps ad cap nb base vh vb n hs bh F w hp hb hpre hn hmo;have hz:=Xc;have hnw:=hpre.net.c.lt;obtain⟨A,hA⟩:=nam w.heap.size;obtain⟨W1,hW1⟩:=nam (w.alloc (.cells (bl (fun _=>false) 193).toArray 178));have T1:=TC.boxed w (bl (fun _=>false) 193) 178;have x1:=box_bel w (.cells (bl (fun _=>false) 193).toArray 178);rw[<-hW1]at T1 x1;rw[<-hA]at T1;have R1:RA nb base vh vb vh vb n hs bh F w W1 A:=by
  have h1:=hpre.net.h.blk;have h2:=hpre.net.b.blk;exact⟨hpre.net.below x1,NF.of vh vb (by omega) x1,T1,fun k hk=>Or.inl (by have:=(h1 k hk).2;omega),fun k hk=>Or.inl (by have:=(h2 k hk).2;omega)⟩
 obtain⟨r,rest,e1,hr,hrest,hts⟩:∃(r rest:List Tq) (e1:Rx),Pp f 1 r e1/\((rest=[]/\e=e1)\/∃b q e2,rest=b::q/\b.t.kd=4/\Pp f 2 q e2/\e=.alt e1 e2)/\ts=r++rest:=by
  rcases hp with h|⟨r,b,q,e1,e2,k1,_,k3,k4,k5,k6⟩
  ·exact⟨ts,[],e,h,Or.inl ⟨rfl,rfl⟩,by simp⟩
  ·exact⟨r,b::q,e1,k4,Or.inr ⟨b,q,e2,rfl,k3,k5,k6⟩,k1⟩
 rw[hts]at hb;obtain⟨hb1,hb2⟩:=X9.split _ _ _ hb;have hlen:=hb.len;rw[List.length_append]at hlen;have hre:TR ps 0 0=r.length:=Kt hr (by rw[hb.kds,Wf]) (by
  rcases hrest with ⟨h,_⟩|⟨b,q,_,h,h4,_⟩
  ·exact Or.inl (by rw[h];rfl)
  ·exact Or.inr ⟨kds q,by rw[h];simp[kds,h4]⟩)
 have hsz:e1.sz<=e.sz:=by
  rcases hrest with ⟨_,h⟩|⟨_,_,e2,_,_,_,h⟩
  ·rw[h];exact Nat.le_refl _
  ·rw[h];simp[Rx.sz]
 have hcap:=hpre.lcap;have hpl:=hpre.len;have HRE:Hid (Calls Try.prog 109 #[.slice ad ps.length cap] W1 fun en w'=>en=.returned (.int .i64 (r.length:Nat))/\Below W1.heap.size W1 w'):=by
  have:=Nk ad cap ps W1 hpl (hpre.prt.below x1);rw[hre]at this;exact this
 have HRow:Hid (∀W,NF nb vh vb vh vb w W->YF nb base vh vb n hs bh F W->Calls Try.prog 110 #[.pointer (some ⟨nb,0,none⟩),.slice (Sp ad cap 0) (r.length-0) (cap-0)] W (WC nb base vh vb n hs bh F e1 W)):=fun W hf hN=>by
  have h1:(ps.take r.length).length=r.length-0:=by rw[List.length_take];omega
  have h3:=(hpre.prt.nf hpre.sep hf).sub (cap:=cap) 0 r.length (by omega) hcap;rw[List.drop_zero]at h3;have:=hR r e1 (ps.take r.length) (Sp ad cap 0) (cap-0) nb base vh vb n hs bh F W hr hb1 ⟨hN,hpre.lnb,by have:=hf.b.size;have:=hpre.bw;omega,h3,by omega,by omega,(hpre.sep.nf hf).sub _ _⟩ (by omega) (fun p hp=>hmo p (List.mem_of_mem_take hp));rw[h1]at this;exact this
 have HA:=hyd hA;have HW1:=hyd hW1;have HR1:=hyd R1;have Hpre:=hyd hpre;have Hrest:=hyd hrest;have Hb2:=hyd hb2;have Hmo:=hyd hmo;have HWh:=hyd hW;have Hn:=hyd hn;have Hlen:=hyd hlen;have hrl:r.length<=ps.length:=by omega
 have hgA:nb<A:=by omega
 clear hR hW hp hb hpre hn hmo hA hW1 T1 x1 R1 hr hrest hts hb1 hb2 hlen hre hsz;go_enter Try.func96,Try.ntmps96;go_wp2_with fail;rw[<-HW1.out];refine HRE.out.mono ?_;rintro en w1 ⟨rfl,hB1⟩;have R2:=HR1.out.below hB1;have HCr:=hyd (HRow.out w1 R2.nf R2.net);rw[<-HA.out];clear HRE HRow HR1 HW1 hB1;go_wp2_with (first|(with_reducible show wpList _ _ _ (⟨_,Op.slice 155 _ _ _ _,_,_,_,_⟩::_) _ _;refine WO rfl _ _ _ rfl ad ps.length cap rfl 0 r.length (Or.inl ⟨rfl,rfl⟩) (Or.inr ⟨_,rfl,rfl⟩) (by omega) (by omega) ?_));refine HCr.out.mono ?_;rintro en w3 ⟨vh2,vb2,rfl,N3,F3⟩;have R3:=R2.call hgA N3 F3;obtain⟨b1,b2,b3⟩:=VZ w3 (YZ e1 n);have ht3:(w3.alloc (.cells (bl (fun _=>false) 193).toArray 178)).there w3.heap.size 0 193:=Yn (TC.boxed w3 _ _);obtain⟨L3,hL3⟩:=nam (bl (YZ e1 n) 193);obtain⟨W4,hW4⟩:=nam ((w3.alloc (.cells (bl (fun _=>false) 193).toArray 178)).setCells w3.heap.size 0 (bl (YZ e1 n) 193));rw[<-hW4]at b1 b2 b3;rw[<-hL3]at hW4 ⊢;have HL3l:Hid (L3.length=193):=by show _=_;rw[hL3];exact Y7 _ _
 have HOL3:Hid (L3.toArray.all (·.oneCell')=true):=by show _=true;rw[hL3];exact YK _ _
 have HW4:=hyd hW4;have HL3:=hyd hL3;have R4:=R3.below b2;rw[<-hL3]at b1;have rB:=b1.range;have hAw:=HA.out;rcases Hrest.out with ⟨h0,he⟩|⟨b,q,e2,h0,hb4,hq,he⟩
 ·subst he;have hpr:ps.length=r.length:=by have:=Hlen.out;rw[h0]at this;simpa using this
  have hge:(ps.length:Int)<=(r.length:Int):=by omega
  obtain⟨d1,d2,d3,d4⟩:=R4.done hgA (by omega) hnw (YZ e n);rw[<-hL3]at d1 d2 d3;obtain⟨WX,hWX⟩:=nam (W4.setCells A 0 L3);rw[<-hWX]at d1 d2 d3;have HWX:=hyd hWX;have Hfin:=hyd d1;clear hL3 hW4 b1 b2 b3 R2 R3 R4 hAw hWX d1 N3 F3 h0 hpr;go_wp2_with (first|(with_reducible refine gst 178 ?_;refine wpList_store_mid rfl 178 _ _ rfl w3.heap.size 0 L3.toArray rfl rfl (by simpa[HL3l.out]using ht3) (by simpa[HL3l.out]using Y2) HOL3.out ?_;rw[List.toList_toArray,<-HW4.out])|(with_reducible refine gld 178 ?_;refine wpList_load_mid rfl 178 _ rfl w3.heap.size 0 rfl L3 _ rB Try.underlying178 rfl (by rw[HL3l.out];exact Y2) ?_)|(with_reducible refine gst 178 ?_;refine wpList_store_mid rfl 178 _ _ rfl A 0 L3.toArray rfl rfl (by simpa[HL3l.out]using d4) (by simpa[HL3l.out]using Y2) HOL3.out ?_;rw[List.toList_toArray,<-HWX.out]));refine bodyPost_ret (v:=.agg L3.toArray) (res_load1 Try.results96 rfl Hfin.out) rfl ?_;exact⟨vh2,vb2,by rw[HL3.out],d2,d3⟩
 ·have hpr:ps.length=r.length+(q.length+1):=by have:=Hlen.out;rw[h0]at this;simpa using this
  have hge:¬((ps.length:Int)<=(r.length:Int)):=by omega
  have hb2:=Hb2.out;rw[h0]at hb2;have hb3:X9 Sm (ps.drop (r.length+1)) q:=by
   generalize hd:ps.drop r.length=dd at hb2;cases hb2 with
   |cons h t=>
    rw[<-List.drop_drop,hd];exact t
  have P:=Hpre.out;have hsz:e.sz=e1.sz+e2.sz:=by rw[he];rfl
  have hn96:n+e1.sz+e2.sz<=96:=by have:=Hn.out;omega
  have HCw:Hid (Calls Try.prog 96 #[.pointer (some ⟨nb,0,none⟩),.slice (Sp ad cap (r.length+1)) (ps.length-(r.length+1)) (cap-(r.length+1))] W4 (WC nb base vh2 vb2 (n+e1.sz) (Vq hs e1 n) (Vd bh e1 n) F e2 W4)):=by
   have h1:(ps.drop (r.length+1)).length=ps.length-(r.length+1):=by rw[List.length_drop]
   have h3:=(P.prt.nf P.sep R4.nf).sub (cap:=cap) (r.length+1) (ps.length-(r.length+1)) (by omega) hcap;rw[List.take_of_length_le (by rw[List.length_drop];omega)]at h3;have:=HWh.out q e2 (ps.drop (r.length+1)) (Sp ad cap (r.length+1)) (cap-(r.length+1)) nb base vh2 vb2 (n+e1.sz) (Vq hs e1 n) (Vd bh e1 n) F W4 hq hb3 ⟨R4.net,P.lnb,by have:=R4.nf.b.size;have:=P.bw;omega,h3,by omega,by omega,(P.sep.nf R4.nf).sub _ _⟩ hn96 (fun p hp=>Hmo.out p (List.mem_of_mem_drop hp));rw[h1]at this;exact this
  have HR4:=hyd R4;have Hb1:=hyd2 b1 b3;have HoB:Hid ((∀k,vh2.ownBlock=some k->k<w3.heap.size)/\(∀k,vb2.ownBlock=some k->k<w3.heap.size)/\nb<w3.heap.size):=⟨fun k hk=>(N3.h.blk k hk).2,fun k hk=>(N3.b.blk k hk).2,N3.c.lt⟩;have He:=hyd he;have hr1:(r.length:Int)+1<=100:=by omega
  have hc1:r.length+1<=ps.length:=by omega
  clear hW4 b1 b2 b3 R2 R3 R4 hAw N3 F3 h0 hb2 hb3 P hsz he hq rB hL3 hpr;go_wp2_with (first|(with_reducible refine gst 178 ?_;refine wpList_store_mid rfl 178 _ _ rfl w3.heap.size 0 L3.toArray rfl rfl (by simpa[HL3l.out]using ht3) (by simpa[HL3l.out]using Y2) HOL3.out ?_;rw[List.toList_toArray,<-HW4.out])|(with_reducible show wpList _ _ _ (⟨_,Op.slice 155 _ _ _ _,_,_,_,_⟩::_) _ _;refine Vl.out ?_)
   )
  refine⟨?_⟩
  (try simp only[psm])
  refine WO rfl _ _ _ rfl ad ps.length cap rfl (r.length+1) ps.length (Or.inr ⟨_,rfl,(by show Value.int .i64 ((r.length:Int)+1)=Value.int .i64 ((r.length+1:Nat):Int);simp)⟩) (Or.inl ⟨rfl,rfl⟩) hc1 hcap ?_;go_wp2_with fail;refine HCw.out.mono ?_;rintro en w5 ⟨vh3,vb3,rfl,N5,F5⟩;have R5:=HR4.out.call hgA N5 F5;obtain⟨c1,c2⟩:=Hb1.out;obtain⟨q1,q2,q3⟩:=HoB.out;have tB:=c1.block (F5.k w3.heap.size (by omega) (by omega) (fun x=>by have:=q1 _ x;omega) (fun x=>by have:=q2 _ x;omega));have hB5:=F5.b.size;obtain⟨b1,b2,b3⟩:=VZ w5 (YZ e2 (n+e1.sz));have ht5:(w5.alloc (.cells (bl (fun _=>false) 193).toArray 178)).there w5.heap.size 0 193:=Yn (TC.boxed w5 _ _);obtain⟨L5,hL5⟩:=nam (bl (YZ e2 (n+e1.sz)) 193);obtain⟨W6,hW6⟩:=nam ((w5.alloc (.cells (bl (fun _=>false) 193).toArray 178)).setCells w5.heap.size 0 (bl (YZ e2 (n+e1.sz)) 193));rw[<-hW6]at b1 b2 b3;rw[<-hL5]at hW6 ⊢;have HL5l:Hid (L5.length=193):=by show _=_;rw[hL5];exact Y7 _ _
  have HOL5:Hid (L5.toArray.all (·.oneCell')=true):=by show _=true;rw[hL5];exact YK _ _
  have HW6:=hyd hW6;have R6:=R5.below b2;have tB6:=tB.block (b2.block w3.heap.size (by omega));rw[<-hL5]at b1;have rB:=tB6.range;have rC:=b1.range;have HCe:Hid (Calls Try.prog 111 #[.agg L3.toArray,.agg L5.toArray] W6 fun en w'=>en=.returned (.agg (bl (YZ e n) 193).toArray)/\Below W6.heap.size W6 w'):=by
   have:=MR (YZ e1 n) (YZ e2 (n+e1.sz)) W6;rw[<-HL3.out,<-hL5,YO (g:=YZ e n) (fun i _=>by rw[He.out];exact LO e1 e2 n i)]at this;exact this
  have HR6:=hyd R6;clear hL5 hW6 b1 b2 b3 R5 R6 tB tB6 N5 F5 c1 c2 q1 q2 q3 hB5 HR4 HCw HoB Hb1;go_wp2_with (first|(with_reducible refine gst 178 ?_;refine wpList_store_mid rfl 178 _ _ rfl w5.heap.size 0 L5.toArray rfl rfl (by simpa[HL5l.out]using ht5) (by simpa[HL5l.out]using Y2) HOL5.out ?_;rw[List.toList_toArray,<-HW6.out])|(with_reducible refine gld 178 ?_;refine wpList_load_mid rfl 178 _ rfl w3.heap.size 0 rfl L3 _ rB Try.underlying178 rfl (by rw[HL3l.out];exact Y2) ?_)|(with_reducible refine gld 178 ?_;refine wpList_load_mid rfl 178 _ rfl w5.heap.size 0 rfl L5 _ rC Try.underlying178 rfl (by rw[HL5l.out];exact Y2) ?_));refine HCe.out.mono ?_;rintro en w7 ⟨rfl,hB7⟩;have R7:=HR6.out.below hB7;have hAw:=HA.out;obtain⟨d1,d2,d3,d4⟩:=R7.done hgA (by omega) hnw (YZ e n);obtain⟨M,hM⟩:=nam (bl (YZ e n) 193);rw[<-hM]at d1 d2 d3 ⊢;obtain⟨WX,hWX⟩:=nam (w7.setCells A 0 M);rw[<-hWX]at d1 d2 d3;have HWX:=hyd hWX;have Hfin:=hyd d1;have HMl:Hid (M.length=193):=by show _=_;rw[hM];exact Y7 _ _
  have HOM:Hid (M.toArray.all (·.oneCell')=true):=by show _=true;rw[hM];exact YK _ _
  have HM:=hyd hM;have NX:YF nb base vh3 vb3 (n+e.sz) (Vq hs e n) (Vd bh e n) F WX:=by
   have hsz:(Rx.alt e1 e2).sz=e1.sz+e2.sz:=rfl;rw[He.out,hsz,<-Nat.add_assoc];exact d2.congr (fun p q _ _=>IB hs e1 e2 n p q) (fun p q _ _=>Ir bh e1 e2 n p q)
  clear hM hWX d1 d2 R7 hAw rB rC hB7;go_wp2_with (first|(with_reducible refine gst 178 ?_;refine wpList_store_mid rfl 178 _ _ rfl A 0 M.toArray rfl rfl (by simpa[HMl.out]using d4) (by simpa[HMl.out]using Y2) HOM.out ?_;rw[List.toList_toArray,<-HWX.out]));refine bodyPost_ret (v:=.agg M.toArray) (res_load1 Try.results96 rfl Hfin.out) rfl ?_;exact⟨vh3,vb3,by rw[HM.out],NX,d3⟩
end Go.Proofs.Ytoaaklhpmhjhkab
