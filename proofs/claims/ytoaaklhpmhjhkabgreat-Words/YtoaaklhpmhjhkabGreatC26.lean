import Derived.Test.YtoaaklhpmhjhkabGreatC25
set_option maxRecDepth 100000
set_option maxHeartbeats 4000000
set_option linter.all false
namespace Go.Proofs.YtoaaklhpmhjhkabGreat
open Go.RowKit
open Bm
open Pg (Pt)
variable {a:Act}{ops:Array Oper}{fa kd le mo pl:Int}{rest:List Oper}{L:List Value}{D base g m m2 nb:Nat}{F:N_}{bh bh2 hs hs2:Nat->N_}{op:Oper}{vb vb' vb2 vh vh' vh2:Value}{w w' w'':World}
theorem YF.tc {f:Nat->Bool} (h:YF g kd pl f le mo fa w):TC g (Y0 kd pl f le mo fa) w:=fun k v hv=>by
 have hk:k<261:=by have:=(List.getElem?_eq_some_iff.1 hv).1;rw[Y9]at this;exact this
 have h1:=h.at_ k v hv;rw[Nat.zero_add]at h1;exact⟨h1,h.fr k hk⟩
structure RD (nb base:Nat) (vh vb vh' vb':Value) (m:Nat) (hs bh:Nat->Nat->Bool) (F:Nat->Bool) (L:List Value) (w w':World) (A D:Nat):Prop where
 net:YH nb base vh' vb' m hs bh F w'
 nf:NF nb vh vb vh' vb' w w'
 a:TC A (bl (fun _=>false) 193) w'
 d:TC D L w'
 dl:D<w'.heap.size
 o1:∀k,vh'.ownBlock=some k->k<A\/D<k
 o2:∀k,vb'.ownBlock=some k->k<A\/D<k
theorem RD.ra {A:Nat} (h:RD nb base vh vb vh' vb' m hs bh F L w w' A D) (hAD:A<D):RA nb base vh vb vh' vb' m hs bh F w w' A:=
 ⟨h.net,h.nf,h.a,fun k hk=>by have:=h.o1 k hk;omega,fun k hk=>by have:=h.o2 k hk;omega⟩
theorem RD.below {A:Nat} (h:RD nb base vh vb vh' vb' m hs bh F L w w' A D) (hW:Below w'.heap.size w' w''):RD nb base vh vb vh' vb' m hs bh F L w w'' A D:=
 ⟨h.net.below hW,h.nf.trans (NF.of _ _ (by have:=h.net.c.lt;omega) hW),h.a.block (hW.block _ h.a.ltB),h.d.block (hW.block _ h.dl),by have:=hW.size;have:=h.dl;omega,h.o1,h.o2⟩
theorem RD.call {A:Nat} (h:RD nb base vh vb vh' vb' m hs bh F L w w' A D) (hA:nb<A) (hD:A<D) (hN:YH nb base vh2 vb2 m2 hs2 bh2 F w'') (hF:NF nb vh' vb' vh2 vb2 w' w''):RD nb base vh vb vh2 vb2 m2 hs2 bh2 F L w w'' A D:=by
 have ha:=h.a.ltB;have hd:=h.dl;have hs:=hF.b.size;refine⟨hN,h.nf.trans hF,h.a.block (hF.k A ha (by omega) (fun e=>by have:=h.o1 A e;omega) (fun e=>by have:=h.o2 A e;omega)),h.d.block (hF.k D hd (by omega) (fun e=>by have:=h.o1 D e;omega) (fun e=>by have:=h.o2 D e;omega)),by omega,fun k hk=>?_,fun k hk=>?_⟩
 ·rcases hF.oh k hk with e|e
  ·exact h.o1 k e
  ·exact Or.inr (by omega)
 ·rcases hF.ob k hk with e|e
  ·exact h.o2 k e
  ·exact Or.inr (by omega)
theorem RD.mine {A C:Nat} (h:RD nb base vh vb vh' vb' m hs bh F L w w' A D) (hA:nb<A) (hD:A<D) (hw:w.heap.size<=A) (hnb:nb<w.heap.size) (hC:D<C) (h1:∀k,vh'.ownBlock=some k->k≠C) (h2:∀k,vb'.ownBlock=some k->k≠C) (hg:w'.grownBy w'' (some C)):RD nb base vh vb vh' vb' m hs bh F L w w'' A D:=
 ⟨h.net.mine hg (by omega) (fun e=>h1 _ e rfl) (fun e=>h2 _ e rfl),h.nf.mine hg (by omega) hnb,h.a.block (hg.block A h.a.ltB (fun e=>by have:=Option.some.inj e;omega)),h.d.block (hg.block D h.dl (fun e=>by have:=Option.some.inj e;omega)),by have:=hg.size;have:=h.dl;omega,h.o1,h.o2⟩
variable {ts:List Tq}{e:Rx}
theorem ME {f:Nat} (h:Pp f 0 ts e) (h0:e.sz=0):e=.eps:=by
 rcases f with _|f
 ·exact absurd h (by simp[Pp])
 unfold Pp at h;rcases h with ⟨q,_,_,_,rfl⟩|⟨_,_,_,e0,_,_,_,_,_,_,rfl⟩|⟨_,_,e0,_,_,_,_,rfl⟩
 ·simp[Rx.sz]at h0
 ·rw[Rx.nz_sz]at h0;unfold Rx.nz;rw[if_pos h0]
 ·rw[Rx.nz_sz]at h0;unfold Rx.nz;rw[if_pos h0]
theorem GG (h:e.nz.sz≠0):e.nz=e:=by rw[Rx.nz_sz]at h;unfold Rx.nz;rw[if_neg h]
theorem KX (f:Nat->Bool) (n i:Nat) (hn:n<96):Y1 (.lit f) n i=GI n i:=by
 unfold Y1 GI;by_cases h0:i=0
 ·subst h0;simp[Rx.nul];omega
 ·by_cases h1:i<97
  ·simp only[h0,h1,if_true,if_false,Rx.fst];by_cases h2:i=1+n
   ·subst h2;simp
   ·rw[show(i-1==n)=false by simp;omega,show(i==1+n)=false by simpa using h2,show(i==97+n)=false by simp;omega];rfl
  ·simp only[h0,h1,if_false,Rx.lst];by_cases h2:i=97+n
   ·subst h2;simp
   ·rw[show(i-97==n)=false by simp;omega,show(i==97+n)=false by simpa using h2,show(i==1+n)=false by simp;omega];rfl
theorem On {Q:Act->Prop} (hw:Region.wanted op (yielded ops a.tmps)=true) (x:Operand) (hi:Operand) (ho:op.op=.slice 103 x none (some hi) none)
  (ad:Option Addr) (len cap:Nat) (hx:a.eval x=.slice ad len cap) (h:Nat) (hh:a.eval hi=.int .i64 h) (h2:h<=cap)
  (hk:wpStill Tryz.prog ops w Q rest (a.put op.dst (.slice (RL ad cap 0) (h-0) (cap-0)))):wpStill Tryz.prog ops w Q (op::rest) a:=
 wpStill_step fun K hK=>by
  rw[if_pos hw];unfold Oper.still execOp;have hs:(sizeOf 156).run Tryz.prog w=.ok 261 w:=by kernel_rfl
  have e1:∀c,(Instr.sliceBound (.int .i64 (h:Int)) cap c).run Tryz.prog w=.ok h w:=fun c=>by simp[Instr.sliceBound,asIntOf,Sem.run_ite];omega
  have e3:(Instr.sliceBounds true len cap none (some (.int .i64 (h:Int))) none).run Tryz.prog w=.ok (0,h,cap) w:=by simp[Instr.sliceBounds,e1]
  have hr:(Instr.sliceAt 103 (.slice ad len cap) none (some (.int .i64 (h:Int))) none).run Tryz.prog w=.ok (.slice (RL ad cap 0) (h-0) (cap-0)) w:=by
   simp only[Instr.sliceAt,Instr.slice,Sem.run_bind,run_underlying u_k,Result.andThen_ok,e3,hs,Sem.run_pure];rfl
  simp only[ho,hx,Sem.run_bind,Option.map_none,Option.map_some,hh,hr,Result.andThen_ok,Sem.run_pure];exact⟨rfl,hK _ hk⟩
variable {ps:List Pt}
theorem UO {f:Nat}{p:Pt} (h:Pp (f+1) 0 ts e) (hb:X9 Sm ps ts) (hm:ps.length=m+1) (hp:ps[m]?=some p):
  (p.kd=1/\e=.lit p.f)\/(p.kd=3/\∃inn e0,Pp f 2 inn e0/\e=e0.nz/\X9 Sm ((ps.drop 1).take (m-1)) inn/\inn.length=m-1/\1<=m) \/
  ((p.kd=5\/p.kd=6\/p.kd=7\/p.kd=8)/\∃q e0 le mo,Pp f 0 q e0/\X9 Sm (ps.take m) q/\q.length=m/\e=(Rx.suf p.kd le mo e0).nz/\(p.kd=8->p.le=((le:Nat):Int)/\p.mo=((mo:Nat):Int)/\le<=9/\mo<=9)):=by
 have last:∀(a:List Tq) (t:Tq),X9 Sm ps (a++[t])->a.length=m/\X9 Sm (ps.take m) a/\Sm p t:=fun a t hab=>by
  have hl:=hab.len;have ham:a.length=m:=by simp at hl;omega
  obtain⟨h1,h2⟩:=X9.split _ _ _ hab;rw[ham]at h1 h2;refine⟨ham,h1,?_⟩;have:ps.drop m=[p]:=by
   have hlt:m<ps.length:=by omega
   rw[List.drop_eq_getElem_cons hlt,List.drop_of_length_le (by omega)];rw[List.getElem?_eq_getElem hlt]at hp;rw[Option.some.inj hp]
  rw[this]at h2;cases h2 with
  |cons h t=>exact h
 unfold Pp at h;rcases h with ⟨q,rfl,h2,h3,rfl⟩|⟨a,inn,b,e0,rfl,h2,h3,h4,h5,h6,rfl⟩|⟨q,t,e0,rfl,h2,h3,h4,rfl⟩
 ·obtain⟨_,_,hs⟩:=last [] q hb;exact Or.inl ⟨by rw[hs.1];exact h3,by rw[hs.2.2.1]⟩
 ·obtain⟨l1,l2,hs⟩:=last (a::inn) b hb;refine Or.inr (Or.inl ⟨by rw[hs.1];exact h5,inn,e0,h6,rfl,?_,by simp at l1;omega,by simp at l1;omega⟩);have l3:=(X9.split [a] inn _ l2).2;rw[List.drop_take]at l3;simpa using l3
 ·obtain⟨l1,l2,hs⟩:=last q t hb;have hk:p.kd=5\/p.kd=6\/p.kd=7\/p.kd=8:=by rw[hs.1];exact h4
  refine Or.inr (Or.inr ⟨hk,q,e0,t.le.toNat,t.t.mo.toNat,h2,l2,l1,by rw[hs.1],fun h8=>?_⟩);have h8':t.t.kd=8:=by rw[<-hs.1];exact h8
  obtain⟨x,r,_,x1,x2,x3⟩:=h3.2.2 h8';have hm:=Pz h3.1 h8';have hm9:t.t.mo<=9:=by
   rcases hm.2 with ⟨y,_,y1,y2,y3⟩|⟨y,z,_,_,_,y1,y2,y3⟩<;>omega
  rw[hs.2.2.2 h8,hs.2.1];omega
theorem Jw (f:Nat) (hP:Sk 94 0 f) (hW:Sk 68 2 f):Sk 94 0 (f+1):=by
 intro ts e ps ad cap nb base vh vb n hs bh F w hp hb hpre hn hmo;have hz:=Xh;have hnw:=hpre.net.c.lt;obtain⟨A,hA⟩:∃A,A=w.heap.size:=⟨_,rfl⟩;obtain⟨W1,hW1⟩:∃W,W=w.alloc (.cells (bl (fun _=>false) 193).toArray 142):=⟨_,rfl⟩;have T1:=TC.boxed w (bl (fun _=>false) 193) 142;have x1:=box_bel w (.cells (bl (fun _=>false) 193).toArray 142);rw[<-hW1]at T1 x1;rw[<-hA]at T1;have hb1:=hpre.net.h.blk;have hb2:=hpre.net.b.blk;have R1:RA nb base vh vb vh vb n hs bh F w W1 A:=
  ⟨hpre.net.below x1,NF.of vh vb (by omega) x1,T1,fun k hk=>Or.inl (by have:=(hb1 k hk).2;omega),fun k hk=>Or.inl (by have:=(hb2 k hk).2;omega)⟩
 have HCP:Hid (Calls Tryz.prog 63 #[.slice ad ps.length cap] W1 fun en w'=>en=.returned (.int .i64 (Pg.capped e.sz))/\Below W1.heap.size W1 w'):=by
  have:=OC ad cap ps W1 hpre.len (hpre.prt.below x1) hmo;rw[Nd hp hb]at this;exact this
 have hcz:=M7 (n:=e.sz);have hcn:=Wd (a:=(e.sz:Int)) (by omega);have HA:Hid (A=w.heap.size):=hA;have HW1:Hid (W1=w.alloc (.cells (bl (fun _=>false) 193).toArray 142)):=hW1;have HR1:Hid (RA nb base vh vb vh vb n hs bh F w W1 A):=R1;have hgA:nb<A:=by omega
 by_cases h0:e.sz=0
 ·have he:=ME hp h0;subst he;have hcc:Pg.capped (Rx.eps.sz:Nat)=0:=rfl;rw[hcc]at HCP;clear hP hW hp hb hpre hn hmo hA hW1 T1 x1 R1 hb1 hb2 hcz hcn h0 hcc;go_enter Tryz.func94,Tryz.ntmps94;go_wp2_with fail;rw[<-HW1.out];refine HCP.out.mono ?_;rintro en w1 ⟨rfl,hB1⟩;go_wp2_with fail;refine Calls.mono (UL w1) ?_;rintro en w2 ⟨rfl,hB2⟩;have R2:=(HR1.out.below hB1).below hB2;have hAw:=HA.out;obtain⟨d1,d2,d3,d4⟩:=R2.done hgA (by omega) hnw (Y1 .eps n);obtain⟨M,hM⟩:∃M,M=bl (Y1 .eps n) 193:=⟨_,rfl⟩;rw[<-hM]at d1 d2 d3;have hM2:bl TR 193=M:=by rw[hM];exact(YR (fun i hi=>Sx n i hi)).symm
  rw[hM2];obtain⟨WX,hWX⟩:∃W,W=w2.setCells A 0 M:=⟨_,rfl⟩;rw[<-hWX]at d1 d2 d3;have HWX:Hid (WX=w2.setCells A 0 M):=hWX;have Hfin:Hid ((loadVar 142 ⟨A,0,none⟩).run Tryz.prog WX=.ok (.agg M.toArray) WX):=d1;have HMl:Hid (M.length=193):=by show _=_;rw[hM];exact Y7 _ _
  have HOM:Hid (M.toArray.all (·.oneCell')=true):=by show _=true;rw[hM];exact YO _ _
  have HM:Hid (M=bl (Y1 .eps n) 193):=hM;rw[<-HA.out];clear hM hM2 hWX d1 R2 hAw hB1 hB2 HR1 HW1;go_wp2_with (first|(with_reducible refine gst 142 ?_;refine wpList_store_mid rfl 142 _ _ rfl A 0 M.toArray rfl rfl (by simpa[HMl.out]using d4) (by simpa[HMl.out]using Y3) HOM.out ?_;rw[List.toList_toArray,<-HWX.out]));refine bodyPost_ret (v:=.agg M.toArray) (res_load1 Tryz.results94 rfl Hfin.out) rfl ?_;exact⟨vh,vb,by rw[HM.out],Mx d2,d3⟩
 have hcq:(Pg.capped (e.sz:Int)==0)=false:=by
  have:¬Pg.capped (e.sz:Int)=0:=fun h=>h0 (hcz.1 h)
  simpa using this
 have hlp:0<ps.length:=by
  obtain⟨q,r,h,_⟩:=TO hp;have:=hb.len;rw[h]at this;simp at this;omega
 obtain⟨m,hm⟩:∃m,ps.length=m+1:=⟨ps.length-1,by omega⟩;obtain⟨p,hpp⟩:∃p,ps[m]?=some p:=⟨ps[m],List.getElem?_eq_getElem (by omega)⟩;have Hm:Hid (ps.length=m+1):=hm;have Hps:Hid (ps[m]?=some p):=hpp;have Hpre:Hid (UD nb base vh vb n hs bh F ad cap ps w):=hpre;have Hp:Hid (Pp (f+1) 0 ts e):=hp;have Hb:Hid (X9 Sm ps ts):=hb;have Hmo:Hid (∀p∈ps,0<=p.mo/\p.mo<=9):=hmo;have Hn:Hid (n+e.sz<=96):=hn;have HP:Hid (Sk 94 0 f):=hP;have HWh:Hid (Sk 68 2 f):=hW;have Hob:Hid ((∀k,vh.ownBlock=some k->k<A)/\(∀k,vb.ownBlock=some k->k<A)):=⟨fun k hk=>by have:=(hb1 k hk).2;omega,fun k hk=>by have:=(hb2 k hk).2;omega⟩;have hsub:(ps.length:Int)-1=(m:Int):=by omega
 have hmlt:(m:Int)<(ps.length:Int):=by omega
 have hml:m<=cap:=by have:=hpre.lcap;omega
 have hm100:(ps.length:Int)<=100:=by have:=hpre.len;omega
 have hcap:=hpre.lcap;clear hP hW hp hb hpre hn hmo hA hW1 T1 x1 R1 hb1 hb2 hcz hlp hm hpp;go_enter Tryz.func94,Tryz.ntmps94;go_wp2_with fail;rw[<-HW1.out];refine HCP.out.mono ?_;rintro en w1 ⟨rfl,hB1⟩;have R2:=HR1.out.below hB1;obtain⟨g,o,e1,hr0⟩:=Hpre.out.prt.nf Hpre.out.sep R2.nf m p Hps.out;have hr:w1.rangeAt g (o+m*261) (Y0 p.kd p.pl p.f p.le p.mo p.fa):=hr0;subst e1;have hzp:=X5 w1;have hN:=YF.boxed w1 0 0 (fun _=>false) 0 0 0 156;have hNf:=hN.free;have hM:=hN.put p.kd p.pl p.f p.le p.mo p.fa;obtain⟨W2,hW2⟩:∃W,W=((w1.alloc (Obj.cells (Y0 0 0 (fun _=>false) 0 0 0).toArray 156)).setCells w1.heap.size 0 (Y0 p.kd p.pl p.f p.le p.mo p.fa)):=⟨_,rfl⟩;have hB2:Below w1.heap.size w1 W2:=by rw[hW2];exact((Below.refl _ _).alloc (Nat.le_refl _) _).trans (Y4 w1.heap.size w1.heap.size 0 (Nat.le_refl _) _ _ 0)
 rw[<-hW2]at hM;obtain⟨D,hD⟩:∃D,D=w1.heap.size:=⟨_,rfl⟩;have hAD:A<D:=by have:=R2.a.ltB;omega
 have hob:=Hob.out;have RD2:RD nb base vh vb vh vb n hs bh F (Y0 p.kd p.pl p.f p.le p.mo p.fa) w W2 A D:=by
  have R3:=R2.below hB2;rw[<-hD]at hM;exact⟨R3.net,R3.nf,R3.a,hM.tc,hM.lt,fun k hk=>Or.inl (hob.1 k hk),fun k hk=>Or.inl (hob.2 k hk)⟩
 have HW2:Hid (W2=((w1.alloc (Obj.cells (Y0 0 0 (fun _=>false) 0 0 0).toArray 156)).setCells w1.heap.size 0 (Y0 p.kd p.pl p.f p.le p.mo p.fa))):=hW2;have HD:Hid (D=w1.heap.size):=hD;have HRD:Hid (RD nb base vh vb vh vb n hs bh F (Y0 p.kd p.pl p.f p.le p.mo p.fa) w W2 A D):=RD2;have hcd:∀(j:Nat) (v:Value),(Y0 p.kd p.pl p.f p.le p.mo p.fa)[j]?=some v->W2.cell? ⟨w1.heap.size,j,none⟩=some v:=fun j v hv=>by rw[<-hD];exact(RD2.d j v hv).1
 have k0:=hcd 0 _ rfl;have k3:=hcd 258 (.int .i64 p.le) (by rw[show 258=258+0 from rfl,WN];rfl);have k4:=hcd 259 (.int .i64 p.mo) (by rw[show 259=258+1 from rfl,WN];rfl);have hset:W2.rangeAt w1.heap.size 2 (bl p.f 256):=hM.set;rw[<-HA.out];clear hN hM hW2 hB2 hD RD2 hcd R2 hr0 hB1 HR1 HW1 hob;by_cases hk1:p.kd=1
 ·have he:e=.lit p.f:=by
   rcases UO Hp.out Hb.out Hm.out Hps.out with ⟨_,h⟩|⟨h,_⟩|⟨h,_⟩
   ·exact h
   ·omega
   ·omega
  subst he;have hn96:n<96:=by have:=Hn.out;simp[Rx.sz]at this;omega
  rw[hk1]at k0;have HCl:Hid (Calls Tryz.prog 103 #[.pointer (some ⟨nb,0,none⟩),.agg (bl p.f 256).toArray] W2 fun en w'=>∃vh' vb',en=.returned (.agg (bl (GI n) 193).toArray)/\YH nb base vh' vb' (n+1) (fun q=>if q=n then p.f else hs q) (fun q=>if q=n then (fun _=>false) else bh q) F w'/\NF nb vh vb vh' vb' W2 w'):=
   KR nb base vh vb n hs bh F p.f W2 HRD.out.net Hpre.out.lnb (by have:=HRD.out.nf.b.size;have:=Hpre.out.bw;omega) hn96
  clear k3 k4 hk1;go_wp2_with (first|(with_reducible refine gld 156 ?_;refine wpList_load_mid rfl 156 _ rfl _ _ rfl _ _ hr u_a rfl (by rw[Y9];exact Y8) ?_)|(with_reducible refine gst 156 ?_;refine wpList_store_mid rfl 156 _ _ rfl _ _ _ rfl rfl (by simpa[Y9]using hNf) (by simpa[Y9]using Y8) (all_oneCell_toArray (YZ _ _ _ _ _ _)) ?_;rw[List.toList_toArray,<-HW2.out])|(with_reducible refine gld 146 ?_;refine wpList_load_mid rfl 146 _ rfl w1.heap.size 2 rfl (bl p.f 256) _ hset u_d rfl (by rw[Y7];exact Ss) ?_));refine HCl.out.mono ?_;rintro en w5 ⟨vh2,vb2,rfl,N5,F5⟩;have N6:YH nb base vh2 vb2 (n+(Rx.lit p.f).sz) (Va hs (.lit p.f) n) (UW bh (.lit p.f) n) F w5:=by
   refine YH.congr (show YH nb base vh2 vb2 (n+1) _ _ F w5 from N5) (fun q b hq _=>?_) (fun q b hq _=>?_)
   ·unfold Va;by_cases hqn:q=n
    ·subst hqn;simp[Rx.has]
    ·have hqn':q<n:=by simp only[Rx.sz]at hq;omega
     simp[hqn,hqn']
   ·unfold UW;by_cases hqn:q=n
    ·subst hqn;simp[Rx.fol]
    ·have hqn':q<n:=by simp only[Rx.sz]at hq;omega
     simp[hqn,hqn']
  have R9:=(HRD.out.call hgA hAD N6 F5).ra hAD;have hrl:bl (GI n) 193=bl (Y1 (.lit p.f) n) 193:=YR (fun i _=>(KX p.f n i hn96).symm);rw[hrl];clear hrl N5 F5 HRD HCl hset;have hAw:=HA.out;obtain⟨d1,d2,d3,d4⟩:=R9.done hgA (by omega) hnw (Y1 (.lit p.f) n);obtain⟨M,hM⟩:∃M,M=bl (Y1 (.lit p.f) n) 193:=⟨_,rfl⟩;rw[<-hM]at d1 d2 d3 ⊢;obtain⟨WX,hWX⟩:∃W,W=w5.setCells A 0 M:=⟨_,rfl⟩;rw[<-hWX]at d1 d2 d3;have HWX:Hid (WX=w5.setCells A 0 M):=hWX;have Hfin:Hid ((loadVar 142 ⟨A,0,none⟩).run Tryz.prog WX=.ok (.agg M.toArray) WX):=d1;have HMl:Hid (M.length=193):=by show _=_;rw[hM];exact Y7 _ _
  have HOM:Hid (M.toArray.all (·.oneCell')=true):=by show _=true;rw[hM];exact YO _ _
  have HM:Hid (M=bl (Y1 (.lit p.f) n) 193):=hM;clear hM hWX d1 hAw;go_wp2_with (first|(with_reducible refine gst 142 ?_;refine wpList_store_mid rfl 142 _ _ rfl A 0 M.toArray rfl rfl (by simpa[HMl.out]using d4) (by simpa[HMl.out]using Y3) HOM.out ?_;rw[List.toList_toArray,<-HWX.out]));refine bodyPost_ret (v:=.agg M.toArray) (res_load1 Tryz.results94 rfl Hfin.out) rfl ?_;exact⟨vh2,vb2,by rw[HM.out],d2,d3⟩
 have q1:(p.kd==1)=false:=by simpa using hk1
 by_cases hk3:p.kd=3
 ·obtain⟨inn,e0,hq,he,hbi,hil,hm1⟩:∃inn e0,Pp f 2 inn e0/\e=e0.nz/\X9 Sm ((ps.drop 1).take (m-1)) inn/\inn.length=m-1/\1<=m:=by
   rcases UO Hp.out Hb.out Hm.out Hps.out with ⟨h,_⟩|⟨_,h⟩|⟨h,_⟩
   ·omega
   ·exact h
   ·omega
  have he0:e=e0:=by rw[he];exact GG (by rw[<-he];exact h0)
  subst he0;have P:=Hpre.out;rw[hk3]at k0;have HCw:Hid (Calls Tryz.prog 68 #[.pointer (some ⟨nb,0,none⟩),.slice (RL (some ⟨g,o,none⟩) cap 1) (m-1) (cap-1)] W2 (WB nb base vh vb n hs bh F e W2)):=by
   have hmm:=Hm.out;have h1:((ps.drop 1).take (m-1)).length=m-1:=by rw[List.length_take,List.length_drop];omega
   have h3:=(P.prt.nf P.sep HRD.out.nf).sub (cap:=cap) 1 (m-1) (by omega) hcap;have:=HWh.out inn e ((ps.drop 1).take (m-1)) (RL (some ⟨g,o,none⟩) cap 1) (cap-1) nb base vh vb n hs bh F W2 hq hbi ⟨HRD.out.net,P.lnb,by have:=HRD.out.nf.b.size;have:=P.bw;omega,h3,by have:=P.len;omega,by omega,(P.sep.nf HRD.out.nf).sub _ _⟩ Hn.out (fun x hx=>Hmo.out x (List.mem_of_mem_drop (List.mem_of_mem_take hx)));rw[h1]at this;exact this
  clear k3 k4 hk3 hk1 P hq he hbi hil;go_wp2_with (first|(with_reducible refine gld 156 ?_;refine wpList_load_mid rfl 156 _ rfl _ _ rfl _ _ hr u_a rfl (by rw[Y9];exact Y8) ?_)|(with_reducible refine gst 156 ?_;refine wpList_store_mid rfl 156 _ _ rfl _ _ _ rfl rfl (by simpa[Y9]using hNf) (by simpa[Y9]using Y8) (all_oneCell_toArray (YZ _ _ _ _ _ _)) ?_;rw[List.toList_toArray,<-HW2.out])|(with_reducible show wpList _ _ _ (⟨_,Op.slice 103 _ _ _ _,_,_,_,_⟩::_) _ _;refine Wg.out ?_));refine⟨?_⟩
  (try simp only[psm])
  refine WR rfl _ _ _ rfl (some ⟨g,o,none⟩) ps.length cap rfl 1 m (Or.inr ⟨_,rfl,rfl⟩) (Or.inr ⟨_,rfl,rfl⟩) hm1 hml ?_;go_wp2_with fail;refine HCw.out.mono ?_;rintro en w5 ⟨vh2,vb2,rfl,N5,F5⟩;have R9:=(HRD.out.call hgA hAD N5 F5).ra hAD;clear N5 F5 HRD HCw hset;have hAw:=HA.out;obtain⟨d1,d2,d3,d4⟩:=R9.done hgA (by omega) hnw (Y1 e n);obtain⟨M,hM⟩:∃M,M=bl (Y1 e n) 193:=⟨_,rfl⟩;rw[<-hM]at d1 d2 d3 ⊢;obtain⟨WX,hWX⟩:∃W,W=w5.setCells A 0 M:=⟨_,rfl⟩;rw[<-hWX]at d1 d2 d3;have HWX:Hid (WX=w5.setCells A 0 M):=hWX;have Hfin:Hid ((loadVar 142 ⟨A,0,none⟩).run Tryz.prog WX=.ok (.agg M.toArray) WX):=d1;have HMl:Hid (M.length=193):=by show _=_;rw[hM];exact Y7 _ _
  have HOM:Hid (M.toArray.all (·.oneCell')=true):=by show _=true;rw[hM];exact YO _ _
  have HM:Hid (M=bl (Y1 e n) 193):=hM;clear hM hWX d1 hAw;go_wp2_with (first|(with_reducible refine gst 142 ?_;refine wpList_store_mid rfl 142 _ _ rfl A 0 M.toArray rfl rfl (by simpa[HMl.out]using d4) (by simpa[HMl.out]using Y3) HOM.out ?_;rw[List.toList_toArray,<-HWX.out]));refine bodyPost_ret (v:=.agg M.toArray) (res_load1 Tryz.results94 rfl Hfin.out) rfl ?_;exact⟨vh2,vb2,by rw[HM.out],d2,d3⟩
 have q3:(p.kd==3)=false:=by simpa using hk3
 obtain⟨hks,q,e0,le,mo,hq,hbq,hql,he,hle8⟩:(p.kd=5\/p.kd=6\/p.kd=7\/p.kd=8)/\∃q e0 le mo,Pp f 0 q e0/\X9 Sm (ps.take m) q/\q.length=m/\e=(Rx.suf p.kd le mo e0).nz/\(p.kd=8->p.le=((le:Nat):Int)/\p.mo=((mo:Nat):Int)/\le<=9/\mo<=9):=by
  rcases UO Hp.out Hb.out Hm.out Hps.out with ⟨h,_⟩|⟨h,_⟩|h
  ·omega
  ·omega
  ·exact h
 have he0:e=Rx.suf p.kd le mo e0:=by rw[he];exact GG (by rw[<-he];exact h0)
 have P:=Hpre.out;have h1:(ps.take m).length=m-0:=by rw[List.length_take];have:=Hm.out;omega
 have hsb:∀W,NF nb vh vb vh vb w W->PS (RL (some ⟨g,o,none⟩) cap 0) (ps.take m) W:=fun W hf=>by
  have h3:=(P.prt.nf P.sep hf).sub (cap:=cap) 0 m (by have:=Hm.out;omega) hcap;rw[List.drop_zero]at h3;exact h3
 have Hsb:Hid (∀W,NF nb vh vb vh vb w W->PS (RL (some ⟨g,o,none⟩) cap 0) (ps.take m) W):=hsb;have hl100:(ps.take m).length<=100:=by rw[List.length_take];have:=P.len;omega
 clear hsb;by_cases hk8:p.kd=8
 ·have he1:e=Rx.rowOf (Rx.copies e0 le mo):=by rw[he0,hk8];rfl
  obtain⟨l1,l2,l3,l4⟩:=hle8 hk8;rw[hk8]at k0;rw[l1]at k3;rw[l2]at k4;have hsz:e.sz=mo*e0.sz:=by rw[he1];exact Rx.copies_sz e0 le mo
  have HRD3:Hid (RD nb base vh vb vh vb n hs bh F (Y0 p.kd p.pl p.f p.le p.mo p.fa) w W2.drew A D):=HRD.out.below (Below.refl _ _).drew;have HCc:Hid (Calls Tryz.prog 104 #[.pointer (some ⟨nb,0,none⟩),.slice (RL (some ⟨g,o,none⟩) cap 0) (m-0) (cap-0),.int .i64 le,.int .i64 mo] W2.drew (WB nb base vh vb n hs bh F e W2.drew)):=by
   have:=Mb f HP.out q e0 (ps.take m) (RL (some ⟨g,o,none⟩) cap 0) (cap-0) nb base vh vb n hs bh F le mo W2.drew hq hbq ⟨HRD3.out.net,P.lnb,by have:=HRD3.out.nf.b.size;have:=P.bw;omega,Hsb.out _ HRD3.out.nf,hl100,by omega,(P.sep.nf HRD3.out.nf).sub _ _⟩ (by have:=Hn.out;omega) (fun x hx=>Hmo.out x (List.mem_of_mem_take hx)) l4 l3;rw[h1,<-he1]at this;exact this
  clear hk8 hk3 hk1 P hq he hbq hql hle8 l1 l2 l3 l4 he0 he1 hsz h1 Hsb hl100 hks;go_wp2_with (first|(with_reducible refine gld 156 ?_;refine wpList_load_mid rfl 156 _ rfl _ _ rfl _ _ hr u_a rfl (by rw[Y9];exact Y8) ?_)|(with_reducible refine gst 156 ?_;refine wpList_store_mid rfl 156 _ _ rfl _ _ _ rfl rfl (by simpa[Y9]using hNf) (by simpa[Y9]using Y8) (all_oneCell_toArray (YZ _ _ _ _ _ _)) ?_;rw[List.toList_toArray,<-HW2.out]));refine wp_region_still_tail 8 (by kernel_rfl) (by kernel_rfl) ?_;simp only[List.take_succ_cons,List.take_zero,List.drop_succ_cons,List.drop_zero];change wpStill _ _ W2.drew (fun a'=>wpList _ _ _ _ a' W2.drew) _ _
  still_step
  still_step
  still_step
  refine On rfl _ _ rfl (some ⟨g,o,none⟩) ps.length cap rfl m rfl hml ?_
  repeat still_step
  refine wpStill_nil ?_;go_wp2_with fail;refine HCc.out.mono ?_;rintro en w5 ⟨vh2,vb2,rfl,N5,F5⟩;have R9:=(HRD3.out.call hgA hAD N5 F5).ra hAD;clear N5 F5 HRD HRD3 HCc hset;have hAw:=HA.out;obtain⟨d1,d2,d3,d4⟩:=R9.done hgA (by omega) hnw (Y1 e n);obtain⟨M,hM⟩:∃M,M=bl (Y1 e n) 193:=⟨_,rfl⟩;rw[<-hM]at d1 d2 d3 ⊢;obtain⟨WX,hWX⟩:∃W,W=w5.setCells A 0 M:=⟨_,rfl⟩;rw[<-hWX]at d1 d2 d3;have HWX:Hid (WX=w5.setCells A 0 M):=hWX;have Hfin:Hid ((loadVar 142 ⟨A,0,none⟩).run Tryz.prog WX=.ok (.agg M.toArray) WX):=d1;have HMl:Hid (M.length=193):=by show _=_;rw[hM];exact Y7 _ _
  have HOM:Hid (M.toArray.all (·.oneCell')=true):=by show _=true;rw[hM];exact YO _ _
  have HM:Hid (M=bl (Y1 e n) 193):=hM;clear hM hWX d1 hAw;go_wp2_with (first|(with_reducible refine gst 142 ?_;refine wpList_store_mid rfl 142 _ _ rfl A 0 M.toArray rfl rfl (by simpa[HMl.out]using d4) (by simpa[HMl.out]using Y3) HOM.out ?_;rw[List.toList_toArray,<-HWX.out]));refine bodyPost_ret (v:=.agg M.toArray) (res_load1 Tryz.results94 rfl Hfin.out) rfl ?_;exact⟨vh2,vb2,by rw[HM.out],d2,d3⟩
 have q8:(p.kd==8)=false:=by simpa using hk8
 have hsz:e.sz=e0.sz:=by
  rw[he0];unfold Rx.suf;rcases hks with h|h|h|h
  ·rw[if_pos h];rfl
  ·rw[if_neg (by omega),if_pos h];rfl
  ·rw[if_neg (by omega),if_neg (by omega),if_pos h];rfl
  ·omega
 have hn96:n+e0.sz<=96:=by have:=Hn.out;omega
 have HCp:Hid (Calls Tryz.prog 94 #[.pointer (some ⟨nb,0,none⟩),.slice (RL (some ⟨g,o,none⟩) cap 0) (m-0) (cap-0)] W2 (WB nb base vh vb n hs bh F e0 W2)):=by
  have:=HP.out q e0 (ps.take m) (RL (some ⟨g,o,none⟩) cap 0) (cap-0) nb base vh vb n hs bh F W2 hq hbq ⟨HRD.out.net,P.lnb,by have:=HRD.out.nf.b.size;have:=P.bw;omega,Hsb.out _ HRD.out.nf,hl100,by omega,(P.sep.nf HRD.out.nf).sub _ _⟩ hn96 (fun x hx=>Hmo.out x (List.mem_of_mem_take hx));rw[h1]at this;exact this
 have Hsz:Hid (e.sz=e0.sz):=hsz;have He0:Hid (e=Rx.suf p.kd le mo e0):=he0;have hlnb:=P.lnb;clear P hq he hbq hql hle8 he0 h1 Hsb hl100 hsz k3 k4;go_wp2_with (first|(with_reducible refine gld 156 ?_;refine wpList_load_mid rfl 156 _ rfl _ _ rfl _ _ hr u_a rfl (by rw[Y9];exact Y8) ?_)|(with_reducible refine gst 156 ?_;refine wpList_store_mid rfl 156 _ _ rfl _ _ _ rfl rfl (by simpa[Y9]using hNf) (by simpa[Y9]using Y8) (all_oneCell_toArray (YZ _ _ _ _ _ _)) ?_;rw[List.toList_toArray,<-HW2.out])|(with_reducible show wpList _ _ _ (⟨_,Op.slice 103 _ _ _ _,_,_,_,_⟩::_) _ _;refine Wg.out ?_));refine⟨?_⟩
 (try simp only[psm])
 refine WR rfl _ _ _ rfl (some ⟨g,o,none⟩) ps.length cap rfl 0 m (Or.inl ⟨rfl,rfl⟩) (Or.inr ⟨_,rfl,rfl⟩) (Nat.zero_le _) hml ?_;go_wp2_with fail;refine HCp.out.mono ?_;rintro en w3 ⟨vh2,vb2,rfl,N3,F3⟩;have R3:=HRD.out.call hgA hAD N3 F3;obtain⟨b1,b2,b3⟩:=VL w3 (Y1 e0 n);have ht3:(w3.alloc (.cells (bl (fun _=>false) 193).toArray 142)).there w3.heap.size 0 193:=Yq (TC.boxed w3 _ _);obtain⟨L3,hL3⟩:∃L,L=bl (Y1 e0 n) 193:=⟨_,rfl⟩;obtain⟨W4,hW4⟩:∃W,W=(w3.alloc (.cells (bl (fun _=>false) 193).toArray 142)).setCells w3.heap.size 0 (bl (Y1 e0 n) 193):=⟨_,rfl⟩;rw[<-hW4]at b1 b2 b3;rw[<-hL3]at hW4 ⊢;have HL3l:Hid (L3.length=193):=by show _=_;rw[hL3];exact Y7 _ _
 have HOL3:Hid (L3.toArray.all (·.oneCell')=true):=by show _=true;rw[hL3];exact YO _ _
 have HW4:Hid (W4=(w3.alloc (.cells (bl (fun _=>false) 193).toArray 142)).setCells w3.heap.size 0 L3):=hW4;have R4:=R3.below b2;have hoC:(∀k,vh2.ownBlock=some k->k<w3.heap.size)/\(∀k,vb2.ownBlock=some k->k<w3.heap.size):=⟨fun k hk=>(N3.h.blk k hk).2,fun k hk=>(N3.b.blk k hk).2⟩;have hDC:D<w3.heap.size:=R3.dl;have HoC:Hid ((∀k,vh2.ownBlock=some k->k<w3.heap.size)/\(∀k,vb2.ownBlock=some k->k<w3.heap.size)/\D<w3.heap.size):=⟨hoC.1,hoC.2,hDC⟩;have hkd:=(R4.d 0 _ (V7 _ _ _ _ _ _)).1;rw[HD.out]at hkd;have g1:=b1.sub 97 96 (by omega);have g2:=b1.sub 1 96 (by omega);have HR4:Hid (RD nb base vh vb vh2 vb2 (n+e0.sz) (Va hs e0 n) (UW bh e0 n) F (Y0 p.kd p.pl p.f p.le p.mo p.fa) w W4 A D):=R4;have Hb1:Hid (TC w3.heap.size (bl (Y1 e0 n) 193) W4):=b1;clear hL3 hW4 b1 b2 b3 R3 R4 N3 F3 HCp HRD hset hoC hDC;by_cases hk5:p.kd=5
 ·have he:e=.star e0:=by rw[He0.out,hk5];rfl
  rw[hk5]at hkd;have HK:Hid (p.kd=5):=hk5;have HR4b:=HR4.out;have HCl:Hid (Calls Tryz.prog 105 #[.pointer (some ⟨nb,0,none⟩),.agg (bl (fun i=>Y1 e0 n (97+i)) 96).toArray,.agg (bl (fun i=>Y1 e0 n (1+i)) 96).toArray] W4 fun en w'=>en=.returned (.tuple #[])/\YH nb base vh2 vb2 (n+e0.sz) (Va hs e0 n) (R0 (UW bh e0 n) (fun i=>Y1 e0 n (97+i)) (fun i=>Y1 e0 n (1+i)) (n+e0.sz)) F w'/\NF nb vh2 vb2 vh2 vb2 W4 w'):=QO nb base vh2 vb2 (n+e0.sz) _ _ F _ _ W4 HR4b.net hlnb hn96;have He:Hid (e=.star e0):=he;clear HR4b he hks hk8 hk3 hk1 hk5;go_wp2_with (first|(with_reducible refine gst 142 ?_;refine wpList_store_mid rfl 142 _ _ rfl w3.heap.size 0 L3.toArray rfl rfl (by simpa[HL3l.out]using ht3) (by simpa[HL3l.out]using Y3) HOL3.out ?_;rw[List.toList_toArray,<-HW4.out])|(with_reducible refine gld 59 ?_;refine wpList_load_mid rfl 59 _ rfl w3.heap.size 97 rfl _ _ g1 u_b rfl (by rw[Y7];exact Y2) ?_)|(with_reducible refine gld 59 ?_;refine wpList_load_mid rfl 59 _ rfl w3.heap.size 1 rfl _ _ g2 u_b rfl (by rw[Y7];exact Y2) ?_));refine HCl.out.mono ?_;rintro en w5 ⟨rfl,N5,F5⟩;have R5:=HR4.out.call hgA hAD N5 F5;obtain⟨o1,o2,o3⟩:=HoC.out;have hw4:w3.heap.size<W4.heap.size:=Hb1.out.ltB;have c5:=Hb1.out.block (F5.k w3.heap.size hw4 (by omega) (fun x=>by have:=o1 _ x;omega) (fun x=>by have:=o2 _ x;omega));have hkd5:=(R5.d 0 _ (V7 _ _ _ _ _ _)).1;rw[HD.out]at hkd5;rw[HK.out]at hkd5;obtain⟨c0,c0f⟩:=c5 0 _ (YK _ (by omega));have c6:=c5.set 0 (by rw[Y7];omega) (.bool true);rw[UG,YR (g:=Y1 e n) (fun j _=>by
   rw[He.out];unfold Y1;by_cases h0:j=0
   ·simp[h0,Rx.nul]
   ·simp[h0,Rx.fst,Rx.lst])]at c6
  have hg6:w5.grownBy (w5.setCell ⟨w3.heap.size,0,none⟩ (.bool true)) (some w3.heap.size):=Y6 w3.heap.size [.bool true] 0 w5;obtain⟨W6,hW6⟩:∃W,W=w5.setCell ⟨w3.heap.size,0,none⟩ (.bool true):=⟨_,rfl⟩;rw[<-hW6]at c6 hg6;have HW6:Hid (W6=w5.setCell ⟨w3.heap.size,0,none⟩ (.bool true)):=hW6;have hAw:=HA.out;have R6:=R5.mine hgA hAD (by omega) hnw o3 (fun k hk=>by have:=o1 k hk;omega) (fun k hk=>by have:=o2 k hk;omega) hg6;obtain⟨d1,d2,d3,d4⟩:=(R6.ra hAD).done hgA (by omega) hnw (Y1 e n);have rM:=c6.range;obtain⟨M,hM⟩:∃M,M=bl (Y1 e n) 193:=⟨_,rfl⟩;rw[<-hM]at d1 d2 d3 rM;obtain⟨WX,hWX⟩:∃W,W=W6.setCells A 0 M:=⟨_,rfl⟩;rw[<-hWX]at d1 d2 d3;have HWX:Hid (WX=W6.setCells A 0 M):=hWX;have Hfin:Hid ((loadVar 142 ⟨A,0,none⟩).run Tryz.prog WX=.ok (.agg M.toArray) WX):=d1;have HMl:Hid (M.length=193):=by show _=_;rw[hM];exact Y7 _ _
  have HOM:Hid (M.toArray.all (·.oneCell')=true):=by show _=true;rw[hM];exact YO _ _
  have HM:Hid (M=bl (Y1 e n) 193):=hM;have NX:YH nb base vh2 vb2 (n+e.sz) (Va hs e n) (UW bh e n) F WX:=by
   rw[Hsz.out,He.out];exact d2.congr (fun p q _ _=>rfl) (fun p q hp _=>ND bh e0 n p q hn96 hp)
  clear hM hWX d1 d2 hAw R6 R5 c6 c5 o1 o2 o3 HR4 hW6 hg6 N5 F5;go_wp2_with (first|(with_reducible refine gld 142 ?_;rw[<-HW6.out];refine wpList_load_mid rfl 142 _ rfl w3.heap.size 0 rfl M _ rM u_c rfl (by rw[HMl.out];exact Y3) ?_)|(with_reducible refine gst 142 ?_;refine wpList_store_mid rfl 142 _ _ rfl A 0 M.toArray rfl rfl (by simpa[HMl.out]using d4) (by simpa[HMl.out]using Y3) HOM.out ?_;rw[List.toList_toArray,<-HWX.out]));refine bodyPost_ret (v:=.agg M.toArray) (res_load1 Tryz.results94 rfl Hfin.out) rfl ?_;exact⟨vh2,vb2,by rw[HM.out],NX,d3⟩
 have q5:(p.kd==5)=false:=by simpa using hk5
 by_cases hk6:p.kd=6
 ·have he:e=.plus e0:=by rw[He0.out,hk6];rfl
  rw[hk6]at hkd;have HK:Hid (p.kd=6):=hk6;have HR4b:=HR4.out;have HCl:Hid (Calls Tryz.prog 105 #[.pointer (some ⟨nb,0,none⟩),.agg (bl (fun i=>Y1 e0 n (97+i)) 96).toArray,.agg (bl (fun i=>Y1 e0 n (1+i)) 96).toArray] W4 fun en w'=>en=.returned (.tuple #[])/\YH nb base vh2 vb2 (n+e0.sz) (Va hs e0 n) (R0 (UW bh e0 n) (fun i=>Y1 e0 n (97+i)) (fun i=>Y1 e0 n (1+i)) (n+e0.sz)) F w'/\NF nb vh2 vb2 vh2 vb2 W4 w'):=QO nb base vh2 vb2 (n+e0.sz) _ _ F _ _ W4 HR4b.net hlnb hn96;have He:Hid (e=.plus e0):=he;clear HR4b he hks hk8 hk3 hk1 hk6;go_wp2_with (first|(with_reducible refine gst 142 ?_;refine wpList_store_mid rfl 142 _ _ rfl w3.heap.size 0 L3.toArray rfl rfl (by simpa[HL3l.out]using ht3) (by simpa[HL3l.out]using Y3) HOL3.out ?_;rw[List.toList_toArray,<-HW4.out])|(with_reducible refine gld 59 ?_;refine wpList_load_mid rfl 59 _ rfl w3.heap.size 97 rfl _ _ g1 u_b rfl (by rw[Y7];exact Y2) ?_)|(with_reducible refine gld 59 ?_;refine wpList_load_mid rfl 59 _ rfl w3.heap.size 1 rfl _ _ g2 u_b rfl (by rw[Y7];exact Y2) ?_));refine HCl.out.mono ?_;rintro en w5 ⟨rfl,N5,F5⟩;have R5:=HR4.out.call hgA hAD N5 F5;obtain⟨o1,o2,o3⟩:=HoC.out;have hw4:w3.heap.size<W4.heap.size:=Hb1.out.ltB;have c5:=Hb1.out.block (F5.k w3.heap.size hw4 (by omega) (fun x=>by have:=o1 _ x;omega) (fun x=>by have:=o2 _ x;omega));have hkd5:=(R5.d 0 _ (V7 _ _ _ _ _ _)).1;rw[HD.out]at hkd5;rw[HK.out]at hkd5;have c6:TC w3.heap.size (bl (Y1 e n) 193) w5:=by rw[He.out];exact c5
  have R6:=R5;have hAw:=HA.out;obtain⟨d1,d2,d3,d4⟩:=(R6.ra hAD).done hgA (by omega) hnw (Y1 e n);have rM:=c6.range;obtain⟨M,hM⟩:∃M,M=bl (Y1 e n) 193:=⟨_,rfl⟩;rw[<-hM]at d1 d2 d3 rM;obtain⟨WX,hWX⟩:∃W,W=w5.setCells A 0 M:=⟨_,rfl⟩;rw[<-hWX]at d1 d2 d3;have HWX:Hid (WX=w5.setCells A 0 M):=hWX;have Hfin:Hid ((loadVar 142 ⟨A,0,none⟩).run Tryz.prog WX=.ok (.agg M.toArray) WX):=d1;have HMl:Hid (M.length=193):=by show _=_;rw[hM];exact Y7 _ _
  have HOM:Hid (M.toArray.all (·.oneCell')=true):=by show _=true;rw[hM];exact YO _ _
  have HM:Hid (M=bl (Y1 e n) 193):=hM;have NX:YH nb base vh2 vb2 (n+e.sz) (Va hs e n) (UW bh e n) F WX:=by
   rw[Hsz.out,He.out];exact d2.congr (fun p q _ _=>rfl) (fun p q hp _=>ND bh e0 n p q hn96 hp)
  clear hM hWX d1 d2 hAw R6 R5 c6 c5 o1 o2 o3 HR4 N5 F5;go_wp2_with (first|(with_reducible refine gld 142 ?_;refine wpList_load_mid rfl 142 _ rfl w3.heap.size 0 rfl M _ rM u_c rfl (by rw[HMl.out];exact Y3) ?_)|(with_reducible refine gst 142 ?_;refine wpList_store_mid rfl 142 _ _ rfl A 0 M.toArray rfl rfl (by simpa[HMl.out]using d4) (by simpa[HMl.out]using Y3) HOM.out ?_;rw[List.toList_toArray,<-HWX.out]));refine bodyPost_ret (v:=.agg M.toArray) (res_load1 Tryz.results94 rfl Hfin.out) rfl ?_;exact⟨vh2,vb2,by rw[HM.out],NX,d3⟩
 have q6:(p.kd==6)=false:=by simpa using hk6
 have hk7:p.kd=7:=by omega
 have he:e=.opt e0:=by rw[He0.out,hk7];rfl
 rw[hk7]at hkd;have HR4b:=HR4.out;have R5:=HR4.out;obtain⟨o1,o2,o3⟩:=HoC.out;have c5:=Hb1.out;have He:Hid (e=.opt e0):=he;clear HR4b he hks hk8 hk3 hk1 hk7;obtain⟨c0,c0f⟩:=c5 0 _ (YK _ (by omega));have c6:=c5.set 0 (by rw[Y7];omega) (.bool true);rw[UG,YR (g:=Y1 e n) (fun j _=>by
  rw[He.out];unfold Y1;by_cases h0:j=0
  ·simp[h0,Rx.nul]
  ·simp[h0,Rx.fst,Rx.lst])]at c6
 have hg6:W4.grownBy (W4.setCell ⟨w3.heap.size,0,none⟩ (.bool true)) (some w3.heap.size):=Y6 w3.heap.size [.bool true] 0 W4;obtain⟨W6,hW6⟩:∃W,W=W4.setCell ⟨w3.heap.size,0,none⟩ (.bool true):=⟨_,rfl⟩;rw[<-hW6]at c6 hg6;have HW6:Hid (W6=W4.setCell ⟨w3.heap.size,0,none⟩ (.bool true)):=hW6;have hAw:=HA.out;have R6:=R5.mine hgA hAD (by omega) hnw o3 (fun k hk=>by have:=o1 k hk;omega) (fun k hk=>by have:=o2 k hk;omega) hg6;obtain⟨d1,d2,d3,d4⟩:=(R6.ra hAD).done hgA (by omega) hnw (Y1 e n);have rM:=c6.range;obtain⟨M,hM⟩:∃M,M=bl (Y1 e n) 193:=⟨_,rfl⟩;rw[<-hM]at d1 d2 d3 rM;obtain⟨WX,hWX⟩:∃W,W=W6.setCells A 0 M:=⟨_,rfl⟩;rw[<-hWX]at d1 d2 d3;have HWX:Hid (WX=W6.setCells A 0 M):=hWX;have Hfin:Hid ((loadVar 142 ⟨A,0,none⟩).run Tryz.prog WX=.ok (.agg M.toArray) WX):=d1;have HMl:Hid (M.length=193):=by show _=_;rw[hM];exact Y7 _ _
 have HOM:Hid (M.toArray.all (·.oneCell')=true):=by show _=true;rw[hM];exact YO _ _
 have HM:Hid (M=bl (Y1 e n) 193):=hM;have NX:YH nb base vh2 vb2 (n+e.sz) (Va hs e n) (UW bh e n) F WX:=by
  rw[Hsz.out,He.out];exact d2.congr (fun p q _ _=>rfl) (fun p q _ _=>rfl)
 clear hM hWX d1 d2 hAw R6 R5 c6 c5 o1 o2 o3 HR4 hW6 hg6;go_wp2_with (first|(with_reducible refine gst 142 ?_;refine wpList_store_mid rfl 142 _ _ rfl w3.heap.size 0 L3.toArray rfl rfl (by simpa[HL3l.out]using ht3) (by simpa[HL3l.out]using Y3) HOL3.out ?_;rw[List.toList_toArray,<-HW4.out])|(with_reducible refine gld 142 ?_;rw[<-HW6.out];refine wpList_load_mid rfl 142 _ rfl w3.heap.size 0 rfl M _ rM u_c rfl (by rw[HMl.out];exact Y3) ?_)|(with_reducible refine gst 142 ?_;refine wpList_store_mid rfl 142 _ _ rfl A 0 M.toArray rfl rfl (by simpa[HMl.out]using d4) (by simpa[HMl.out]using Y3) HOM.out ?_;rw[List.toList_toArray,<-HWX.out]));refine bodyPost_ret (v:=.agg M.toArray) (res_load1 Tryz.results94 rfl Hfin.out) rfl ?_;exact⟨vh2,vb2,by rw[HM.out],NX,d3⟩
theorem H9:∀f,Sk 94 0 f/\Sk 85 1 f/\Sk 68 2 f:=by
 intro f
 induction f with
 |zero=>exact⟨fun ts e ps ad cap nb base vh vb n hs bh F w h=>absurd h (by simp[Pp]),fun ts e ps ad cap nb base vh vb n hs bh F w h=>absurd h (by simp[Pp]),fun ts e ps ad cap nb base vh vb n hs bh F w h=>absurd h (by simp[Pp])⟩
 |succ f ih=>
  obtain⟨h1,h2,h3⟩:=ih;refine⟨Jw f h1 h3,fun ts e ps ad cap nb base vh vb n hs bh F w hp hb hpre hn hmo=>?_,JX f h2 h3⟩;obtain⟨L,k1,k2,k3⟩:=hp;subst k1;subst k3;exact Gv f h1 L ps ad cap nb base vh vb n hs bh F w k2 hb hpre hn hmo
end Go.Proofs.YtoaaklhpmhjhkabGreat
