import Derived.Test.YtoaaklhpmhjhkaaGreatC25
set_option maxRecDepth 100000
set_option maxHeartbeats 4000000
set_option linter.all false
namespace Go.Proofs.YtoaaklhpmhjhkaaGreat
open Go.RowKit
open Bm
open Pg (Pt)
variable {a : Act}{ops : Array Oper}{fa kd le mo pl : Int}{rest : List Oper}{L : List Value}{D base f g m m2 nb : Nat}{F : Nat → Bool}{bh bh2 hs hs2 : Nat → Nat → Bool}{op : Oper}{vb vb' vb2 vh vh' vh2 : Value}{w w' w'' : World}
theorem PRow.tc {f:Nat->Bool} (h:PRow g kd pl f le mo fa w):TC g (partL kd pl f le mo fa) w:=λk v b=>by
 have c:k<261:=by have:=(List.getElem?_eq_some_iff.1 b).1;rw[q0a]at this;exact this
 have a:=h.at_ k v b;rw[Nat.zero_add]at a;exact⟨a,h.fr k c⟩
structure RD (nb base:Nat) (vh vb vh' vb':Value) (m:Nat) (hs bh:Nat->Nat->Bool) (F:Nat->Bool) (L:List Value) (w w':World) (A D:Nat):Prop where
 net:NetIn nb base vh' vb' m hs bh F w'
 nf:NF nb vh vb vh' vb' w w'
 a:TC A (bl (fun _=>false) 193) w'
 d:TC D L w'
 dl:D<w'.heap.size
 o1:∀k,vh'.ownBlock=some k->k<A\/D<k
 o2:∀k,vb'.ownBlock=some k->k<A\/D<k
theorem RD.ra {A:Nat} (h:RD nb base vh vb vh' vb' m hs bh F L w w' A D) (hAD:A<D):RA nb base vh vb vh' vb' m hs bh F w w' A:=
 ⟨h.net,h.nf,h.a,λk b=>by have:=h.o1 k b;omega,λk b=>by have:=h.o2 k b;omega⟩
theorem RD.below {A:Nat} (h:RD nb base vh vb vh' vb' m hs bh F L w w' A D) (hW:Below w'.heap.size w' w''):RD nb base vh vb vh' vb' m hs bh F L w w'' A D:=
 ⟨h.net.below hW,h.nf.trans (NF.of _ _ (by have:=h.net.c.lt;omega) hW),h.a.block (hW.block _ h.a.ltB),h.d.block (hW.block _ h.dl),by have:=hW.size;have:=h.dl;omega,h.o1,h.o2⟩
theorem RD.call {A:Nat} (h:RD nb base vh vb vh' vb' m hs bh F L w w' A D) (hA:nb<A) (hD:A<D) (hN:NetIn nb base vh2 vb2 m2 hs2 bh2 F w'') (hF:NF nb vh' vb' vh2 vb2 w' w''):RD nb base vh vb vh2 vb2 m2 hs2 bh2 F L w w'' A D:=by
 have ha:=h.a.ltB;have f:=h.dl;have hs:=hF.b.size;refine⟨hN,h.nf.trans hF,h.a.block (hF.k A ha (by omega) (λe=>by have:=h.o1 A e;omega) (λe=>by have:=h.o2 A e;omega)),h.d.block (hF.k D f (by omega) (λe=>by have:=h.o1 D e;omega) (λe=>by have:=h.o2 D e;omega)),by omega,λk c=>?_,λk c=>?_⟩
 ·rcases hF.oh k c with e|e
  ·exact h.o1 k e
  exact Or.inr (by omega)
 rcases hF.ob k c with e|e
 ·exact h.o2 k e
 exact Or.inr (by omega)
theorem RD.mine {A C:Nat} (h:RD nb base vh vb vh' vb' m hs bh F L w w' A D) (hA:nb<A) (hD:A<D) (hw:w.heap.size<=A) (hnb:nb<w.heap.size) (hC:D<C) (h1:∀k,vh'.ownBlock=some k->k≠C) (h2:∀k,vb'.ownBlock=some k->k≠C) (hg:w'.grownBy w'' (some C)):RD nb base vh vb vh' vb' m hs bh F L w w'' A D:=
 ⟨h.net.mine hg (by omega) (λe=>h1 _ e rfl) (λe=>h2 _ e rfl),h.nf.mine hg (by omega) hnb,h.a.block (hg.block A h.a.ltB (λe=>by have:=Option.some.inj e;omega)),h.d.block (hg.block D h.dl (λe=>by have:=Option.some.inj e;omega)),by have:=hg.size;have:=h.dl;omega,h.o1,h.o2⟩
variable {ts : List Tq}{e : Rx}
theorem q9o (h:Pp f 0 ts e) (h0:e.sz=0):e=.eps:=by
 rcases f with _|f
 ·exact absurd h (by simp[Pp])
 unfold Pp at h;rcases h with ⟨q,_,_,_,rfl⟩|⟨_,_,_,e0,_,_,_,_,_,_,rfl⟩|⟨_,_,e0,_,_,_,_,rfl⟩
 ·simp[Rx.sz]at h0
 ·rw[Rx.nz_sz]at h0;unfold Rx.nz;rw[if_pos h0]
 rw[Rx.nz_sz]at h0;unfold Rx.nz;rw[if_pos h0]
theorem y3x (h:e.nz.sz≠0):e.nz=e:=by rw[Rx.nz_sz]at h;unfold Rx.nz;rw[if_neg h]
theorem y0c (f:Nat->Bool) (n i:Nat) (hn:n<96):runOf (.lit f) n i=rnP n i:=by
 unfold runOf rnP;by_cases b:i=0
 ·subst b;simp[Rx.nul];omega
 by_cases c:i<97
 ·simp only[b,c,if_true,if_false,Rx.fst];by_cases a:i=1+n
  ·subst a;simp
  rw[show(i-1==n)=false by simp;omega,show(i==1+n)=false by simpa using a,show(i==97+n)=false by simp;omega];rfl
 simp only[b,c,if_false,Rx.lst];by_cases a:i=97+n
 ·subst a;simp
 rw[show(i-97==n)=false by simp;omega,show(i==97+n)=false by simpa using a,show(i==1+n)=false by simp;omega];rfl
theorem q7E {Q:Act->Prop} (hw:Region.wanted op (yielded ops a.tmps)=true) (x:Operand) (hi:Operand) (ho:op.op=.slice 194 x none (some hi) none)
  (ad:Option Addr) (len cap:Nat) (hx:a.eval x=.slice ad len cap) (h:Nat) (hh:a.eval hi=.int .i64 h) (h2:h<=cap)
  (hk:wpStill Tryz.prog ops w Q rest (a.put op.dst (.slice (slA ad cap 0) (h-0) (cap-0)))):wpStill Tryz.prog ops w Q (op::rest) a:=
 wpStill_step λK e=>by
  rw[if_pos hw];unfold Oper.still execOp;have hs:(sizeOf 261).run Tryz.prog w=.ok 261 w:=by kernel_rfl
  have b:∀c,(Instr.sliceBound (.int .i64 (h:Int)) cap c).run Tryz.prog w=.ok h w:=λc=>by simp[Instr.sliceBound,asIntOf,Sem.run_ite];omega
  have d:(Instr.sliceBounds true len cap none (some (.int .i64 (h:Int))) none).run Tryz.prog w=.ok (0,h,cap) w:=by simp[Instr.sliceBounds,b]
  have f:(Instr.sliceAt 194 (.slice ad len cap) none (some (.int .i64 (h:Int))) none).run Tryz.prog w=.ok (.slice (slA ad cap 0) (h-0) (cap-0)) w:=by
   simp only[Instr.sliceAt,Instr.slice,Sem.run_bind,run_underlying Tryz.underlying194,Result.andThen_ok,d,hs,Sem.run_pure];rfl
  simp only[ho,hx,Sem.run_bind,Option.map_none,Option.map_some,hh,f,Result.andThen_ok,Sem.run_pure];exact⟨rfl,e _ hk⟩
variable {ps : List Pt}
theorem q2T {p:Pt} (h:Pp (f+1) 0 ts e) (hb:Both Sm ps ts) (hm:ps.length=m+1) (hp:ps[m]?=some p):
  (p.kd=1/\e=.lit p.f)\/(p.kd=3/\∃inn e0,Pp f 2 inn e0/\e=e0.nz/\Both Sm ((ps.drop 1).take (m-1)) inn/\inn.length=m-1/\1<=m) \/
  ((p.kd=5\/p.kd=6\/p.kd=7\/p.kd=8)/\∃q e0 le mo,Pp f 0 q e0/\Both Sm (ps.take m) q/\q.length=m/\e=(Rx.suf p.kd le mo e0).nz/\(p.kd=8->p.le=((le:Nat):Int)/\p.mo=((mo:Nat):Int)/\le<=9/\mo<=9)):=by
 have last:∀(a:List Tq) (t:Tq),Both Sm ps (a++[t])->a.length=m/\Both Sm (ps.take m) a/\Sm p t:=λa t i=>by
  have C:=i.len;have j:a.length=m:=by simp at C;omega
  obtain⟨o,c⟩:=Both.split _ _ _ i;rw[j]at o c;refine⟨j,o,?_⟩;have:ps.drop m=[p]:=by
   have k:m<ps.length:=by omega
   rw[List.drop_eq_getElem_cons k,List.drop_of_length_le (by omega)];rw[List.getElem?_eq_getElem k]at hp;rw[Option.some.inj hp]
  rw[this]at c;cases c with
  |cons h t=>exact h
 unfold Pp at h;rcases h with ⟨q,rfl,c,d,rfl⟩|⟨a,inn,b,e0,rfl,c,d,s,w,A,rfl⟩|⟨q,t,e0,rfl,c,d,s,rfl⟩
 ·obtain⟨_,_,hs⟩:=last [] q hb;exact Or.inl ⟨by rw[hs.1];exact d,by rw[hs.2.2.1]⟩
 ·obtain⟨l,n,hs⟩:=last (a::inn) b hb;refine Or.inr (Or.inl ⟨by rw[hs.1];exact w,inn,e0,A,rfl,?_,by simp at l;omega,by simp at l;omega⟩);have v:=(Both.split [a] inn _ n).2;rw[List.drop_take]at v;simpa using v
 obtain⟨l,n,hs⟩:=last q t hb;have B:p.kd=5\/p.kd=6\/p.kd=7\/p.kd=8:=by rw[hs.1];exact s
 refine Or.inr (Or.inr ⟨B,q,e0,t.le.toNat,t.t.mo.toNat,c,n,l,by rw[hs.1],λu=>?_⟩);have g:t.t.kd=8:=by rw[<-hs.1];exact u
 obtain⟨x,r,_,H,I,J⟩:=d.2.2 g;have hm:=q8b d.1 g;have D:t.t.mo<=9:=by
  rcases hm.2 with ⟨y,_,E,F,G⟩|⟨y,z,_,_,_,E,F,G⟩<;>omega
 rw[hs.2.2.2 u,hs.2.1];omega
theorem y1t (f:Nat) (hP:LayC 210 0 f) (hW:LayC 173 2 f):LayC 210 0 (f+1):=by
 intro ts e ps ad cap nb base vh vb n hs bh F w hp hb z hn aN;have hz:=q1C;have ab:=z.net.c.lt;obtain⟨A,hA⟩:∃A,A=w.heap.size:=⟨_,rfl⟩;obtain⟨W1,aF⟩:∃W,W=w.alloc (.cells (bl (λ_=>false) 193).toArray 247):=⟨_,rfl⟩;have T1:=TC.boxed w (bl (λ_=>false) 193) 247;have x1:=box_bel w (.cells (bl (λ_=>false) 193).toArray 247);rw[<-aF]at T1 x1;rw[<-hA]at T1;have aI:=z.net.h.blk;have aJ:=z.net.b.blk;have R1:RA nb base vh vb vh vb n hs bh F w W1 A:=
  ⟨z.net.below x1,NF.of vh vb (by omega) x1,T1,λk S=>Or.inl (by have:=(aI k S).2;omega),λk S=>Or.inl (by have:=(aJ k S).2;omega)⟩
 have aR:Hid (Calls Tryz.prog 168 #[.slice ad ps.length cap] W1 λen w'=>en=.returned (.int .i64 (Pg.capped e.sz))/\Below W1.heap.size W1 w'):=by
  have:=q7w ad cap ps W1 z.len (z.prt.below x1) aN;rw[q8t hp hb]at this;exact this
 have aZ:=q8u (n:=e.sz);have br:=q2i (a:=(e.sz:Int)) (by omega);have HA:Hid (A=w.heap.size):=hA;have az:Hid (W1=w.alloc (.cells (bl (λ_=>false) 193).toArray 247)):=aF;have ay:Hid (RA nb base vh vb vh vb n hs bh F w W1 A):=R1;have E:nb<A:=by omega
 by_cases h0:e.sz=0
 ·have U:=q9o hp h0;subst U;have be:Pg.capped (Rx.eps.sz:Nat)=0:=rfl;rw[be]at aR;clear hP hW hp hb z hn aN hA aF T1 x1 R1 aI aJ aZ br h0 be;go_enter Tryz.func210,Tryz.ntmps210;go_wp2_with fail;rw[<-az.out];refine aR.out.mono ?_;rintro en w1 ⟨rfl,ao⟩;go_wp2_with fail;refine Calls.mono (q2U w1) ?_;rintro en w2 ⟨rfl,ap⟩;have R2:=(ay.out.below ao).below ap;have O:=HA.out;obtain⟨C,H,N,d4⟩:=R2.done E (by omega) ab (runOf .eps n);obtain⟨M,s⟩:∃M,M=bl (runOf .eps n) 193:=⟨_,rfl⟩;rw[<-s]at C H N;have bc:bl rnNo 193=M:=by rw[s];exact(q0o (λi hi=>q4u n i hi)).symm
  rw[bc];obtain⟨G,l⟩:∃W,W=w2.setCells A 0 M:=⟨_,rfl⟩;rw[<-l]at C H N;have K:Hid (G=w2.setCells A 0 M):=l;have u:Hid ((loadVar 247 ⟨A,0,none⟩).run Tryz.prog G=.ok (.agg M.toArray) G):=C;have t:Hid (M.length=193):=by show _=_;rw[s];exact q0c _ _
  have J:Hid (M.toArray.all (·.oneCell')=true):=by show _=true;rw[s];exact q0w _ _
  have HM:Hid (M=bl (runOf .eps n) 193):=s;rw[<-HA.out];clear s bc l C R2 O ao ap ay az;go_wp2_with (first|(with_reducible refine gst 247 ?_;refine wpList_store_mid rfl 247 _ _ rfl A 0 M.toArray rfl rfl (by simpa[t.out]using d4) (by simpa[t.out]using q0h) J.out ?_;rw[List.toList_toArray,<-K.out]));refine bodyPost_ret (v:=.agg M.toArray) (res_load1 Tryz.results210 rfl u.out) rfl ?_;exact⟨vh,vb,by rw[HM.out],netEps H,N⟩
 have bB:(Pg.capped (e.sz:Int)==0)=false:=by
  have:¬Pg.capped (e.sz:Int)=0:=λh=>h0 (aZ.1 h)
  simpa using this
 have bu:0<ps.length:=by
  obtain⟨q,r,h,_⟩:=q3K hp;have:=hb.len;rw[h]at this;simp at this;omega
 obtain⟨m,hm⟩:∃m,ps.length=m+1:=⟨ps.length-1,by omega⟩;obtain⟨p,bf⟩:∃p,ps[m]?=some p:=⟨ps[m],List.getElem?_eq_getElem (by omega)⟩;have Hm:Hid (ps.length=m+1):=hm;have aB:Hid (ps[m]?=some p):=bf;have Y:Hid (LayPre nb base vh vb n hs bh F ad cap ps w):=z;have Hp:Hid (Pp (f+1) 0 ts e):=hp;have Hb:Hid (Both Sm ps ts):=hb;have aV:Hid (∀p∈ps,0<=p.mo/\p.mo<=9):=aN;have Hn:Hid (n+e.sz<=96):=hn;have HP:Hid (LayC 210 0 f):=hP;have bo:Hid (LayC 173 2 f):=hW;have bp:Hid ((∀k,vh.ownBlock=some k->k<A)/\(∀k,vb.ownBlock=some k->k<A)):=⟨λk S=>by have:=(aI k S).2;omega,λk S=>by have:=(aJ k S).2;omega⟩;have bA:(ps.length:Int)-1=(m:Int):=by omega
 have bz:(m:Int)<(ps.length:Int):=by omega
 have a2:m<=cap:=by have:=z.lcap;omega
 have bx:(ps.length:Int)<=100:=by have:=z.len;omega
 have aP:=z.lcap;clear hP hW hp hb z hn aN hA aF T1 x1 R1 aI aJ aZ bu hm bf;go_enter Tryz.func210,Tryz.ntmps210;go_wp2_with fail;rw[<-az.out];refine aR.out.mono ?_;rintro en w1 ⟨rfl,ao⟩;have R2:=ay.out.below ao;obtain⟨g,o,e1,bj⟩:=Y.out.prt.nf Y.out.sep R2.nf m p aB.out;have hr:w1.rangeAt g (o+m*261) (partL p.kd p.pl p.f p.le p.mo p.fa):=bj;subst e1;have bD:=q0Q w1;have hN:=PRow.boxed w1 0 0 (λ_=>false) 0 0 0 261;have aE:=hN.free;have s:=hN.put p.kd p.pl p.f p.le p.mo p.fa;obtain⟨T,aG⟩:∃W,W=((w1.alloc (Obj.cells (partL 0 0 (λ_=>false) 0 0 0).toArray 261)).setCells w1.heap.size 0 (partL p.kd p.pl p.f p.le p.mo p.fa)):=⟨_,rfl⟩;have ap:Below w1.heap.size w1 T:=by rw[aG];exact((Below.refl _ _).alloc (Nat.le_refl _) _).trans (q0d w1.heap.size w1.heap.size 0 (Nat.le_refl _) _ _ 0)
 rw[<-aG]at s;obtain⟨D,hD⟩:∃D,D=w1.heap.size:=⟨_,rfl⟩;have I:A<D:=by have:=R2.a.ltB;omega
 have a4:=bp.out;have aY:RD nb base vh vb vh vb n hs bh F (partL p.kd p.pl p.f p.le p.mo p.fa) w T A D:=by
  have R3:=R2.below ap;rw[<-hD]at s;exact⟨R3.net,R3.nf,R3.a,s.tc,s.lt,λk S=>Or.inl (a4.1 k S),λk S=>Or.inl (a4.2 k S)⟩
 have aA:Hid (T=((w1.alloc (Obj.cells (partL 0 0 (λ_=>false) 0 0 0).toArray 261)).setCells w1.heap.size 0 (partL p.kd p.pl p.f p.le p.mo p.fa))):=aG;have HD:Hid (D=w1.heap.size):=hD;have B:Hid (RD nb base vh vb vh vb n hs bh F (partL p.kd p.pl p.f p.le p.mo p.fa) w T A D):=aY;have aL:∀(j:Nat) (v:Value),(partL p.kd p.pl p.f p.le p.mo p.fa)[j]?=some v->T.cell? ⟨w1.heap.size,j,none⟩=some v:=λj v hv=>by rw[<-hD];exact(aY.d j v hv).1
 have k0:=aL 0 _ rfl;have k3:=aL 258 (.int .i64 p.le) (by rw[show 258=258+0 from rfl,q1J];rfl);have k4:=aL 259 (.int .i64 p.mo) (by rw[show 259=258+1 from rfl,q1J];rfl);have ag:T.rangeAt w1.heap.size 2 (bl p.f 256):=s.set;rw[<-HA.out];clear hN s aG ap hD aY aL R2 bj ao ay az a4;by_cases ac:p.kd=1
 ·have U:e=.lit p.f:=by
   rcases q2T Hp.out Hb.out Hm.out aB.out with ⟨_,h⟩|⟨h,_⟩|⟨h,_⟩
   ·exact h
   ·omega
   omega
  subst U;have Q:n<96:=by have:=Hn.out;simp[Rx.sz]at this;omega
  rw[ac]at k0;have al:Hid (Calls Tryz.prog 219 #[.pointer (some ⟨nb,0,none⟩),.agg (bl p.f 256).toArray] T λen w'=>∃vh' vb',en=.returned (.agg (bl (rnP n) 193).toArray)/\NetIn nb base vh' vb' (n+1) (λq=>if q=n then p.f else hs q) (λq=>if q=n then (λ_=>false) else bh q) F w'/\NF nb vh vb vh' vb' T w'):=
   y0k nb base vh vb n hs bh F p.f T B.out.net Y.out.lnb (by have:=B.out.nf.b.size;have:=Y.out.bw;omega) Q
  clear k3 k4 ac;go_wp2_with (first|(with_reducible refine gld 261 ?_;refine wpList_load_mid rfl 261 _ rfl _ _ rfl _ _ hr Tryz.underlying261 rfl (by rw[q0a];exact q0b) ?_)|(with_reducible refine gst 261 ?_;refine wpList_store_mid rfl 261 _ _ rfl _ _ _ rfl rfl (by simpa[q0a]using aE) (by simpa[q0a]using q0b) (all_oneCell_toArray (q0j _ _ _ _ _ _)) ?_;rw[List.toList_toArray,<-aA.out])|(with_reducible refine gld 251 ?_;refine wpList_load_mid rfl 251 _ rfl w1.heap.size 2 rfl (bl p.f 256) _ ag Tryz.underlying251 rfl (by rw[q0c];exact q4M) ?_));refine al.out.mono ?_;rintro en w5 ⟨vh2,vb2,rfl,N5,F5⟩;have N6:NetIn nb base vh2 vb2 (n+(Rx.lit p.f).sz) (hsL hs (.lit p.f) n) (bhL bh (.lit p.f) n) F w5:=by
   refine NetIn.congr (show NetIn nb base vh2 vb2 (n+1) _ _ F w5 from N5) (λq b hq _=>?_) (λq b hq _=>?_)
   ·unfold hsL;by_cases aw:q=n
    ·subst aw;simp[Rx.has]
    have ax:q<n:=by simp only[Rx.sz]at hq;omega
    simp[aw,ax]
   unfold bhL;by_cases aw:q=n
   ·subst aw;simp[Rx.fol]
   have ax:q<n:=by simp only[Rx.sz]at hq;omega
   simp[aw,ax]
  have R9:=(B.out.call E I N6 F5).ra I;have bm:bl (rnP n) 193=bl (runOf (.lit p.f) n) 193:=q0o (λi _=>(y0c p.f n i Q).symm);rw[bm];clear bm N5 F5 B al ag;have O:=HA.out;obtain⟨C,H,N,d4⟩:=R9.done E (by omega) ab (runOf (.lit p.f) n);obtain⟨M,s⟩:∃M,M=bl (runOf (.lit p.f) n) 193:=⟨_,rfl⟩;rw[<-s]at C H N ⊢;obtain⟨G,l⟩:∃W,W=w5.setCells A 0 M:=⟨_,rfl⟩;rw[<-l]at C H N;have K:Hid (G=w5.setCells A 0 M):=l;have u:Hid ((loadVar 247 ⟨A,0,none⟩).run Tryz.prog G=.ok (.agg M.toArray) G):=C;have t:Hid (M.length=193):=by show _=_;rw[s];exact q0c _ _
  have J:Hid (M.toArray.all (·.oneCell')=true):=by show _=true;rw[s];exact q0w _ _
  have HM:Hid (M=bl (runOf (.lit p.f) n) 193):=s;clear s l C O;go_wp2_with (first|(with_reducible refine gst 247 ?_;refine wpList_store_mid rfl 247 _ _ rfl A 0 M.toArray rfl rfl (by simpa[t.out]using d4) (by simpa[t.out]using q0h) J.out ?_;rw[List.toList_toArray,<-K.out]));refine bodyPost_ret (v:=.agg M.toArray) (res_load1 Tryz.results210 rfl u.out) rfl ?_;exact⟨vh2,vb2,by rw[HM.out],H,N⟩
 have q1:(p.kd==1)=false:=by simpa using ac
 by_cases ak:p.kd=3
 ·obtain⟨inn,e0,hq,U,bd,bt,bv⟩:∃inn e0,Pp f 2 inn e0/\e=e0.nz/\Both Sm ((ps.drop 1).take (m-1)) inn/\inn.length=m-1/\1<=m:=by
   rcases q2T Hp.out Hb.out Hm.out aB.out with ⟨h,_⟩|⟨_,h⟩|⟨h,_⟩
   ·omega
   ·exact h
   omega
  have ai:e=e0:=by rw[U];exact y3x (by rw[<-U];exact h0)
  subst ai;have P:=Y.out;rw[ak]at k0;have a9:Hid (Calls Tryz.prog 173 #[.pointer (some ⟨nb,0,none⟩),.slice (slA (some ⟨g,o,none⟩) cap 1) (m-1) (cap-1)] T (LayPost nb base vh vb n hs bh F e T)):=by
   have bC:=Hm.out;have h1:((ps.drop 1).take (m-1)).length=m-1:=by rw[List.length_take,List.length_drop];omega
   have h3:=(P.prt.nf P.sep B.out.nf).sub (cap:=cap) 1 (m-1) (by omega) aP;have:=bo.out inn e ((ps.drop 1).take (m-1)) (slA (some ⟨g,o,none⟩) cap 1) (cap-1) nb base vh vb n hs bh F T hq bd ⟨B.out.net,P.lnb,by have:=B.out.nf.b.size;have:=P.bw;omega,h3,by have:=P.len;omega,by omega,(P.sep.nf B.out.nf).sub _ _⟩ Hn.out (λx hx=>aV.out x (List.mem_of_mem_drop (List.mem_of_mem_take hx)));rw[h1]at this;exact this
  clear k3 k4 ak ac P hq U bd bt;go_wp2_with (first|(with_reducible refine gld 261 ?_;refine wpList_load_mid rfl 261 _ rfl _ _ rfl _ _ hr Tryz.underlying261 rfl (by rw[q0a];exact q0b) ?_)|(with_reducible refine gst 261 ?_;refine wpList_store_mid rfl 261 _ _ rfl _ _ _ rfl rfl (by simpa[q0a]using aE) (by simpa[q0a]using q0b) (all_oneCell_toArray (q0j _ _ _ _ _ _)) ?_;rw[List.toList_toArray,<-aA.out])|(with_reducible show wpList _ _ _ (⟨_,Op.slice 194 _ _ _ _,_,_,_,_⟩::_) _ _;refine Stop.out ?_));refine⟨?_⟩
  (try simp only[psm])
  refine q1G rfl _ _ _ rfl (some ⟨g,o,none⟩) ps.length cap rfl 1 m (Or.inr ⟨_,rfl,rfl⟩) (Or.inr ⟨_,rfl,rfl⟩) bv a2 ?_;go_wp2_with fail;refine a9.out.mono ?_;rintro en w5 ⟨vh2,vb2,rfl,N5,F5⟩;have R9:=(B.out.call E I N5 F5).ra I;clear N5 F5 B a9 ag;have O:=HA.out;obtain⟨C,H,N,d4⟩:=R9.done E (by omega) ab (runOf e n);obtain⟨M,s⟩:∃M,M=bl (runOf e n) 193:=⟨_,rfl⟩;rw[<-s]at C H N ⊢;obtain⟨G,l⟩:∃W,W=w5.setCells A 0 M:=⟨_,rfl⟩;rw[<-l]at C H N;have K:Hid (G=w5.setCells A 0 M):=l;have u:Hid ((loadVar 247 ⟨A,0,none⟩).run Tryz.prog G=.ok (.agg M.toArray) G):=C;have t:Hid (M.length=193):=by show _=_;rw[s];exact q0c _ _
  have J:Hid (M.toArray.all (·.oneCell')=true):=by show _=true;rw[s];exact q0w _ _
  have HM:Hid (M=bl (runOf e n) 193):=s;clear s l C O;go_wp2_with (first|(with_reducible refine gst 247 ?_;refine wpList_store_mid rfl 247 _ _ rfl A 0 M.toArray rfl rfl (by simpa[t.out]using d4) (by simpa[t.out]using q0h) J.out ?_;rw[List.toList_toArray,<-K.out]));refine bodyPost_ret (v:=.agg M.toArray) (res_load1 Tryz.results210 rfl u.out) rfl ?_;exact⟨vh2,vb2,by rw[HM.out],H,N⟩
 have q3:(p.kd==3)=false:=by simpa using ak
 obtain⟨au,q,e0,le,mo,hq,aK,bi,U,av⟩:(p.kd=5\/p.kd=6\/p.kd=7\/p.kd=8)/\∃q e0 le mo,Pp f 0 q e0/\Both Sm (ps.take m) q/\q.length=m/\e=(Rx.suf p.kd le mo e0).nz/\(p.kd=8->p.le=((le:Nat):Int)/\p.mo=((mo:Nat):Int)/\le<=9/\mo<=9):=by
  rcases q2T Hp.out Hb.out Hm.out aB.out with ⟨h,_⟩|⟨h,_⟩|h
  ·omega
  ·omega
  exact h
 have ai:e=Rx.suf p.kd le mo e0:=by rw[U];exact y3x (by rw[<-U];exact h0)
 have P:=Y.out;have h1:(ps.take m).length=m-0:=by rw[List.length_take];have:=Hm.out;omega
 have bn:∀W,NF nb vh vb vh vb w W->PS (slA (some ⟨g,o,none⟩) cap 0) (ps.take m) W:=λW hf=>by
  have h3:=(P.prt.nf P.sep hf).sub (cap:=cap) 0 m (by have:=Hm.out;omega) aP;rw[List.drop_zero]at h3;exact h3
 have aC:Hid (∀W,NF nb vh vb vh vb w W->PS (slA (some ⟨g,o,none⟩) cap 0) (ps.take m) W):=bn;have aa:(ps.take m).length<=100:=by rw[List.length_take];have:=P.len;omega
 clear bn;by_cases ae:p.kd=8
 ·have a0:e=Rx.rowOf (Rx.copies e0 le mo):=by rw[ai,ae];rfl
  obtain⟨l1,l2,l3,l4⟩:=av ae;rw[ae]at k0;rw[l1]at k3;rw[l2]at k4;have aO:e.sz=mo*e0.sz:=by rw[a0];exact Rx.copies_sz e0 le mo
  have X:Hid (RD nb base vh vb vh vb n hs bh F (partL p.kd p.pl p.f p.le p.mo p.fa) w T.drew A D):=B.out.below (Below.refl _ _).drew;have a7:Hid (Calls Tryz.prog 220 #[.pointer (some ⟨nb,0,none⟩),.slice (slA (some ⟨g,o,none⟩) cap 0) (m-0) (cap-0),.int .i64 le,.int .i64 mo] T.drew (LayPost nb base vh vb n hs bh F e T.drew)):=by
   have:=q9I f HP.out q e0 (ps.take m) (slA (some ⟨g,o,none⟩) cap 0) (cap-0) nb base vh vb n hs bh F le mo T.drew hq aK ⟨X.out.net,P.lnb,by have:=X.out.nf.b.size;have:=P.bw;omega,aC.out _ X.out.nf,aa,by omega,(P.sep.nf X.out.nf).sub _ _⟩ (by have:=Hn.out;omega) (λx hx=>aV.out x (List.mem_of_mem_take hx)) l4 l3;rw[h1,<-a0]at this;exact this
  clear ae ak ac P hq U aK bi av l1 l2 l3 l4 ai a0 aO h1 aC aa au;go_wp2_with (first|(with_reducible refine gld 261 ?_;refine wpList_load_mid rfl 261 _ rfl _ _ rfl _ _ hr Tryz.underlying261 rfl (by rw[q0a];exact q0b) ?_)|(with_reducible refine gst 261 ?_;refine wpList_store_mid rfl 261 _ _ rfl _ _ _ rfl rfl (by simpa[q0a]using aE) (by simpa[q0a]using q0b) (all_oneCell_toArray (q0j _ _ _ _ _ _)) ?_;rw[List.toList_toArray,<-aA.out]));refine wp_region_still_tail 8 (by kernel_rfl) (by kernel_rfl) ?_;simp only[List.take_succ_cons,List.take_zero,List.drop_succ_cons,List.drop_zero];change wpStill _ _ T.drew (λa'=>wpList _ _ _ _ a' T.drew) _ _
  still_step
  still_step
  still_step
  refine q7E rfl _ _ rfl (some ⟨g,o,none⟩) ps.length cap rfl m rfl a2 ?_
  repeat still_step
  refine wpStill_nil ?_;go_wp2_with fail;refine a7.out.mono ?_;rintro en w5 ⟨vh2,vb2,rfl,N5,F5⟩;have R9:=(X.out.call E I N5 F5).ra I;clear N5 F5 B X a7 ag;have O:=HA.out;obtain⟨C,H,N,d4⟩:=R9.done E (by omega) ab (runOf e n);obtain⟨M,s⟩:∃M,M=bl (runOf e n) 193:=⟨_,rfl⟩;rw[<-s]at C H N ⊢;obtain⟨G,l⟩:∃W,W=w5.setCells A 0 M:=⟨_,rfl⟩;rw[<-l]at C H N;have K:Hid (G=w5.setCells A 0 M):=l;have u:Hid ((loadVar 247 ⟨A,0,none⟩).run Tryz.prog G=.ok (.agg M.toArray) G):=C;have t:Hid (M.length=193):=by show _=_;rw[s];exact q0c _ _
  have J:Hid (M.toArray.all (·.oneCell')=true):=by show _=true;rw[s];exact q0w _ _
  have HM:Hid (M=bl (runOf e n) 193):=s;clear s l C O;go_wp2_with (first|(with_reducible refine gst 247 ?_;refine wpList_store_mid rfl 247 _ _ rfl A 0 M.toArray rfl rfl (by simpa[t.out]using d4) (by simpa[t.out]using q0h) J.out ?_;rw[List.toList_toArray,<-K.out]));refine bodyPost_ret (v:=.agg M.toArray) (res_load1 Tryz.results210 rfl u.out) rfl ?_;exact⟨vh2,vb2,by rw[HM.out],H,N⟩
 have q8:(p.kd==8)=false:=by simpa using ae
 have aO:e.sz=e0.sz:=by
  rw[ai];unfold Rx.suf;rcases au with h|h|h|h
  ·rw[if_pos h];rfl
  ·rw[if_neg (by omega),if_pos h];rfl
  ·rw[if_neg (by omega),if_neg (by omega),if_pos h];rfl
  omega
 have Q:n+e0.sz<=96:=by have:=Hn.out;omega
 have a8:Hid (Calls Tryz.prog 210 #[.pointer (some ⟨nb,0,none⟩),.slice (slA (some ⟨g,o,none⟩) cap 0) (m-0) (cap-0)] T (LayPost nb base vh vb n hs bh F e0 T)):=by
  have:=HP.out q e0 (ps.take m) (slA (some ⟨g,o,none⟩) cap 0) (cap-0) nb base vh vb n hs bh F T hq aK ⟨B.out.net,P.lnb,by have:=B.out.nf.b.size;have:=P.bw;omega,aC.out _ B.out.nf,aa,by omega,(P.sep.nf B.out.nf).sub _ _⟩ Q (λx hx=>aV.out x (List.mem_of_mem_take hx));rw[h1]at this;exact this
 have aX:Hid (e.sz=e0.sz):=aO;have aU:Hid (e=Rx.suf p.kd le mo e0):=ai;have aQ:=P.lnb;clear P hq U aK bi av ai h1 aC aa aO k3 k4;go_wp2_with (first|(with_reducible refine gld 261 ?_;refine wpList_load_mid rfl 261 _ rfl _ _ rfl _ _ hr Tryz.underlying261 rfl (by rw[q0a];exact q0b) ?_)|(with_reducible refine gst 261 ?_;refine wpList_store_mid rfl 261 _ _ rfl _ _ _ rfl rfl (by simpa[q0a]using aE) (by simpa[q0a]using q0b) (all_oneCell_toArray (q0j _ _ _ _ _ _)) ?_;rw[List.toList_toArray,<-aA.out])|(with_reducible show wpList _ _ _ (⟨_,Op.slice 194 _ _ _ _,_,_,_,_⟩::_) _ _;refine Stop.out ?_));refine⟨?_⟩
 (try simp only[psm])
 refine q1G rfl _ _ _ rfl (some ⟨g,o,none⟩) ps.length cap rfl 0 m (Or.inl ⟨rfl,rfl⟩) (Or.inr ⟨_,rfl,rfl⟩) (Nat.zero_le _) a2 ?_;go_wp2_with fail;refine a8.out.mono ?_;rintro en y ⟨vh2,vb2,rfl,N3,F3⟩;have R3:=B.out.call E I N3 F3;obtain⟨b1,b2,b3⟩:=q2v y (runOf e0 n);have a5:(y.alloc (.cells (bl (λ_=>false) 193).toArray 247)).there y.heap.size 0 193:=q0I (TC.boxed y _ _);obtain⟨L3,aD⟩:∃L,L=bl (runOf e0 n) 193:=⟨_,rfl⟩;obtain⟨W4,aH⟩:∃W,W=(y.alloc (.cells (bl (λ_=>false) 193).toArray 247)).setCells y.heap.size 0 (bl (runOf e0 n) 193):=⟨_,rfl⟩;rw[<-aH]at b1 b2 b3;rw[<-aD]at aH ⊢;have V:Hid (L3.length=193):=by show _=_;rw[aD];exact q0c _ _
 have am:Hid (L3.toArray.all (·.oneCell')=true):=by show _=true;rw[aD];exact q0w _ _
 have aS:Hid (W4=(y.alloc (.cells (bl (λ_=>false) 193).toArray 247)).setCells y.heap.size 0 L3):=aH;have R4:=R3.below b2;have a3:(∀k,vh2.ownBlock=some k->k<y.heap.size)/\(∀k,vb2.ownBlock=some k->k<y.heap.size):=⟨λk S=>(N3.h.blk k S).2,λk S=>(N3.b.blk k S).2⟩;have bb:D<y.heap.size:=R3.dl;have aW:Hid ((∀k,vh2.ownBlock=some k->k<y.heap.size)/\(∀k,vb2.ownBlock=some k->k<y.heap.size)/\D<y.heap.size):=⟨a3.1,a3.2,bb⟩;have aM:=(R4.d 0 _ (q2c _ _ _ _ _ _)).1;rw[HD.out]at aM;have g1:=b1.sub 97 96 (by omega);have g2:=b1.sub 1 96 (by omega);have Z:Hid (RD nb base vh vb vh2 vb2 (n+e0.sz) (hsL hs e0 n) (bhL bh e0 n) F (partL p.kd p.pl p.f p.le p.mo p.fa) w W4 A D):=R4;have an:Hid (TC y.heap.size (bl (runOf e0 n) 193) W4):=b1;clear aD aH b1 b2 b3 R3 R4 N3 F3 a8 B ag a3 bb;by_cases aq:p.kd=5
 ·have U:e=.star e0:=by rw[aU.out,aq];rfl
  rw[aq]at aM;have HK:Hid (p.kd=5):=aq;have R:=Z.out;have al:Hid (Calls Tryz.prog 221 #[.pointer (some ⟨nb,0,none⟩),.agg (bl (λi=>runOf e0 n (97+i)) 96).toArray,.agg (bl (λi=>runOf e0 n (1+i)) 96).toArray] W4 λen w'=>en=.returned (.tuple #[])/\NetIn nb base vh2 vb2 (n+e0.sz) (hsL hs e0 n) (lnk (bhL bh e0 n) (λi=>runOf e0 n (97+i)) (λi=>runOf e0 n (1+i)) (n+e0.sz)) F w'/\NF nb vh2 vb2 vh2 vb2 W4 w'):=q6p nb base vh2 vb2 (n+e0.sz) _ _ F _ _ W4 R.net aQ Q;have He:Hid (e=.star e0):=U;clear R U au ae ak ac aq;go_wp2_with (first|(with_reducible refine gst 247 ?_;refine wpList_store_mid rfl 247 _ _ rfl y.heap.size 0 L3.toArray rfl rfl (by simpa[V.out]using a5) (by simpa[V.out]using q0h) am.out ?_;rw[List.toList_toArray,<-aS.out])|(with_reducible refine gld 132 ?_;refine wpList_load_mid rfl 132 _ rfl y.heap.size 97 rfl _ _ g1 Tryz.underlying132 rfl (by rw[q0c];exact q0g) ?_)|(with_reducible refine gld 132 ?_;refine wpList_load_mid rfl 132 _ rfl y.heap.size 1 rfl _ _ g2 Tryz.underlying132 rfl (by rw[q0c];exact q0g) ?_));refine al.out.mono ?_;rintro en w5 ⟨rfl,N5,F5⟩;have R5:=Z.out.call E I N5 F5;obtain⟨o1,o2,o3⟩:=aW.out;have a6:y.heap.size<W4.heap.size:=an.out.ltB;have c5:=an.out.block (F5.k y.heap.size a6 (by omega) (λx=>by have:=o1 _ x;omega) (λx=>by have:=o2 _ x;omega));have af:=(R5.d 0 _ (q2c _ _ _ _ _ _)).1;rw[HD.out]at af;rw[HK.out]at af;obtain⟨c0,bq⟩:=c5 0 _ (q0x _ (by omega));have c6:=c5.set 0 (by rw[q0c];omega) (.bool true);rw[q2O,q0o (g:=runOf e n) (λj _=>by
   rw[He.out];unfold runOf;by_cases h0:j=0
   ·simp[h0,Rx.nul]
   simp[h0,Rx.fst,Rx.lst])]at c6
  have aj:w5.grownBy (w5.setCell ⟨y.heap.size,0,none⟩ (.bool true)) (some y.heap.size):=q0e y.heap.size [.bool true] 0 w5;obtain⟨W6,ah⟩:∃W,W=w5.setCell ⟨y.heap.size,0,none⟩ (.bool true):=⟨_,rfl⟩;rw[<-ah]at c6 aj;have aT:Hid (W6=w5.setCell ⟨y.heap.size,0,none⟩ (.bool true)):=ah;have O:=HA.out;have R6:=R5.mine E I (by omega) ab o3 (λk S=>by have:=o1 k S;omega) (λk S=>by have:=o2 k S;omega) aj;obtain⟨C,H,N,d4⟩:=(R6.ra I).done E (by omega) ab (runOf e n);have rM:=c6.range;obtain⟨M,s⟩:∃M,M=bl (runOf e n) 193:=⟨_,rfl⟩;rw[<-s]at C H N rM;obtain⟨G,l⟩:∃W,W=W6.setCells A 0 M:=⟨_,rfl⟩;rw[<-l]at C H N;have K:Hid (G=W6.setCells A 0 M):=l;have u:Hid ((loadVar 247 ⟨A,0,none⟩).run Tryz.prog G=.ok (.agg M.toArray) G):=C;have t:Hid (M.length=193):=by show _=_;rw[s];exact q0c _ _
  have J:Hid (M.toArray.all (·.oneCell')=true):=by show _=true;rw[s];exact q0w _ _
  have HM:Hid (M=bl (runOf e n) 193):=s;have NX:NetIn nb base vh2 vb2 (n+e.sz) (hsL hs e n) (bhL bh e n) F G:=by
   rw[aX.out,He.out];exact H.congr (λp q _ _=>rfl) (λp q hp _=>q8L bh e0 n p q Q hp)
  clear s l C H O R6 R5 c6 c5 o1 o2 o3 Z ah aj N5 F5;go_wp2_with (first|(with_reducible refine gld 247 ?_;rw[<-aT.out];refine wpList_load_mid rfl 247 _ rfl y.heap.size 0 rfl M _ rM Tryz.underlying247 rfl (by rw[t.out];exact q0h) ?_)|(with_reducible refine gst 247 ?_;refine wpList_store_mid rfl 247 _ _ rfl A 0 M.toArray rfl rfl (by simpa[t.out]using d4) (by simpa[t.out]using q0h) J.out ?_;rw[List.toList_toArray,<-K.out]));refine bodyPost_ret (v:=.agg M.toArray) (res_load1 Tryz.results210 rfl u.out) rfl ?_;exact⟨vh2,vb2,by rw[HM.out],NX,N⟩
 have q5:(p.kd==5)=false:=by simpa using aq
 by_cases ar:p.kd=6
 ·have U:e=.plus e0:=by rw[aU.out,ar];rfl
  rw[ar]at aM;have HK:Hid (p.kd=6):=ar;have R:=Z.out;have al:Hid (Calls Tryz.prog 221 #[.pointer (some ⟨nb,0,none⟩),.agg (bl (λi=>runOf e0 n (97+i)) 96).toArray,.agg (bl (λi=>runOf e0 n (1+i)) 96).toArray] W4 λen w'=>en=.returned (.tuple #[])/\NetIn nb base vh2 vb2 (n+e0.sz) (hsL hs e0 n) (lnk (bhL bh e0 n) (λi=>runOf e0 n (97+i)) (λi=>runOf e0 n (1+i)) (n+e0.sz)) F w'/\NF nb vh2 vb2 vh2 vb2 W4 w'):=q6p nb base vh2 vb2 (n+e0.sz) _ _ F _ _ W4 R.net aQ Q;have He:Hid (e=.plus e0):=U;clear R U au ae ak ac ar;go_wp2_with (first|(with_reducible refine gst 247 ?_;refine wpList_store_mid rfl 247 _ _ rfl y.heap.size 0 L3.toArray rfl rfl (by simpa[V.out]using a5) (by simpa[V.out]using q0h) am.out ?_;rw[List.toList_toArray,<-aS.out])|(with_reducible refine gld 132 ?_;refine wpList_load_mid rfl 132 _ rfl y.heap.size 97 rfl _ _ g1 Tryz.underlying132 rfl (by rw[q0c];exact q0g) ?_)|(with_reducible refine gld 132 ?_;refine wpList_load_mid rfl 132 _ rfl y.heap.size 1 rfl _ _ g2 Tryz.underlying132 rfl (by rw[q0c];exact q0g) ?_));refine al.out.mono ?_;rintro en w5 ⟨rfl,N5,F5⟩;have R5:=Z.out.call E I N5 F5;obtain⟨o1,o2,o3⟩:=aW.out;have a6:y.heap.size<W4.heap.size:=an.out.ltB;have c5:=an.out.block (F5.k y.heap.size a6 (by omega) (λx=>by have:=o1 _ x;omega) (λx=>by have:=o2 _ x;omega));have af:=(R5.d 0 _ (q2c _ _ _ _ _ _)).1;rw[HD.out]at af;rw[HK.out]at af;have c6:TC y.heap.size (bl (runOf e n) 193) w5:=by rw[He.out];exact c5
  have R6:=R5;have O:=HA.out;obtain⟨C,H,N,d4⟩:=(R6.ra I).done E (by omega) ab (runOf e n);have rM:=c6.range;obtain⟨M,s⟩:∃M,M=bl (runOf e n) 193:=⟨_,rfl⟩;rw[<-s]at C H N rM;obtain⟨G,l⟩:∃W,W=w5.setCells A 0 M:=⟨_,rfl⟩;rw[<-l]at C H N;have K:Hid (G=w5.setCells A 0 M):=l;have u:Hid ((loadVar 247 ⟨A,0,none⟩).run Tryz.prog G=.ok (.agg M.toArray) G):=C;have t:Hid (M.length=193):=by show _=_;rw[s];exact q0c _ _
  have J:Hid (M.toArray.all (·.oneCell')=true):=by show _=true;rw[s];exact q0w _ _
  have HM:Hid (M=bl (runOf e n) 193):=s;have NX:NetIn nb base vh2 vb2 (n+e.sz) (hsL hs e n) (bhL bh e n) F G:=by
   rw[aX.out,He.out];exact H.congr (λp q _ _=>rfl) (λp q hp _=>q8L bh e0 n p q Q hp)
  clear s l C H O R6 R5 c6 c5 o1 o2 o3 Z N5 F5;go_wp2_with (first|(with_reducible refine gld 247 ?_;refine wpList_load_mid rfl 247 _ rfl y.heap.size 0 rfl M _ rM Tryz.underlying247 rfl (by rw[t.out];exact q0h) ?_)|(with_reducible refine gst 247 ?_;refine wpList_store_mid rfl 247 _ _ rfl A 0 M.toArray rfl rfl (by simpa[t.out]using d4) (by simpa[t.out]using q0h) J.out ?_;rw[List.toList_toArray,<-K.out]));refine bodyPost_ret (v:=.agg M.toArray) (res_load1 Tryz.results210 rfl u.out) rfl ?_;exact⟨vh2,vb2,by rw[HM.out],NX,N⟩
 have q6:(p.kd==6)=false:=by simpa using ar
 have a1:p.kd=7:=by omega
 have U:e=.opt e0:=by rw[aU.out,a1];rfl
 rw[a1]at aM;have R:=Z.out;have R5:=Z.out;obtain⟨o1,o2,o3⟩:=aW.out;have c5:=an.out;have He:Hid (e=.opt e0):=U;clear R U au ae ak ac a1;obtain⟨c0,bq⟩:=c5 0 _ (q0x _ (by omega));have c6:=c5.set 0 (by rw[q0c];omega) (.bool true);rw[q2O,q0o (g:=runOf e n) (λj _=>by
  rw[He.out];unfold runOf;by_cases h0:j=0
  ·simp[h0,Rx.nul]
  simp[h0,Rx.fst,Rx.lst])]at c6
 have aj:W4.grownBy (W4.setCell ⟨y.heap.size,0,none⟩ (.bool true)) (some y.heap.size):=q0e y.heap.size [.bool true] 0 W4;obtain⟨W6,ah⟩:∃W,W=W4.setCell ⟨y.heap.size,0,none⟩ (.bool true):=⟨_,rfl⟩;rw[<-ah]at c6 aj;have aT:Hid (W6=W4.setCell ⟨y.heap.size,0,none⟩ (.bool true)):=ah;have O:=HA.out;have R6:=R5.mine E I (by omega) ab o3 (λk S=>by have:=o1 k S;omega) (λk S=>by have:=o2 k S;omega) aj;obtain⟨C,H,N,d4⟩:=(R6.ra I).done E (by omega) ab (runOf e n);have rM:=c6.range;obtain⟨M,s⟩:∃M,M=bl (runOf e n) 193:=⟨_,rfl⟩;rw[<-s]at C H N rM;obtain⟨G,l⟩:∃W,W=W6.setCells A 0 M:=⟨_,rfl⟩;rw[<-l]at C H N;have K:Hid (G=W6.setCells A 0 M):=l;have u:Hid ((loadVar 247 ⟨A,0,none⟩).run Tryz.prog G=.ok (.agg M.toArray) G):=C;have t:Hid (M.length=193):=by show _=_;rw[s];exact q0c _ _
 have J:Hid (M.toArray.all (·.oneCell')=true):=by show _=true;rw[s];exact q0w _ _
 have HM:Hid (M=bl (runOf e n) 193):=s;have NX:NetIn nb base vh2 vb2 (n+e.sz) (hsL hs e n) (bhL bh e n) F G:=by
  rw[aX.out,He.out];exact H.congr (λp q _ _=>rfl) (λp q _ _=>rfl)
 clear s l C H O R6 R5 c6 c5 o1 o2 o3 Z ah aj;go_wp2_with (first|(with_reducible refine gst 247 ?_;refine wpList_store_mid rfl 247 _ _ rfl y.heap.size 0 L3.toArray rfl rfl (by simpa[V.out]using a5) (by simpa[V.out]using q0h) am.out ?_;rw[List.toList_toArray,<-aS.out])|(with_reducible refine gld 247 ?_;rw[<-aT.out];refine wpList_load_mid rfl 247 _ rfl y.heap.size 0 rfl M _ rM Tryz.underlying247 rfl (by rw[t.out];exact q0h) ?_)|(with_reducible refine gst 247 ?_;refine wpList_store_mid rfl 247 _ _ rfl A 0 M.toArray rfl rfl (by simpa[t.out]using d4) (by simpa[t.out]using q0h) J.out ?_;rw[List.toList_toArray,<-K.out]));refine bodyPost_ret (v:=.agg M.toArray) (res_load1 Tryz.results210 rfl u.out) rfl ?_;exact⟨vh2,vb2,by rw[HM.out],NX,N⟩
theorem y2M:∀f,LayC 210 0 f/\LayC 199 1 f/\LayC 173 2 f:=by
 intro f
 induction f with
 |zero=>exact⟨λts e ps ad cap nb base vh vb n hs bh F w h=>absurd h (by simp[Pp]),λts e ps ad cap nb base vh vb n hs bh F w h=>absurd h (by simp[Pp]),λts e ps ad cap nb base vh vb n hs bh F w h=>absurd h (by simp[Pp])⟩
 |succ f ih=>
  obtain⟨c,g,d⟩:=ih;refine⟨y1t f c d,λts e ps ad cap nb base vh vb n hs bh F w k i a j b=>?_,y1d f g d⟩;obtain⟨L,l,m,o⟩:=k;subst l;subst o;exact y3p f c L ps ad cap nb base vh vb n hs bh F w m i a j b
end Go.Proofs.YtoaaklhpmhjhkaaGreat
