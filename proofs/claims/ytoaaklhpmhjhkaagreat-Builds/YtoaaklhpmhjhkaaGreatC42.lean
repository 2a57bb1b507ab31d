import Derived.Test.YtoaaklhpmhjhkaaGreatC41
set_option maxRecDepth 100000
set_option maxHeartbeats 4000000
set_option linter.all false
namespace Go.Proofs.YtoaaklhpmhjhkaaGreat
open Go.RowKit
open Bm
theorem y0b (w:World):(Instr.build 113 #[]).run Tryz.prog w=.ok (.agg #[.slice none 0 0,.slice none 0 0,.slice none 0 0,.slice none 0 0,.slice none 0 0]) w:=by kernel_rfl
theorem GW.first (w:World) (es:Nat->Rx) (ty:TypeId):GW w.heap.size (w.heap.size+1) 0 es (fun _=>0) (fun _=>0) (fun _=>0) (fun _=>0) (fun _=>⟨fun _=>.int .i64 0,fun _=>none,fun _=>0⟩) (fun _ _=>newN 0 []) (fun _=>0) [] [] (fun _=>.slice none 0 0) (fun _=>[]) (fun _=>False) w (w.alloc (.cells #[.slice none 0 0,.slice none 0 0,.slice none 0 0,.slice none 0 0,.slice none 0 0] ty)):=
 ⟨⟨TC.boxed w [.slice none 0 0,.slice none 0 0,.slice none 0 0,.slice none 0 0,.slice none 0 0] ty,fun i _=>OwnV.nil _ _ _,fun i j k _ _ _ h=>(by cases h),fun k h=>h.elim,by omega⟩,rfl,rfl,rfl,rfl,rfl,fun r hr=>by omega,fun r hr=>by omega,Pls.nil _ _ _,box_bel _ _,Nat.le_refl _⟩
variable {x : Int}{l : List (Nat → Bool)}{lx : List Value}{N base cap g gb i len n nc tb tob : Nat}{ls : Nat → List Value}{T : Nat → Nd}{X X' : Nat → Prop}{vs : Nat → Value}{w w' w5 : World}
theorem TRm.nod {m:Lie} (h:TRm tb T N g cap m w) {k:Nat} (hk:k<N):w.cell? ⟨g,k*5,none⟩=some (.int .i64 (T k).kind):=by
 have:=(h.n k hk).1 0 _ rfl;rw[Nat.add_zero]at this;exact this
theorem q8m (b off cap R:Nat) (f:Nat->ByteArray) (es:Nat->Rx) (w:World) (h8:R<=8) (hb:b<w.heap.size) (hr:SRow b off f R w) (hGw:∀i,i<R->∀w',Calls Tryz.prog 39 #[.string (f i)] w' (GwPost w' (es i))) (hP:netN es R<=96)
  : Calls Tryz.prog 27 #[.slice (some ⟨b,off,none⟩) R cap] w (GmPost es R w):=by
 have hz:=y0b;have hmk:∀(w':World) (n:Nat),n<=1000000->(Instr.makeSlice 23 (.int .i64 (n:Int)) (.int .i64 (n:Int))).run Tryz.prog w'=.ok (.slice (some ⟨w'.heap.size,0,none⟩) n n) (w'.alloc (.cells (zeroI n).toArray 3)):=q1M;have Hmk:Hid (∀(w':World) (n:Nat),n<=1000000->(Instr.makeSlice 23 (.int .i64 (n:Int)) (.int .i64 (n:Int))).run Tryz.prog w'=.ok (.slice (some ⟨w'.heap.size,0,none⟩) n n) (w'.alloc (.cells (zeroI n).toArray 3))):=hmk;have HG0:Hid (GW w.heap.size (w.heap.size+1) 0 es (fun _=>0) (fun _=>0) (fun _=>0) (fun _=>0) (fun _=>⟨fun _=>.int .i64 0,fun _=>none,fun _=>0⟩) (fun _ _=>newN 0 []) (fun _=>0) [] [] (fun _=>.slice none 0 0) (fun _=>[]) (fun _=>False) w (w.alloc (.cells #[.slice none 0 0,.slice none 0 0,.slice none 0 0,.slice none 0 0,.slice none 0 0] 113))):=GW.first w es _;have HGw:Hid (∀i,i<R->∀w',Calls Tryz.prog 39 #[.string (f i)] w' (GwPost w' (es i))):=hGw;have HSr:Hid (SRow b off f R w):=hr;have hR':(R:Int)<=8:=by omega
 obtain⟨gb,hgb⟩:=nam w.heap.size;rw[<-hgb]at HG0;have Hgb:=hyd hgb;clear hGw hr hmk hgb;go_enter Tryz.func27,Tryz.ntmps27;go_wp2_with fail;clear hz;rw[<-Hgb.out]
 go_loopw [4] (fun x w'=>∃(i:Nat) (tr ad cp xb:Nat->Nat) (ms:Nat->Lie) (Ts:Nat->Nat->Nd) (Ns:Nat->Nat) (ti nd:List Nat) (vs:Nat->Value) (ls:Nat->List Value) (X:Nat->Prop),i<=R/\x=.int .i64 i/\GW gb (gb+1) i es tr ad cp xb ms Ts Ns ti nd vs ls X w w') (fun x _=>R-(intOf x).toNat)
 case atStart=>exact⟨0,_,_,_,_,_,_,_,_,_,_,_,_,by omega,rfl,HG0.out⟩
 case round=>
  clear HG0;obtain⟨i,tr,ad,cp,xb,ms,Ts,Ns,ti,nd,vs,ls,X,hi,rfl,G⟩:=hrel;by_cases hlt:i<R
  ·have hlt':(i:Int)<R:=by omega
   have cs:=HSr.out.below hb G.b i hlt;have HC:=HGw.out i hlt wr;have HCH:Hid (Calls Tryz.prog 39 #[.string (f i)] wr (GwPost wr (es i))):=HC;have HG:=hyd G;obtain⟨si,hsi⟩:=nam (f i);rw[<-hsi]at cs HCH;clear G HC hsi;go_wp2_with fail;refine HCH.out.mono ?_;rintro ee w1 ⟨T,N,Xt,g,gcap,m,rfl,hTre,hN1,hN2,hGood,hTRX,hXt,hB1,hs1⟩;obtain⟨X1,hX1⟩:∃X1:Nat->Prop,X1=fun k=>X k\/Xt k:=⟨_,rfl⟩
   have hXs:∀k,X1 k->k<w1.heap.size:=fun k hk=>by
    rw[hX1]at hk;rcases hk with h|h
    ·have:=(HG.out.g.x k h).1;omega
    ·exact hTRX.s k h
   have hT1:=hTRX.mono hXs (fun k hk=>by rw[hX1];exact Or.inr hk);have hgo:∀j,j<5->∀k,(vs j).ownBlock=some k->gb+1<=k/\k<wr.heap.size:=fun j hj k hk=>(HG.out.g.o j hj).lt k hk
   have hgl:=HG.out.g.lt (by omega);have G1:G5 gb (gb+1) 5 gTy vs ls X1 w1:=(HG.out.g.below (by omega) hB1).more (fun k hk=>by
    rw[hX1]at hk;rcases hk with h|h
    ·exact Or.inl h
    ·have:=hXt k h;exact Or.inr ⟨hTRX.s k h,by omega,fun j hj e=>by have:=hgo j hj k e;omega⟩)
   obtain⟨tb,htb⟩:=nam wr.heap.size;rw[<-htb]at hT1 ⊢;obtain⟨a0,c0,e0,_⟩:=(G1.o 0 (by omega)).form;rw[HG.out.l0]at e0;simp only[List.length_map,List.length_range]at e0;have hc0:=(G1.cell (i:=0) (by omega)).1;have hx1:=box_bel w1 (.cells #[.pointer (some ⟨tb,0,none⟩)] 94);have hO0:=(G1.below (by omega) hx1).o 0 (by omega);rw[e0,HG.out.l0]at hO0;rw[e0]at hc0;have hnw:(w1.alloc (.cells #[.pointer (some ⟨tb,0,none⟩)] 94)).cell? ⟨w1.heap.size,0,none⟩=some (.pointer (some ⟨tb,0,none⟩)):=by rw[World.cell?_alloc_new];rfl
   have hbs:gb+1<=(w1.alloc (.cells #[.pointer (some ⟨tb,0,none⟩)] 94)).heap.size:=by have:=hx1.size;have:=hB1.size;omega
   have HG1:=hyd (G1.below (by omega) hx1);have HT1:=hyd hT1;have HGood:=hyd6 hTre hGood htb hX1 hB1 hXs;have He0:=hyd e0;have Hlen0:Hid (((List.range i).map fun r=>Value.pointer (some ⟨tr r,0,none⟩)).length=i):=by show _=_;simp
   have hi8:i<8:=by omega
   clear hTre hGood hTRX hXt hX1 hXs hT1 hgo G1 e0 hx1 hB1 htb hs1 cs HCH;go_wp2_with (first|(with_reducible show wpList _ _ _ (⟨_,Op.call { callee:=Callee.builtin Builtin.append,args:=_,argTypes:=_ },_,_,_,_⟩::_) _ _;refine Stop.out ?_));refine⟨?_⟩;refine q0t 93 94 Tryz.underlying93 y0D rfl (by omega) (by rfl) _ _ (by rfl) (gb+1) (.slice a0 i c0) _ (by rfl) hO0 (by rw[Hlen0.out];omega) w1.heap.size (.pointer (some ⟨tb,0,none⟩)) rfl (by rfl) hnw hbs _ rfl ?_;rw[Hlen0.out];intro g0 cap0 w5 hO5 hgrow hgb5 _;have hc5:w5.cell? ⟨gb,0,none⟩=some (.slice a0 i c0)/\w5.frozen? ⟨gb,0,none⟩=false:=by
    have:=(HG1.out.c.block (hgrow.block gb (HG1.out.lt (by omega)) (fun e=>by have:=((HG1.out.o 0 (by omega)).lt gb (by rw[He0.out];exact e.symm)).1;omega))) 0 (vs 0) rfl;rw[He0.out]at this;exact this
   obtain⟨hc5a,hc5b⟩:=hc5;obtain⟨G6,A6,s6,_⟩:=HG1.out.app (i:=0) (by omega) (t:=.pointer (some ⟨tb,0,none⟩)) (g:=g0) (len:=i+1) (cap:=cap0) (by rw[He0.out];exact hgrow) (by rw[HG.out.l0];exact hO5) (by rw[He0.out];exact hgb5);obtain⟨w6,h6⟩:=nam (w5.setCell ⟨gb,0,none⟩ (.slice (some ⟨g0,0,none⟩) (i+1) cap0));have H6:=hyd h6;rw[<-h6]at G6 A6 s6;have hsW:=(box_bel w1 (.cells #[.pointer (some ⟨tb,0,none⟩)] 94)).size;have A16:AgX X1 w1 w6:=AgX.trans (fun k hk=>(box_bel w1 (.cells #[.pointer (some ⟨tb,0,none⟩)] 94)).block k (HGood.out.2.2.2.2.2 k hk)) A6;have tm6:=HT1.out.t w6 A16 (by omega);have cT:=tm6.c;have B6:Below w.heap.size w w6:=by
    have hB1:=HGood.out.2.2.2.2.1;have x1:=HG.out.b.trans (hB1.mono HG.out.b.size);have x2:=x1.trans ((box_bel w1 (.cells #[.pointer (some ⟨tb,0,none⟩)] 94)).mono x1.size);have x3:Below w.heap.size w w5:=x2.grown hgrow x2.size (fun q hq=>by
     have:=((HG1.out.o 0 (by omega)).lt q (by rw[He0.out];exact hq)).1;have:=Hgb.out;omega)
    rw[h6];exact x3.setCell (p:=⟨gb,0,none⟩) (by have:=Hgb.out;show _<=gb;omega) _
   have HI6:Hid (G5 gb (gb+1) 5 gTy (upV vs 0 (.slice (some ⟨g0,0,none⟩) (i+1) cap0)) (upV ls 0 (ls 0++[.pointer (some ⟨tb,0,none⟩)])) X1 w6/\AgX X1 w1 w6/\w1.heap.size<=w6.heap.size/\Below w.heap.size w w6):=⟨G6,A16,by omega,B6⟩;have hmk6:=Hmk.out w6 N (by omega);have hN':(N:Int)<=20000:=by omega
   clear G6 A6 s6 h6 hO5 hgrow hgb5 hO0 hnw hbs A16 tm6 B6 hsW;go_wp2_with (first|(with_reducible refine gld 114 ?_;refine Stop.out ?_));refine⟨?_⟩;rw[<-H6.out];clear hc5a hc5b hc0;go_wp2_with fail;obtain⟨ib,hib⟩:=nam w6.heap.size;rw[<-hib];have hb7:=box_bel w6 (.cells (zeroI N).toArray 3);obtain⟨L0,hL0⟩:=nam ((List.range (i+1)).map fun r=>Value.pointer (some ⟨upV tr i tb r,0,none⟩));have HL0:=hyd hL0;have HGI:Hid (GI gb (gb+1) i es ib 0 L0 (ls 3) (upV Ts i T) (upV Ns i N) ti nd (upV vs 0 (.slice (some ⟨g0,0,none⟩) (i+1) cap0)) (upV ls 0 (ls 0++[.pointer (some ⟨tb,0,none⟩)])) X1 w w1 (w6.alloc (.cells (zeroI N).toArray 3))):=by
    obtain⟨G6,A16,z16,B6⟩:=HI6.out;refine⟨⟨G6.below (by omega) hb7,?_,by rw[hib];simp,fun j hj e=>?_,⟨fun e=>?_,?_⟩,A16.trans (fun k hk=>hb7.block k (G6.x k hk).1),by have:=hb7.size;omega,B6.trans (hb7.mono B6.size),by have:=Hgb.out;exact⟨by omega,by rw[hib];exact B6.size⟩⟩,?_,?_,?_,?_,?_,?_⟩
    ·have h1:=TC.boxed w6 (zeroI N) 3;rw[<-hib]at h1;rw[q0i,q0i,q0C (g:=fun _=>0) (fun q _=>by unfold ixT;rw[if_neg (by omega)])];exact h1
    ·have:=((G6.o j hj).lt ib e).2;omega
    ·have:=(G6.x ib e).1;omega
    ·have:=G6.lt (by omega);omega
    ·rw[q0i,HG.out.l0,hL0,List.range_succ,List.map_append];congr 1
     ·refine List.map_congr_left (fun r hr=>?_);rw[q0f _ _ (by have:=List.mem_range.1 hr;omega)]
     ·simp[q0i]
    ·rw[q0f _ _ (by omega)];exact HG.out.l1
    ·rw[q0f _ _ (by omega)];exact HG.out.l2
    ·rw[q0f _ _ (by omega)]
    ·rw[q0f _ _ (by omega)];exact HG.out.l4
    ·rw[q0i];exact HG.out.p.tree T N
   clear HI6 hb7 hib hmk6 hL0 cT HG1 hgl
   go_loopw [7] (fun x w'=>∃(k:Nat) (ti' nd':List Nat) (vs':Nat->Value) (ls':Nat->List Value),k<=N/\x=.int .i64 k/\GI gb (gb+1) i es ib k L0 (ls 3) (upV Ts i T) (upV Ns i N) ti' nd' vs' ls' X1 w w1 w') (fun x _=>N-(intOf x).toNat)
   case atStart=>exact⟨0,ti,nd,_,_,by omega,rfl,HGI.out⟩
   case round=>
    clear HGI;obtain⟨k,ti',nd',vs',ls',hk,rfl,GIk⟩:=hrel;have tm:=HT1.out.t wr GIk.st.a GIk.st.z;have cT:=tm.c;obtain⟨L,hL⟩:=nam (netN es i+clN T k);have hL96:L<=96:=by
     have h1:=q1V T hk;have h2:=HGood.out.2.1.cl;rw[Nat.sub_add_cancel hN1]at h2;simp only[clN,Nat.zero_add]at h2;have h3:=q0M es (show i+1<=R from hlt);simp only[netN]at h3;omega
    have hpl:=GIk.p;rw[q0i,<-hL]at hpl;have HL:=hyd hL;by_cases hkl:k<N
    ·have hkl':(k:Int)<N:=by omega
     have ck:=tm.nod hkl;obtain⟨kd,hkd⟩:=nam ((T k).kind);rw[<-hkd]at ck;have Hkd:=hyd hkd;have HGIk:=hyd GIk;by_cases h0:kd=0
     ·have q0:((kd:Int)==0)=true:=by simp[h0]
      obtain⟨a1,c1,e1,_⟩:=(GIk.st.g.o 1 (by omega)).form;rw[GIk.l1,List.length_map,hpl.a]at e1;have hc1:=(GIk.st.g.cell (i:=1) (by omega)).1;rw[e1]at hc1;obtain⟨a2,c2,e2,_⟩:=(GIk.st.g.o 2 (by omega)).form;rw[GIk.l2,List.length_map,hpl.b]at e2;have S0:=GIk.st;rw[q0i,q0i]at S0;obtain⟨x1,x2⟩:=S0.x k _ (q1l _ hkl);have S2:=S0.put (k:=k) (by rw[q1d];exact hkl) (.int .i64 (L:Int));have hx2:=box_bel (wr.setCell ⟨ib,k,none⟩ (.int .i64 (L:Int))) (.cells #[.int .i64 (i:Int)] 3);have S3:=S2.below hx2;have hO1:=S3.g.o 1 (by omega);rw[e1,GIk.l1]at hO1;have hc1':=(S2.g.cell (i:=1) (by omega)).1;rw[e1]at hc1';obtain⟨w2,hw2⟩:=nam (wr.setCell ⟨ib,k,none⟩ (.int .i64 (L:Int)));have Hw2:=hyd hw2;rw[<-hw2]at S2 hx2 S3 hO1 hc1';have hnw:(w2.alloc (.cells #[.int .i64 (i:Int)] 3)).cell? ⟨w2.heap.size,0,none⟩=some (.int .i64 (i:Int)):=by rw[World.cell?_alloc_new];rfl
      have hbs:gb+1<=(w2.alloc (.cells #[.int .i64 (i:Int)] 3)).heap.size:=by have:=hx2.size;have:=S2.g.lt (by omega);omega
      have Hlen1:Hid ((ti'.map intN).length=L):=by show _=_;rw[List.length_map,hpl.a]
      have Hlen2:Hid ((nd'.map intN).length=L):=by show _=_;rw[List.length_map,hpl.b]
      have HS3:=hyd S3;have He1:=hyd e1;have He2:=hyd e2;have Hl:=hyd2 GIk.l1 GIk.l2;clear GIk S0 S2 S3 hx2 e1 e2 hw2 hpl tm hL hkd h0;go_wp2_with (first|(with_reducible refine gst 3 ?_;refine Stop.out ?_));refine⟨?_⟩;go_wp2_with (first|(with_reducible refine gld 23 ?_;refine Stop.out ?_));refine⟨?_⟩;rw[<-Hw2.out];clear hc1 x1 x2 ck cT;go_wp2_with (first|(with_reducible show wpList _ _ _ (⟨_,Op.call { callee:=Callee.builtin Builtin.append,args:=_,argTypes:=_ },_,_,_,_⟩::_) _ _;refine Stop.out ?_));refine⟨?_⟩;refine q0t 23 3 Tryz.underlying23 eInfoInt rfl (by omega) (by rfl) _ _ (by rfl) (gb+1) (.slice a1 L c1) _ (by rfl) hO1 (by rw[Hlen1.out];omega) w2.heap.size (.int .i64 (i:Int)) rfl (by rfl) hnw hbs _ rfl ?_;rw[Hlen1.out];intro g1 cap1 w5 hO5 hgrow hgb5 _;have hc5:w5.cell? ⟨gb,1,none⟩=some (.slice a1 L c1)/\w5.frozen? ⟨gb,1,none⟩=false:=by
       have:=(HS3.out.g.c.block (hgrow.block gb (HS3.out.g.lt (by omega)) (fun e=>by have:=((HS3.out.g.o 1 (by omega)).lt gb (by rw[He1.out];exact e.symm)).1;omega))) 1 (vs' 1) rfl;rw[He1.out]at this;exact this
      obtain⟨hc5a,hc5b⟩:=hc5;have S6:=HS3.out.app (i:=1) (by omega) (t:=.int .i64 (i:Int)) (g:=g1) (len:=L+1) (cap:=cap1) (by rw[He1.out];exact hgrow) (by rw[Hl.out.1];exact hO5) (by rw[He1.out];exact hgb5);obtain⟨w6,h6⟩:=nam (w5.setCell ⟨gb,1,none⟩ (.slice (some ⟨g1,0,none⟩) (L+1) cap1));have H6:=hyd h6;rw[<-h6]at S6;have hc2:=(S6.g.cell (i:=2) (by omega)).1;rw[q0f _ _ (by omega),He2.out]at hc2;have hx6:=box_bel w6 (.cells #[.int .i64 (k:Int)] 3);have S7:=S6.below hx6;have hO2:=S7.g.o 2 (by omega);rw[q0f _ _ (by omega),q0f _ _ (by omega),He2.out,Hl.out.2]at hO2;have hnw6:(w6.alloc (.cells #[.int .i64 (k:Int)] 3)).cell? ⟨w6.heap.size,0,none⟩=some (.int .i64 (k:Int)):=by rw[World.cell?_alloc_new];rfl
      have hbs6:gb+1<=(w6.alloc (.cells #[.int .i64 (k:Int)] 3)).heap.size:=by have:=hx6.size;have:=S6.g.lt (by omega);omega
      have HS7:=hyd S7;clear S6 S7 h6 hO5 hgrow hgb5 hO1 hnw hbs hx6 hc1' HS3;go_wp2_with (first|(with_reducible refine gld 23 ?_;refine Stop.out ?_));refine⟨?_⟩;rw[<-H6.out];clear hc5a hc5b;go_wp2_with (first|(with_reducible show wpList _ _ _ (⟨_,Op.call { callee:=Callee.builtin Builtin.append,args:=_,argTypes:=_ },_,_,_,_⟩::_) _ _;refine Stop.out ?_));refine⟨?_⟩;refine q0t 23 3 Tryz.underlying23 eInfoInt rfl (by omega) (by rfl) _ _ (by rfl) (gb+1) (.slice a2 L c2) _ (by rfl) hO2 (by rw[Hlen2.out];omega) w6.heap.size (.int .i64 (k:Int)) rfl (by rfl) hnw6 hbs6 _ rfl ?_;rw[Hlen2.out];intro g2 cap2 w8 hO8 hgrow8 hgb8 _;have e2':upV vs' 1 (.slice (some ⟨g1,0,none⟩) (L+1) cap1) 2=.slice a2 L c2:=by rw[q0f _ _ (by omega),He2.out]
      have hc8:w8.cell? ⟨gb,2,none⟩=some (.slice a2 L c2)/\w8.frozen? ⟨gb,2,none⟩=false:=by
       have:=(HS7.out.g.c.block (hgrow8.block gb (HS7.out.g.lt (by omega)) (fun e=>by have:=((HS7.out.g.o 2 (by omega)).lt gb (by rw[e2'];exact e.symm)).1;omega))) 2 _ rfl;rw[e2']at this;exact this
      obtain⟨hc8a,hc8b⟩:=hc8;have S9:=HS7.out.app (i:=2) (by omega) (t:=.int .i64 (k:Int)) (g:=g2) (len:=L+1) (cap:=cap2) (by rw[e2'];exact hgrow8) (by rw[q0f _ _ (by omega),Hl.out.2];exact hO8) (by rw[e2'];exact hgb8);have HGn:Hid (GI gb (gb+1) i es ib (k+1) L0 (ls 3) (upV Ts i T) (upV Ns i N) (ti'++[i]) (nd'++[k]) (upV (upV vs' 1 (.slice (some ⟨g1,0,none⟩) (L+1) cap1)) 2 (.slice (some ⟨g2,0,none⟩) (L+1) cap2)) (upV (upV ls' 1 (ls' 1++[intN i])) 2 (ls' 2++[intN k])) X1 w w1 (w8.setCell ⟨gb,2,none⟩ (.slice (some ⟨g2,0,none⟩) (L+1) cap2))):=by
       refine HGIk.out.letter (by rw[q0i,<-Hkd.out];simpa using q0) (by rw[q0i];exact hkl) ?_;rw[q0i,q0i,<-HL.out];have e3:upV ls' 1 (ls' 1++[Value.int .i64 (i:Int)]) 2=ls' 2:=q0f _ _ (by omega);rw[e3]at S9;exact S9
      clear S9 hO8 hgrow8 hgb8 hO2 hnw6 hbs6 HS7 HGIk hc2;go_wp2_with fail;go_roundw
      case rel=>exact⟨k+1,ti'++[i],nd'++[k],_,_,by omega,by go_num,HGn.out⟩
      case measure=>simp[intOf];omega
     ·have q0:((kd:Int)==0)=false:=by simp;omega
      have HGn:=hyd (GIk.skip (by rw[q0i,<-hkd];exact h0));clear GIk tm hkd hL hpl;go_wp2_with fail;go_roundw
      case rel=>exact⟨k+1,ti',nd',vs',ls',by omega,by go_num,HGn.out⟩
      case measure=>simp[intOf];omega
    ·have hge:¬(k:Int)<N:=by omega
     have hkN:k=N:=by omega
     subst hkN;obtain⟨a3,c3,e3,_⟩:=(GIk.st.g.o 3 (by omega)).form;rw[GIk.l3,HG.out.l3,List.length_map,List.length_range]at e3;have hc3:=(GIk.st.g.cell (i:=3) (by omega)).1;rw[e3]at hc3;have hx3:=box_bel wr (.cells #[.slice (some ⟨ib,0,none⟩) k k] 23);have S3:=GIk.st.below hx3;have hO3:=S3.g.o 3 (by omega);rw[e3,GIk.l3,HG.out.l3]at hO3;have hnw:(wr.alloc (.cells #[.slice (some ⟨ib,0,none⟩) k k] 23)).cell? ⟨wr.heap.size,0,none⟩=some (.slice (some ⟨ib,0,none⟩) k k):=by rw[World.cell?_alloc_new];rfl
     have hbs:gb+1<=(wr.alloc (.cells #[.slice (some ⟨ib,0,none⟩) k k] 23)).heap.size:=by have:=hx3.size;have:=GIk.st.g.lt (by omega);omega
     have Hlen3:Hid (((List.range i).map fun r=>Value.slice (some ⟨xb r,0,none⟩) (Ns r) (Ns r)).length=i):=by show _=_;simp
     have He3:=hyd e3;have Hl3:Hid (ls' 3=(List.range i).map fun r=>Value.slice (some ⟨xb r,0,none⟩) (Ns r) (Ns r)):=by show _=_;rw[GIk.l3,HG.out.l3]
     have HS3:=hyd S3;have HGIk:=hyd GIk;clear GIk S3 hx3 e3 tm hL hpl;go_wp2_with (first|(with_reducible show wpList _ _ _ (⟨_,Op.call { callee:=Callee.builtin Builtin.append,args:=_,argTypes:=_ },_,_,_,_⟩::_) _ _;refine Stop.out ?_));refine⟨?_⟩;refine q0t 53 23 Tryz.underlying53 q4K rfl (by omega) (by rfl) _ _ (by rfl) (gb+1) (.slice a3 i c3) _ (by rfl) hO3 (by rw[Hlen3.out];omega) wr.heap.size (.slice (some ⟨ib,0,none⟩) k k) rfl (by rfl) hnw hbs _ rfl ?_;rw[Hlen3.out];intro g1 cap1 w5 hO5 hgrow hgb5 _;have hc5:w5.cell? ⟨gb,3,none⟩=some (.slice a3 i c3)/\w5.frozen? ⟨gb,3,none⟩=false:=by
      have:=(HS3.out.g.c.block (hgrow.block gb (HS3.out.g.lt (by omega)) (fun e=>by have:=((HS3.out.g.o 3 (by omega)).lt gb (by rw[He3.out];exact e.symm)).1;omega))) 3 (vs' 3) rfl;rw[He3.out]at this;exact this
     obtain⟨hc5a,hc5b⟩:=hc5;have S6:=HS3.out.app (i:=3) (by omega) (t:=.slice (some ⟨ib,0,none⟩) k k) (g:=g1) (len:=i+1) (cap:=cap1) (by rw[He3.out];exact hgrow) (by rw[Hl3.out];exact hO5) (by rw[He3.out];exact hgb5);have HGW:Hid (GW gb (gb+1) (i+1) es (upV tr i tb) (upV ad i g) (upV cp i gcap) (upV xb i ib) (upV ms i m) (upV Ts i T) (upV Ns i k) ti' nd' (upV vs' 3 (.slice (some ⟨g1,0,none⟩) (i+1) cap1)) (upV ls' 3 (ls' 3++[.slice (some ⟨ib,0,none⟩) k k])) (fun q=>X1 q\/q=ib) w (w5.setCell ⟨gb,3,none⟩ (.slice (some ⟨g1,0,none⟩) (i+1) cap1))):=by
      obtain⟨gd1,gd2,gd3,gd4,gd5,gd6⟩:=HGood.out;refine HG.out.next gd1 hN1 hN2 gd2 HT1.out (fun q hq=>by rw[gd4];exact Or.inl hq) (fun q hq=>gd5.block q (HG.out.g.x q hq).1) gd5.size (by rw[<-HL0.out];exact HGIk.out) (fun q=>Iff.rfl) S6
     clear S6 hO5 hgrow hgb5 hO3 hnw hbs HS3 HGIk hc3 cT;go_wp2_with fail;go_roundw
     case rel=>exact⟨i+1,_,_,_,_,_,_,_,_,_,_,_,_,by omega,by go_num,HGW.out⟩
     case measure=>simp[intOf];omega
  ·have hge:¬(i:Int)<R:=by omega
   have hiR:i=R:=by omega
   subst hiR;obtain⟨P,hPe⟩:=nam (netN es i);have hti:ti.length=P:=by rw[G.p.a,hPe]
   have hnd:nd.length=P:=by rw[G.p.b,hPe]
   have hGm:Gm i Ts Ns es (fun q=>ti.getD q 0) (fun q=>nd.getD q 0):=⟨fun r hr=>by
    obtain⟨t1,t2,t3,t4,_⟩:=G.t r hr;exact⟨t1,t2,t4⟩,fun p hp=>G.p.p p hp⟩
   have HGm:Hid (Gm i Ts Ns es (fun q=>ti.getD q 0) (fun q=>nd.getD q 0)/\(∀r,r<i->Ns r<=20000)/\P=netN es i/\ti.length=P/\nd.length=P):=⟨hGm,fun r hr=>(G.t r hr).2.2.1,hPe,hti,hnd⟩;have HN0:Hid (GNx gb (gb+1) i P es tr ad cp xb (fun _=>0) ms Ts Ns ti nd 0 vs ls X w wr):=⟨G.g,G.l0,G.l1,G.l2,G.l3,G.l4,fun r hr=>(G.t r hr).2.2.2.2,G.x,fun q hq=>by omega,G.b,G.s⟩;have hP96:P<=96:=by omega
   have hP':(P:Int)<=96:=by omega
   clear G hti hnd hGm hPe HSr HGw Hmk;go_wp2_with fail
   go_loopw [8] (fun x w'=>∃(p:Nat) (sk:Nat->Nat) (vs:Nat->Value) (ls:Nat->List Value) (X:Nat->Prop),p<=P/\x=.int .i64 p/\GNx gb (gb+1) i P es tr ad cp xb sk ms Ts Ns ti nd p vs ls X w w') (fun x _=>P-(intOf x).toNat)
   case atStart=>exact⟨0,_,_,_,_,by omega,rfl,HN0.out⟩
   case round=>
    clear HN0;obtain⟨p,sk,vs,ls,X,hp,rfl,GNp⟩:=hrel;obtain⟨hGm,hNs,hPe,hti,hnd⟩:=HGm.out;have gx:=GNp.gx hti;have o1:=GNp.g.o 1 (by omega);rw[GNp.l1]at o1;obtain⟨a1,c1,e1,il1⟩:=OwnV.il (l:=ti) o1;rw[hti]at e1 il1;have hc1:=(GNp.g.cell (i:=1) (by omega)).1;rw[e1]at hc1;have o2:=GNp.g.o 2 (by omega);rw[GNp.l2]at o2;obtain⟨a2,c2,e2,il2⟩:=OwnV.il (l:=nd) o2;rw[hnd]at e2 il2;have hc2:=(GNp.g.cell (i:=2) (by omega)).1;rw[e2]at hc2;by_cases hpl:p<P
    ·have hpl':(p:Int)<P:=by omega
     obtain⟨p1,p2,p3,p4⟩:=hGm.p p (by omega);obtain⟨b1,o1',e3,d1⟩:=il1 p hpl;obtain⟨b2,o2',e4,d2⟩:=il2 p hpl;subst e3;subst e4;obtain⟨tp,htp⟩:=nam (ti.getD p 0);obtain⟨np,hnp⟩:=nam (nd.getD p 0);simp only[<-htp,<-hnp]at p1 p2 p3 p4 d1 d2;have HNo:=hyd (q3s gb P i wr (by omega) (by omega) gx.gl);have hXn:¬gXX gb vs X wr.heap.size:=fun e=>by have:=gx.s _ e;omega
     have HBh:Hid (∀w',Below wr.heap.size wr w'->TC wr.heap.size (bl (fun _=>false) (P+i)) w'->Calls Tryz.prog 53 #[.pointer (some ⟨gb,0,none⟩),.int .i64 tp,.int .i64 np,.slice (some ⟨wr.heap.size,0,none⟩) (P+i) (P+i)] w' (JnPost wr.heap.size (P+i) (fun _=>false) (bhS (Ts tp) (Ns tp) (ixR es Ts tp) P tp np) w')):=fun w' hW hT=>by
      have g1:=gx.below hW;rw[hPe]at g1 hT ⊢;exact q5B (gXX gb vs X) gb i tr ad cp ms Ts Ns es _ _ hGm (by omega) (by omega) hNs tp p1 wr.heap.size _ hXn (Ns tp+1) np (fun _=>false) w' (by omega) p2 g1 hT
     have HF:Hid (∀q,(false || bhS (Ts tp) (Ns tp) (ixR es Ts tp) P tp np q)=nxR es Ts Ns (fun i=>ti.getD i 0) (fun i=>nd.getD i 0) P p q):=fun q=>by
      unfold nxR;simp only[<-htp,<-hnp,Bool.false_or]
     have HGN:=hyd GNp;clear gx o1 o2 il1 il2 e1 e2 GNp hGm p2 p3 p4 htp hnp hXn hPe hti hnd hNs;go_wp2_with fail;refine HNo.out.mono ?_;rintro e w1 ⟨rfl,T1,B1,s1⟩;have hc1':w1.cell? ⟨gb,1,none⟩=some (.slice (some ⟨b1,o1',none⟩) P c1):=by rw[B1.cell (p:=⟨gb,1,none⟩) (World.block_lt_of_cell? wr _ hc1)];exact hc1
     have hc2':w1.cell? ⟨gb,2,none⟩=some (.slice (some ⟨b2,o2',none⟩) P c2):=by rw[B1.cell (p:=⟨gb,2,none⟩) (World.block_lt_of_cell? wr _ hc2)];exact hc2
     have d1':w1.cell? ⟨b1,o1'+p,none⟩=some (.int .i64 (tp:Int)):=by rw[B1.cell (p:=⟨b1,o1'+p,none⟩) (World.block_lt_of_cell? wr _ d1)];exact d1
     have d2':w1.cell? ⟨b2,o2'+p,none⟩=some (.int .i64 (np:Int)):=by rw[B1.cell (p:=⟨b2,o2'+p,none⟩) (World.block_lt_of_cell? wr _ d2)];exact d2
     have HB1:=hyd2 T1 B1;clear T1 HNo hc1 hc2 d1 d2 B1;go_wp2_with fail;refine wp_region_still_tail 16 (by kernel_rfl) (by kernel_rfl) ?_;simp only[List.take_succ_cons,List.take_zero,List.drop_succ_cons,List.drop_zero];change wpStill _ _ w1.drew (fun a'=>wpList _ _ _ _ a' w1.drew) _ _
     repeat still_step
     refine wpStill_nil ?_;have HCb:=hyd (HBh.out w1.drew HB1.out.2.drew HB1.out.1);clear hc1' hc2' d1' d2';go_wp2_with fail;refine HCb.out.mono ?_;rintro e w2 ⟨rfl,TS2,F2⟩;have B2:=HB1.out.2.drew.trans F2.b;have s2:wr.heap.size<w2.heap.size:=by
      have h1:w1.drew.heap.size=w1.heap.size:=rfl;have:=F2.b.size;omega
     obtain⟨sb,hsb⟩:=nam wr.heap.size;have G2:=HGN.out.g.below (by omega) B2;obtain⟨a4,c4,e4,_⟩:=(G2.o 4 (by omega)).form;rw[HGN.out.l4,List.length_map,List.length_range]at e4;have hc4:=(G2.cell (i:=4) (by omega)).1;rw[e4]at hc4;have hx4:=box_bel w2 (.cells #[.slice (some ⟨wr.heap.size,0,none⟩) (P+i) (P+i)] 78);have G4:=G2.below (by omega) hx4;have hO4:=G4.o 4 (by omega);rw[e4,HGN.out.l4]at hO4;have hnw:(w2.alloc (.cells #[.slice (some ⟨wr.heap.size,0,none⟩) (P+i) (P+i)] 78)).cell? ⟨w2.heap.size,0,none⟩=some (.slice (some ⟨wr.heap.size,0,none⟩) (P+i) (P+i)):=by rw[World.cell?_alloc_new];rfl
     have hbs:gb+1<=(w2.alloc (.cells #[.slice (some ⟨wr.heap.size,0,none⟩) (P+i) (P+i)] 78)).heap.size:=by have:=hx4.size;have:=G2.lt (by omega);omega
     have Hlen4:Hid (((List.range p).map fun q=>Value.slice (some ⟨sk q,0,none⟩) (P+i) (P+i)).length=p):=by show _=_;simp
     have He4:=hyd e4;have HG4:=hyd G4;have H2:=hyd4 TS2 B2 s2 hx4;rw[<-hsb]at hO4 hnw hbs HG4 ⊢;have Hsb:=hyd hsb;clear TS2 F2 B2 s2 G2 G4 e4 hx4 hsb HCb HBh HB1;go_wp2_with (first|(with_reducible show wpList _ _ _ (⟨_,Op.call { callee:=Callee.builtin Builtin.append,args:=_,argTypes:=_ },_,_,_,_⟩::_) _ _;refine Stop.out ?_));refine⟨?_⟩;refine q0t 74 78 Tryz.underlying74 q4L rfl (by omega) (by rfl) _ _ (by rfl) (gb+1) (.slice a4 p c4) _ (by rfl) hO4 (by rw[Hlen4.out];omega) w2.heap.size (.slice (some ⟨sb,0,none⟩) (P+i) (P+i)) rfl (by rfl) hnw hbs _ rfl ?_;rw[Hlen4.out];intro g1 cap1 w5 hO5 hgrow hgb5 _;have hc5:w5.cell? ⟨gb,4,none⟩=some (.slice a4 p c4)/\w5.frozen? ⟨gb,4,none⟩=false:=by
      have:=(HG4.out.c.block (hgrow.block gb (HG4.out.lt (by omega)) (fun e=>by have:=((HG4.out.o 4 (by omega)).lt gb (by rw[He4.out];exact e.symm)).1;omega))) 4 (vs 4) rfl;rw[He4.out]at this;exact this
     obtain⟨hc5a,hc5b⟩:=hc5;have HNn:Hid (GNx gb (gb+1) i P es tr ad cp xb (upV sk p sb) ms Ts Ns ti nd (p+1) (upV vs 4 (.slice (some ⟨g1,0,none⟩) (p+1) cap1)) (upV ls 4 (ls 4++[.slice (some ⟨sb,0,none⟩) (P+i) (P+i)])) (fun k=>X k\/k=sb) w (w5.setCell ⟨gb,4,none⟩ (.slice (some ⟨g1,0,none⟩) (p+1) cap1))):=by
      obtain⟨x1,x2,x3,x4⟩:=H2.out;rw[Hsb.out]at hgrow hO5 hgb5 ⊢;exact HGN.out.next x2 x1 x3 (fun q _=>HF.out q) x4 (by rw[He4.out];exact hgrow) (by rw[HGN.out.l4];exact hO5) (by rw[He4.out];exact hgb5)
     clear hO5 hgrow hgb5 hO4 hnw hbs HG4 hc4;go_wp2_with fail;go_roundw
     case rel=>exact⟨p+1,_,_,_,_,by omega,by go_num,HNn.out⟩
     case measure=>simp[intOf];omega
    ·have hge2:¬(p:Int)<P:=by omega
     have hpP:p=P:=by omega
     subst hpP;have HR:=hyd (GNp.post hPe Hgb.out hGm hNs hti hnd);clear gx o1 o2 il1 il2 e1 e2 GNp hGm hPe hti hnd hNs;go_wp2_with fail;go_ret;exact HR.out
structure L6 (gb base nc n:Nat) (ty:Nat->TypeId) (vs:Nat->Value) (ls:Nat->List Value) (X:Nat->Prop) (w:World):Prop where
 c:TC gb ((List.range nc).map vs) w
 o:∀i,i<n->OwnV base (ty i) (vs i) (ls i) w
 d:∀i j k,i<n->j<n->i≠j->(vs i).ownBlock=some k->(vs j).ownBlock≠some k
 x:∀k,X k->k<w.heap.size/\k≠gb/\∀i,i<n->(vs i).ownBlock≠some k
 g:gb<base
 le:nc<=n
theorem L6.cell {ty:Nat->TypeId} (h:L6 gb base nc n ty vs ls X w) {i:Nat} (hi:i<nc):w.cell? ⟨gb,i,none⟩=some (vs i)/\w.frozen? ⟨gb,i,none⟩=false:=h.c i (vs i) (by simp[hi])
theorem L6.lt {ty:Nat->TypeId} (h:L6 gb base nc n ty vs ls X w) (hn:0<nc):gb<w.heap.size:=World.block_lt_of_cell? w _ (h.cell hn).1
theorem L6.keep {ty:Nat->TypeId} (h:L6 gb base nc n ty vs ls X w) (h0:w'.heap[gb]?=w.heap[gb]?) (hk:∀i k,i<n->(vs i).ownBlock=some k->w'.heap[k]?=w.heap[k]?) (hx:∀k,X' k->k<w'.heap.size/\k≠gb/\∀i,i<n->(vs i).ownBlock≠some k):L6 gb base nc n ty vs ls X' w':=
 ⟨h.c.block h0,fun i hi=>q0R (h.o i hi) (fun k hk'=>hk i k hi hk'),h.d,hx,h.g,h.le⟩
theorem L6.below {ty:Nat->TypeId} (h:L6 gb base nc n ty vs ls X w) (hn:0<nc) (hW:Below w.heap.size w w'):L6 gb base nc n ty vs ls X w':=
 h.keep (hW.block _ (h.lt hn)) (fun i k hi hk=>hW.block k ((h.o i hi).lt k hk).2) (fun k hk=>⟨by have:=(h.x k hk).1;have:=hW.size;omega,(h.x k hk).2⟩)
theorem L6.more {ty:Nat->TypeId} (h:L6 gb base nc n ty vs ls X w) (hx:∀k,X' k->X k\/(k<w.heap.size/\k≠gb/\∀i,i<n->(vs i).ownBlock≠some k)):L6 gb base nc n ty vs ls X' w:=
 ⟨h.c,h.o,h.d,fun k hk=>by
  rcases hx k hk with h1|h1
  ·exact h.x k h1
  ·exact h1,h.g,h.le⟩
theorem L6.app {gb base nc n:Nat}{ty:Nat->TypeId}{vs:Nat->Value}{ls:Nat->List Value}{X:Nat->Prop}{w w5:World} (h:L6 gb base nc n ty vs ls X w) {i:Nat} (hic:i<nc) {t:Value}{g len cap:Nat} (hg:w.grownBy w5 (vs i).ownBlock) (ho:OwnV base (ty i) (.slice (some ⟨g,0,none⟩) len cap) (ls i++[t]) w5) (hb:(vs i).ownBlock=some g\/g=w.heap.size):
  L6 gb base nc n ty (upV vs i (.slice (some ⟨g,0,none⟩) len cap)) (upV ls i (ls i++[t])) X (w5.setCell ⟨gb,i,none⟩ (.slice (some ⟨g,0,none⟩) len cap))/\AgX X w (w5.setCell ⟨gb,i,none⟩ (.slice (some ⟨g,0,none⟩) len cap))/\w.heap.size<=(w5.setCell ⟨gb,i,none⟩ (.slice (some ⟨g,0,none⟩) len cap)).heap.size /\
  (∀k,k<w.heap.size->k≠gb->(vs i).ownBlock≠some k->(w5.setCell ⟨gb,i,none⟩ (.slice (some ⟨g,0,none⟩) len cap)).heap[k]?=w.heap[k]?):=by
 have hi:i<n:=by have:=h.le;omega
 have hgl:=h.lt (by omega);have hgg:=h.g;have hgo:=(ho.lt g rfl).1;obtain⟨w6,h6⟩:∃w6,w6=w5.setCell ⟨gb,i,none⟩ (.slice (some ⟨g,0,none⟩) len cap):=⟨_,rfl⟩;have hb6:∀k,k≠gb->w6.heap[k]?=w5.heap[k]?:=fun k hk=>by rw[h6];exact Below.heap_setCell w5 ⟨gb,i,none⟩ _ k (fun e=>hk e)
 have hs6:w6.heap.size=w5.heap.size:=by rw[h6,World.size_setCell]
 have hs5:=hg.size;have hkeep:∀k,k<w.heap.size->k≠gb->(vs i).ownBlock≠some k->w6.heap[k]?=w.heap[k]?:=fun k h1 h2 h3=>by rw[hb6 k h2,hg.block k h1 (fun e=>h3 e.symm)]
 have hgbn:∀j,j<n->∀k,(vs j).ownBlock=some k->k≠gb:=fun j hj k hk=>by have:=((h.o j hj).lt k hk).1;omega
 have hgb5:w5.heap[gb]?=w.heap[gb]?:=hg.block gb hgl (fun e=>hgbn i hi gb e.symm rfl);rw[<-h6];refine⟨⟨?_,fun j hj=>?_,fun j l k hj hl hjl hk=>?_,fun k hk=>?_,hgg,h.le⟩,fun k hk=>hkeep k (h.x k hk).1 (h.x k hk).2.1 ((h.x k hk).2.2 i hi),by omega,hkeep⟩
 ·rw[h6,<-q6P hic];exact(h.c.block hgb5).set i (by simpa using hic) _
 ·by_cases e:j=i
  ·subst e;rw[q0i,q0i];exact q0R ho (fun k hk=>hb6 k (by
     have hk':g=k:=Option.some.inj hk;omega))
  ·rw[q0f _ _ e,q0f _ _ e];exact q0R (h.o j hj) (fun k hk=>hkeep k ((h.o j hj).lt k hk).2 (hgbn j hj k hk) (fun e2=>h.d j i k hj hi e hk e2))
 ·by_cases e1:j=i
  ·subst e1;rw[q0i]at hk;have hk':g=k:=Option.some.inj hk;rw[q0f _ _ (fun e=>hjl e.symm)];intro e2;rcases hb with h1|h1
   ·exact h.d j l k hj hl hjl (hk'▸h1) e2
   ·have:=((h.o l hl).lt k e2).2;omega
  ·rw[q0f _ _ e1]at hk;by_cases e2:l=i
   ·subst e2;rw[q0i];intro e3;have hk':g=k:=Option.some.inj e3;rcases hb with h1|h1
    ·exact h.d j l k hj hl hjl hk (hk'▸h1)
    ·have:=((h.o j hj).lt k hk).2;omega
   ·rw[q0f _ _ e2];exact h.d j l k hj hl hjl hk
 ·refine⟨by have:=(h.x k hk).1;omega,(h.x k hk).2.1,fun j hj=>?_⟩;by_cases e:j=i
  ·subst e;rw[q0i];intro e3;have hk':g=k:=Option.some.inj e3;rcases hb with h1|h1
   ·exact(h.x k hk).2.2 j hj (hk'▸h1)
   ·have:=(h.x k hk).1;omega
  ·rw[q0f _ _ e];exact(h.x k hk).2.2 j hj
theorem L6.appN {gb base nc n:Nat}{ty:Nat->TypeId}{vs:Nat->Value}{ls:Nat->List Value}{X:Nat->Prop}{w w5:World} (h:L6 gb base nc n ty vs ls X w) {i:Nat} (hi:i<n) (hic:nc<=i) (hn0:0<nc) {t:Value}{g len cap:Nat} (hg:w.grownBy w5 (vs i).ownBlock) (ho:OwnV base (ty i) (.slice (some ⟨g,0,none⟩) len cap) (ls i++[t]) w5) (hb:(vs i).ownBlock=some g\/g=w.heap.size):
  L6 gb base nc n ty (upV vs i (.slice (some ⟨g,0,none⟩) len cap)) (upV ls i (ls i++[t])) X w5/\AgX X w w5/\w.heap.size<=w5.heap.size /\
  (∀k,k<w.heap.size->k≠gb->(vs i).ownBlock≠some k->w5.heap[k]?=w.heap[k]?):=by
 have hgl:=h.lt hn0;have hgg:=h.g;have hgo:=(ho.lt g rfl).1;have hs5:=hg.size;have hkeep:∀k,k<w.heap.size->k≠gb->(vs i).ownBlock≠some k->w5.heap[k]?=w.heap[k]?:=fun k h1 _ h3=>hg.block k h1 (fun e=>h3 e.symm)
 have hgbn:∀j,j<n->∀k,(vs j).ownBlock=some k->k≠gb:=fun j hj k hk=>by have:=((h.o j hj).lt k hk).1;omega
 have hgb5:w5.heap[gb]?=w.heap[gb]?:=hg.block gb hgl (fun e=>hgbn i hi gb e.symm rfl);refine⟨⟨?_,fun j hj=>?_,fun j l k hj hl hjl hk=>?_,fun k hk=>?_,hgg,h.le⟩,fun k hk=>hkeep k (h.x k hk).1 (h.x k hk).2.1 ((h.x k hk).2.2 i hi),by omega,hkeep⟩
 ·have e:(List.range nc).map (upV vs i (.slice (some ⟨g,0,none⟩) len cap))=(List.range nc).map vs:=List.map_congr_left (fun j hj=>q0f _ _ (by have:=List.mem_range.1 hj;omega));rw[e];exact h.c.block hgb5
 ·by_cases e:j=i
  ·subst e;rw[q0i,q0i];exact ho
  ·rw[q0f _ _ e,q0f _ _ e];exact q0R (h.o j hj) (fun k hk=>hkeep k ((h.o j hj).lt k hk).2 (hgbn j hj k hk) (fun e2=>h.d j i k hj hi e hk e2))
 ·by_cases e1:j=i
  ·subst e1;rw[q0i]at hk;have hk':g=k:=Option.some.inj hk;rw[q0f _ _ (fun e=>hjl e.symm)];intro e2;rcases hb with h1|h1
   ·exact h.d j l k hj hl hjl (hk'▸h1) e2
   ·have:=((h.o l hl).lt k e2).2;omega
  ·rw[q0f _ _ e1]at hk;by_cases e2:l=i
   ·subst e2;rw[q0i];intro e3;have hk':g=k:=Option.some.inj e3;rcases hb with h1|h1
    ·exact h.d j l k hj hl hjl hk (hk'▸h1)
    ·have:=((h.o j hj).lt k hk).2;omega
   ·rw[q0f _ _ e2];exact h.d j l k hj hl hjl hk
 ·refine⟨by have:=(h.x k hk).1;omega,(h.x k hk).2.1,fun j hj=>?_⟩;by_cases e:j=i
  ·subst e;rw[q0i];intro e3;have hk':g=k:=Option.some.inj e3;rcases hb with h1|h1
   ·exact(h.x k hk).2.2 j hj (hk'▸h1)
   ·have:=(h.x k hk).1;omega
  ·rw[q0f _ _ e];exact(h.x k hk).2.2 j hj
theorem y0C:∃i,Tryz.prog.info? 9=some i/\i.zero=some (.string ByteArray.empty)/\i.size=1/\i.bytes=16:=by
 have h1:(Tryz.prog.info? 9).isSome=true:=by kernel_rfl
 obtain⟨i,hi⟩:=Option.isSome_iff_exists.1 h1;refine⟨i,hi,?_,?_,?_⟩
 ·have:((Tryz.prog.info? 9).bind (·.zero))=some (.string ByteArray.empty):=by kernel_rfl
  rw[hi]at this;exact this
 ·have:((Tryz.prog.info? 9).map (·.size))=some 1:=by kernel_rfl
  rw[hi]at this;simpa using this
 ·have:((Tryz.prog.info? 9).map (·.bytes))=some 16:=by kernel_rfl
  rw[hi]at this;simpa using this
def pTy:Nat->TypeId
 |0=>3
 |1=>23
 |2=>3
 |3=>3
 |4=>78
 |_=>9
theorem q4X (w:World) (o:Obj) (row:Option Nat):w.grownBy (w.alloc o) row:=by
 have h:=box_bel w o;exact⟨h.os,h.tape,h.output,h.size,fun i hi _=>h.block i hi⟩
theorem y0w (w:World) (base:Nat) (te:TypeId) (t:Value) (hb:base<=w.heap.size):OwnV base te (.slice (some ⟨w.heap.size,0,none⟩) 1 1) [t] (w.alloc (.cells #[t] te)):=
 World.ownsRow_lit (base:=base) (e:=te) (size:=1) w #[t] 1 hb (by unfold maxLen;omega) rfl
structure PM (pb base P R:Nat) (E:Nat->Nat->Bool) (l:List (Nat->Bool)) (nv nr:Nat) (vd:Nat->Int) (rw_:Nat->Nat->Int) (sk tk:Nat->Nat) (vs:Nat->Value) (ls:Nat->List Value) (X:Nat->Prop) (w0 w:World):Prop where
 q:L6 pb base 3 6 pTy vs ls X w
 l0:ls 0=(List.range nv).map fun i=>.int .i64 (vd i)
 l1:ls 1=(List.range nr).map fun i=>.slice (some ⟨tk i,0,none⟩) 256 256
 l2:ls 2=(reps E 256).map intN
 l3:ls 3=(List.range 256).map fun a=>intN (least E a)
 l4:ls 4=(List.range l.length).map fun i=>.slice (some ⟨sk i,0,none⟩) (P+R) (P+R)
 l5:ls 5=(List.range l.length).map fun i=>.string (keyS (em P (l.getD i noB)) (P+R))
 st:∀i,i<l.length->∀w',AgX X w w'->w.heap.size<=w'.heap.size->BR (some ⟨sk i,0,none⟩) (em P (l.getD i noB)) (P+R) w'
 rs:∀i,i<nr->∀w',AgX X w w'->w.heap.size<=w'.heap.size->IL (some ⟨tk i,0,none⟩) (rw_ i) 256 w'
 b:Below w0.heap.size w0 w
 s:w0.heap.size<=pb
section
variable {pb base P R : Nat} {E : Nat → Nat → Bool} {l : List (Nat → Bool)} {nv nr : Nat} {vd : Nat → Int} {rw_ : Nat → Nat → Int} {sk tk : Nat → Nat} {vs : Nat → Value} {ls : Nat → List Value} {X : Nat → Prop} {w0 w w' : World}
theorem PM.below (h:PM pb base P R E l nv nr vd rw_ sk tk vs ls X w0 w) (hW:Below w.heap.size w w'):PM pb base P R E l nv nr vd rw_ sk tk vs ls X w0 w':=by
 have ha:AgX X w w':=fun k hk=>hW.block k (h.q.x k hk).1
 have hs:=hW.size;exact⟨h.q.below (by omega) hW,h.l0,h.l1,h.l2,h.l3,h.l4,h.l5,fun i hi w2 h2 h3=>h.st i hi w2 (ha.trans h2) (by omega),fun i hi w2 h2 h3=>h.rs i hi w2 (ha.trans h2) (by omega),h.b.trans (hW.mono h.b.size),h.s⟩
structure TO (pb tob:Nat) (lx:List Value) (vs:Nat->Value) (X:Nat->Prop) (w0 w:World):Prop where
 x:TC tob lx w
 l:tob<w.heap.size
 d:∀j,j<6->(vs j).ownBlock≠some tob
 n:¬X tob/\tob≠pb
 s:w0.heap.size<=tob
theorem TO.below (h:TO pb tob lx vs X w0 w) (hW:Below w.heap.size w w'):TO pb tob lx vs X w0 w':=
 ⟨h.x.block (hW.block tob h.l),by have:=hW.size;have:=h.l;omega,h.d,h.n,h.s⟩
theorem TO.put (h:TO pb tob lx vs X w0 w) {k:Nat} (hk:k<lx.length) (u:Value):TO pb tob (lx.set k u) vs X w0 (w.setCell ⟨tob,k,none⟩ u):=
 ⟨h.x.set k hk u,by rw[World.size_setCell];exact h.l,h.d,h.n,h.s⟩
theorem PM.put {tob:Nat}{lx:List Value} (h:PM pb base P R E l nv nr vd rw_ sk tk vs ls X w0 w) (t:TO pb tob lx vs X w0 w) (k:Nat) (u:Value):PM pb base P R E l nv nr vd rw_ sk tk vs ls X w0 (w.setCell ⟨tob,k,none⟩ u):=by
 have hb:∀q,q≠tob->(w.setCell ⟨tob,k,none⟩ u).heap[q]?=w.heap[q]?:=fun q hq=>Below.heap_setCell w ⟨tob,k,none⟩ _ q (fun e=>hq e)
 have hs:(w.setCell ⟨tob,k,none⟩ u).heap.size=w.heap.size:=World.size_setCell ..;have ha:AgX X w (w.setCell ⟨tob,k,none⟩ u):=fun q hq=>hb q (fun e=>t.n.1 (e▸hq))
 exact⟨h.q.keep (hb pb (fun e=>t.n.2 e.symm)) (fun i q hi hq=>hb q (fun e=>t.d i hi (e▸hq))) (fun q hq=>⟨by rw[hs];exact(h.q.x q hq).1,(h.q.x q hq).2⟩),h.l0,h.l1,h.l2,h.l3,h.l4,h.l5,fun i hi w2 h2 h3=>h.st i hi w2 (ha.trans h2) (by omega),fun i hi w2 h2 h3=>h.rs i hi w2 (ha.trans h2) (by omega),h.b.setCell (p:=⟨tob,k,none⟩) t.s u,h.s⟩
theorem PM.addV (h:PM pb base P R E l nv nr vd rw_ sk tk vs ls X w0 w) (hg:w.grownBy w5 (vs 0).ownBlock) (ho:OwnV base (pTy 0) (.slice (some ⟨g,0,none⟩) len cap) (ls 0++[.int .i64 x]) w5) (hb:(vs 0).ownBlock=some g\/g=w.heap.size) (hx:vd nv=x):
  PM pb base P R E l (nv+1) nr vd rw_ sk tk (upV vs 0 (.slice (some ⟨g,0,none⟩) len cap)) (upV ls 0 (ls 0++[.int .i64 x])) X w0 (w5.setCell ⟨pb,0,none⟩ (.slice (some ⟨g,0,none⟩) len cap)):=by
 obtain⟨Q6,A6,s6,k6⟩:=h.q.app (i:=0) (by omega) hg ho hb;have hbs:=h.b.size;have B5:Below w0.heap.size w0 w5:=h.b.grown hg (by omega) (fun q hq=>by have:=((h.q.o 0 (by omega)).lt q hq).1;have:=h.q.g;have:=h.s;omega);refine⟨Q6,?_,?_,?_,?_,?_,?_,fun i hi w2 h2 h3=>h.st i hi w2 (A6.trans h2) (by omega),fun i hi w2 h2 h3=>h.rs i hi w2 (A6.trans h2) (by omega),B5.setCell (p:=⟨pb,0,none⟩) h.s _,h.s⟩
 ·rw[q0i,h.l0,List.range_succ,List.map_append,<-hx];rfl
 ·rw[q0f _ _ (by omega)];exact h.l1
 ·rw[q0f _ _ (by omega)];exact h.l2
 ·rw[q0f _ _ (by omega)];exact h.l3
 ·rw[q0f _ _ (by omega)];exact h.l4
 ·rw[q0f _ _ (by omega)];exact h.l5
theorem PM.addR {f:Nat->Int} (h:PM pb base P R E l nv nr vd rw_ sk tk vs ls X w0 w) (t:TO pb tob (inl f 256) vs X w0 w) (hg:w.grownBy w5 (vs 1).ownBlock) (ho:OwnV base (pTy 1) (.slice (some ⟨g,0,none⟩) len cap) (ls 1++[.slice (some ⟨tob,0,none⟩) 256 256]) w5) (hb:(vs 1).ownBlock=some g\/g=w.heap.size) (hx:∀b,b<256->rw_ nr b=f b):
  PM pb base P R E l nv (nr+1) vd rw_ sk (upV tk nr tob) (upV vs 1 (.slice (some ⟨g,0,none⟩) len cap)) (upV ls 1 (ls 1++[.slice (some ⟨tob,0,none⟩) 256 256])) (fun k=>X k\/k=tob) w0 (w5.setCell ⟨pb,1,none⟩ (.slice (some ⟨g,0,none⟩) len cap)):=by
 have q2:L6 pb base 3 6 pTy vs ls (fun k=>X k\/k=tob) w:=h.q.more (fun k hk=>by
  rcases hk with h1|h1
  ·exact Or.inl h1
  ·subst h1;exact Or.inr ⟨t.l,t.n.2,t.d⟩)
 obtain⟨Q6,A6,s6,k6⟩:=q2.app (i:=1) (by omega) hg ho hb;have hbs:=h.b.size;have B5:Below w0.heap.size w0 w5:=h.b.grown hg (by omega) (fun q hq=>by have:=((h.q.o 1 (by omega)).lt q hq).1;have:=h.q.g;have:=h.s;omega);have AX:AgX X w (w5.setCell ⟨pb,1,none⟩ (.slice (some ⟨g,0,none⟩) len cap)):=fun k hk=>A6 k (Or.inl hk)
 refine⟨Q6,?_,?_,?_,?_,?_,?_,fun i hi w2 h2 h3=>h.st i hi w2 (AX.trans (fun k hk=>h2 k (Or.inl hk))) (by omega),fun i hi w2 h2 h3=>?_,B5.setCell (p:=⟨pb,1,none⟩) h.s _,h.s⟩
 ·rw[q0f _ _ (by omega)];exact h.l0
 ·rw[q0i,h.l1,List.range_succ,List.map_append];congr 1
  ·refine List.map_congr_left (fun r hr=>?_);rw[q0f _ _ (by have:=List.mem_range.1 hr;omega)]
  ·simp[q0i]
 ·rw[q0f _ _ (by omega)];exact h.l2
 ·rw[q0f _ _ (by omega)];exact h.l3
 ·rw[q0f _ _ (by omega)];exact h.l4
 ·rw[q0f _ _ (by omega)];exact h.l5
 ·by_cases e:i=nr
  ·subst e;rw[q0i];intro j hj;refine⟨tob,0,rfl,?_⟩;rw[Nat.zero_add,hx j hj];exact((t.x.block ((h2 tob (Or.inr rfl)).trans (A6 tob (Or.inr rfl)))) j _ (q1l f hj)).1
  ·rw[q0f _ _ e];exact h.rs i (by omega) w2 (AX.trans (fun k hk=>h2 k (Or.inl hk))) (by omega)
theorem q6w (h:i<l.length) (g:Nat->Bool):(l++[g]).getD i noB=l.getD i noB:=by
 simp only[List.getD_eq_getElem?_getD,List.getElem?_append_left h]
theorem y1N (l:List (Nat->Bool)) (g:Nat->Bool):(l++[g]).getD l.length noB=g:=by
 simp[List.getD_eq_getElem?_getD]
theorem PM.addS {w2 w3 w5:World}{g1 len1 cap1 g2 len2 cap2 mb:Nat}{m:Nat->Bool} (h:PM pb base P R E l nv nr vd rw_ sk tk vs ls X w0 w) (hmb:TC mb (bl (em P m) (P+R)) w) (hml:mb<w.heap.size) (hmn:mb≠pb/\∀j,j<6->(vs j).ownBlock≠some mb)
  (hg:w.grownBy w2 (vs 4).ownBlock) (ho:OwnV base (pTy 4) (.slice (some ⟨g1,0,none⟩) len1 cap1) (ls 4++[.slice (some ⟨mb,0,none⟩) (P+R) (P+R)]) w2) (hb:(vs 4).ownBlock=some g1\/g1=w.heap.size) (hW:Below w2.heap.size w2 w3)
  (hg2:w3.grownBy w5 (vs 5).ownBlock) (ho2:OwnV base (pTy 5) (.slice (some ⟨g2,0,none⟩) len2 cap2) (ls 5++[.string (keyS (em P m) (P+R))]) w5) (hb2:(vs 5).ownBlock=some g2\/g2=w3.heap.size):
  PM pb base P R E (l++[m]) nv nr vd rw_ (upV sk l.length mb) tk (upV (upV vs 4 (.slice (some ⟨g1,0,none⟩) len1 cap1)) 5 (.slice (some ⟨g2,0,none⟩) len2 cap2)) (upV (upV ls 4 (ls 4++[.slice (some ⟨mb,0,none⟩) (P+R) (P+R)])) 5 (ls 5++[.string (keyS (em P m) (P+R))])) (fun k=>X k\/k=mb) w0 w5 /\
  (∀k,k<w.heap.size->k≠pb->(vs 4).ownBlock≠some k->(vs 5).ownBlock≠some k->w5.heap[k]?=w.heap[k]?)/\w.heap.size<=w5.heap.size/\(∀k,k<w.heap.size->(∀j,j<6->(vs j).ownBlock≠some k)->∀j,j<6->(upV (upV vs 4 (.slice (some ⟨g1,0,none⟩) len1 cap1)) 5 (.slice (some ⟨g2,0,none⟩) len2 cap2) j).ownBlock≠some k):=by
 have q2:L6 pb base 3 6 pTy vs ls (fun k=>X k\/k=mb) w:=h.q.more (fun k hk=>by
  rcases hk with h1|h1
  ·exact Or.inl h1
  ·subst h1;exact Or.inr ⟨hml,hmn.1,hmn.2⟩)
 obtain⟨Q6,A6,s6,k6⟩:=q2.appN (i:=4) (by omega) (by omega) (by omega) hg ho hb;have Q7:=Q6.below (by omega) hW;have e5:upV vs 4 (.slice (some ⟨g1,0,none⟩) len1 cap1) 5=vs 5:=q0f _ _ (by omega);have e5l:upV ls 4 (ls 4++[.slice (some ⟨mb,0,none⟩) (P+R) (P+R)]) 5=ls 5:=q0f _ _ (by omega);obtain⟨Q8,A8,s8,k8⟩:=Q7.appN (i:=5) (t:=.string (keyS (em P m) (P+R))) (by omega) (by omega) (by omega) (by rw[e5];exact hg2) (by rw[e5l];exact ho2) (by rw[e5];exact hb2);rw[e5l]at Q8;rw[e5]at k8;have hs3:=hW.size;have A68:AgX (fun k=>X k\/k=mb) w w5:=A6.trans (AgX.trans (fun k hk=>hW.block k (Q6.x k hk).1) A8);have AX:AgX X w w5:=fun k hk=>A68 k (Or.inl hk)
 have hbs:=h.b.size;have B2:Below w0.heap.size w0 w2:=h.b.grown hg (by omega) (fun q hq=>by have:=((h.q.o 4 (by omega)).lt q hq).1;have:=h.q.g;have:=h.s;omega);have B3:Below w0.heap.size w0 w3:=B2.trans (hW.mono B2.size);have B5:Below w0.heap.size w0 w5:=B3.grown hg2 B3.size (fun q hq=>by have:=((h.q.o 5 (by omega)).lt q hq).1;have:=h.q.g;have:=h.s;omega);refine⟨⟨Q8,?_,?_,?_,?_,?_,?_,fun i hi w' h2 h3=>?_,fun i hi w' h2 h3=>h.rs i hi w' (AX.trans (fun k hk=>h2 k (Or.inl hk))) (by omega),B5,h.s⟩,fun k a1 a2 a3 a4=>?_,by omega,fun k a1 a2 j hj=>?_⟩
 ·rw[q0f _ _ (by omega),q0f _ _ (by omega)];exact h.l0
 ·rw[q0f _ _ (by omega),q0f _ _ (by omega)];exact h.l1
 ·rw[q0f _ _ (by omega),q0f _ _ (by omega)];exact h.l2
 ·rw[q0f _ _ (by omega),q0f _ _ (by omega)];exact h.l3
 ·rw[q0f _ _ (by omega),q0i,h.l4,List.length_append,List.length_singleton,List.range_succ,List.map_append];congr 1
  ·refine List.map_congr_left (fun r hr=>?_);rw[q0f _ _ (by have:=List.mem_range.1 hr;omega)]
  ·simp[q0i]
 ·rw[q0i,h.l5,List.length_append,List.length_singleton,List.range_succ,List.map_append];congr 1
  ·refine List.map_congr_left (fun r hr=>?_);rw[q6w (List.mem_range.1 hr)]
  ·simp
 ·rw[List.length_append,List.length_singleton]at hi;by_cases e:i=l.length
  ·subst e;rw[q0i,y1N];intro j hj;refine⟨mb,0,rfl,?_⟩;rw[Nat.zero_add];exact((hmb.block ((h2 mb (Or.inr rfl)).trans (A68 mb (Or.inr rfl)))) j _ (q0x _ hj)).1
  ·rw[q0f _ _ e,q6w (by omega)];exact h.st i (by omega) w' (AX.trans (fun k hk=>h2 k (Or.inl hk))) (by omega)
 ·rw[k8 k (by omega) a2 a4,hW.block k (by omega),k6 k a1 a2 a3]
 ·by_cases j5:j=5
  ·subst j5;rw[q0i];intro e;have e3:g2=k:=Option.some.inj e;rcases hb2 with x|x
   ·exact a2 5 (by omega) (e3▸x)
   ·omega
  ·rw[q0f _ _ j5];by_cases j4:j=4
   ·subst j4;rw[q0i];intro e;have e3:g1=k:=Option.some.inj e;rcases hb with x|x
    ·exact a2 4 (by omega) (e3▸x)
    ·omega
   ·rw[q0f _ _ j4];exact a2 j hj
end
end Go.Proofs.YtoaaklhpmhjhkaaGreat
