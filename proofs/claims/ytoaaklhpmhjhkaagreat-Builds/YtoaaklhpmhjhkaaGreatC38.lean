import Derived.Test.YtoaaklhpmhjhkaaGreatC36
import Derived.Test.YtoaaklhpmhjhkaaGreatC37
set_option maxRecDepth 100000
set_option maxHeartbeats 4000000
set_option linter.all false
namespace Go.Proofs.YtoaaklhpmhjhkaaGreat
open Go.RowKit
open Bm
structure GrPre (tb base:Nat) (T:Nat->Nd) (N:Nat) (v vr:Value) (S:Nat->Prop) (K:Nat) (w:World):Prop where
 t:TW tb base T N N v vr S w
 r:Tre T N
 b:tb<base
 s:base<=w.heap.size
 n:N+K<=1000000
def GrPost (tb base:Nat) (T:Nat->Nd) (N:Nat) (v vr:Value) (S:Nat->Prop) (e:Rx) (K:Nat) (w:World) (ee:Ending) (w':World):Prop:=
 ∃T' n v' S',ee=.returned (.int .i64 (n:Nat))/\TW tb base T' (n+1) (n+1) v' vr S' w'/\TF tb v v' S S' w w'/\Tre T' (n+1)/\Fine T' (n+1) N n e/\(∀i,i<N->T' i=T i)/\n+1<=N+K
def PcOK (ts:List Tq) (e:Rx):Prop:=∀(tb base:Nat) (s:ByteArray) (T:Nat->Nd) (N:Nat) (v vr:Value) (S:Nat->Prop) (w:World),s.data.toList=tx ts->s.size<=40->GrPre tb base T N v vr S (ndB s.size e.sz) w ->
 Calls Tryz.prog 147 #[.pointer (some ⟨tb,0,none⟩),.string s] w (GrPost tb base T N v vr S e (ndB s.size e.sz) w)
def PtOK (ts:List Tq) (e:Rx):Prop:=∀(tb base:Nat) (s:ByteArray) (T:Nat->Nd) (N:Nat) (v vr:Value) (S:Nat->Prop) (w:World),s.data.toList=tx ts->s.size<=40->GrPre tb base T N v vr S (ndB s.size e.sz+2) w ->
 Calls Tryz.prog 91 #[.pointer (some ⟨tb,0,none⟩),.string s] w (GrPost tb base T N v vr S e (ndB s.size e.sz+2) w)
variable {ks : List Nat}{K K' M N N0 base cap f g n tb : Nat}{F : Nat → Bool}{S S' S0 S1 : Nat → Prop}{v v' v0 v1 vk vr : Value}{w w' w0 w1 w2 w5 : World}
theorem TF.sub (h:TF tb v v' S S1 w w') (hs:∀k,S' k->S1 k\/w.heap.size<=k):TF tb v v' S S' w w':=
 ⟨h.b,h.k,h.o,fun k hk=>by
  rcases hs k hk with h1|h1
  ·exact h.s k h1
  ·exact Or.inr h1⟩
structure GS (tb base:Nat) (T0:Nat->Nd) (N0:Nat) (v0 vr:Value) (S0:Nat->Prop) (w0:World) (T:Nat->Nd) (N:Nat) (v:Value) (S:Nat->Prop) (w:World):Prop where
 t:TW tb base T N N v vr S w
 f:TF tb v0 v S0 S w0 w
 r:Tre T N
 o:∀i,i<N0->T i=T0 i
 l:N0<=N
variable {T : Nat → Nd}
theorem GS.first (h:GrPre tb base T N v vr S K w):GS tb base T N v vr S w T N v S w:=
 ⟨h.t,TF.of v S (Nat.le_of_lt h.t.c.lt) (Below.refl _ _),h.r,fun _ _=>rfl,Nat.le_refl _⟩
variable {T0 : Nat → Nd}
theorem GS.pre (h:GS tb base T0 N0 v0 vr S0 w0 T N v S w) (h1:tb<base) (h2:base<=w0.heap.size) (h3:N+K<=1000000):GrPre tb base T N v vr S K w:=
 ⟨h.t,h.r,h1,by have:=h.f.b.size;omega,h3⟩
theorem GS.below (h:GS tb base T0 N0 v0 vr S0 w0 T N v S w) (hW:Below w.heap.size w w'):GS tb base T0 N0 v0 vr S0 w0 T N v S w':=
 ⟨h.t.below hW,h.f.trans (TF.of v S (Nat.le_of_lt h.t.c.lt) hW),h.r,h.o,h.l⟩
theorem GS.made (h:GS tb base T0 N0 v0 vr S0 w0 T N v S w) {T':Nat->Nd}{n:Nat}{v':Value}{S':Nat->Prop}{w':World}{e:Rx} (h1:TW tb base T' (n+1) (n+1) v' vr S' w') (h2:TF tb v v' S S' w w') (h3:Tre T' (n+1)) (h4:Fine T' (n+1) N n e) (h5:∀i,i<N->T' i=T i):GS tb base T0 N0 v0 vr S0 w0 T' (n+1) v' S' w':=
 ⟨h1,h.f.trans h2,h3,fun i hi=>by have:=h.l;rw[h5 i (by omega)];exact h.o i hi,by have:=h.l;have:=h4.ge;omega⟩
structure PL (w0:World) (v:Value) (S:Nat->Prop) (vk:Value) (ks:List Nat) (w:World):Prop where
 o:OwnL w0.heap.size vk (ks.map fun x:Nat=>(x:Int)) w
 s:∀k,vk.ownBlock=some k->v.ownBlock≠some k/\¬S k
theorem PL.nil (w0:World) (v:Value) (S:Nat->Prop) (w:World):PL w0 v S (.slice none 0 0) [] w:=⟨OwnL.nil _ _,fun k hk=>by cases hk⟩
theorem PL.tf (h:PL w0 v S vk ks w) (ht:tb<w0.heap.size) (f:TF tb v v1 S S1 w w1):PL w0 v1 S1 vk ks w1:=by
 refine⟨h.o.keep (fun k hk=>?_),fun k hk=>⟨fun e=>?_,fun e=>?_⟩⟩
 ·have:=h.o.blk k hk;exact f.k k this.2 (by omega) (h.s k hk).1
 ·have:=h.o.blk k hk;rcases f.o k e with h1|h1
  ·exact(h.s k hk).1 h1
  ·omega
 ·have:=h.o.blk k hk;rcases f.s k e with h1|h1
  ·exact(h.s k hk).2 h1
  ·omega
theorem PL.app (h:GS tb base T0 N0 v0 vr S0 w0 T N v S w) {vk:Value}{ks:List Nat} (p:PL w0 v S vk ks w) (ht:tb<w0.heap.size) {g len cap n:Nat} (hg:w.grownBy w5 vk.ownBlock) (ho:OwnL w0.heap.size (.slice (some ⟨g,0,none⟩) len cap) (ks.map (fun x:Nat=>(x:Int))++[(n:Int)]) w5) (hb:vk.ownBlock=some g\/g=w.heap.size):
  GS tb base T0 N0 v0 vr S0 w0 T N v S w5/\PL w0 v S (.slice (some ⟨g,0,none⟩) len cap) (ks++[n]) w5:=by
 have hsz:=h.f.b.size;have hs5:=hg.size;have hkeep:∀k,k<w.heap.size->vk.ownBlock≠some k->w5.heap[k]?=w.heap[k]?:=fun k h1 h2=>hg.block k h1 (fun e=>h2 e.symm)
 refine⟨⟨h.t.keep hs5 (fun k hk=>?_),⟨?_,fun k h1 h2 h3=>?_,h.f.o,h.f.s⟩,h.r,h.o,h.l⟩,⟨by rw[List.map_append];exact ho,fun k hk=>?_⟩⟩
 ·rcases hk with h1|h1|h1
  ·subst h1;exact hkeep k h.t.c.lt (fun e=>by have:=(p.o.blk k e).1;omega)
  ·exact hkeep k (h.t.blk k h1).2 (fun e=>(p.s k e).1 h1)
  ·exact hkeep k (h.t.s k h1).1 (fun e=>(p.s k e).2 h1)
 ·exact h.f.b.grown hg (by omega) (fun q hq=>by have:=(p.o.blk q hq).1;omega)
 ·rw[hkeep k (by omega) (fun e=>by have:=(p.o.blk k e).1;omega)];exact h.f.k k h1 h2 h3
 ·cases hk;rcases hb with h1|h1
  ·exact p.s g h1
  ·exact⟨fun e=>by have:=(h.t.blk g e).2;omega,fun e=>by have:=(h.t.s g e).1;omega⟩
theorem GS.node (h:GS tb base T0 N0 v0 vr S0 w0 T N v S w) {vk:Value}{ks:List Nat}{P:Nat->Prop} (hK:KiL P vk ks w) (hP:∀k,P k->w0.heap.size<=k/\k<w.heap.size/\v.ownBlock≠some k) (htb:tb<base) (hb:base<=w0.heap.size) (kind:Nat) (h4:kind<=4) (h0:kind≠0) (hk:∀k∈ks,N0<=k/\k<N) (hd:ks.Nodup) (hN:N<=1000000) (hl:ks.length<=1000):
  Calls Tryz.prog 148 #[.pointer (some ⟨tb,0,none⟩),.int .i64 kind,vk] w fun e w'=>∃v',e=.returned (.int .i64 N)/\GS tb base T0 N0 v0 vr S0 w0 (addN T N kind ks (fun _=>false)) (N+1) v' (fun k=>S k\/P k) w'/\TF tb v v' S S w w':=by
 have hsz:=h.f.b.size;refine(q6O tb base T N v vr S P kind vk ks w h.t hK (fun k hk=>⟨(hP k hk).2.1,by have:=(hP k hk).1;omega,(hP k hk).2.2⟩) (fun k hk'=>(hk k hk').2) hd htb (by omega) hN hl).mono ?_;rintro e w' ⟨v',he,tw,tf⟩;refine⟨v',he,⟨tw.more (by rw[q0r];exact h0),(h.f.trans tf).sub (fun k hk=>?_),h.r.add (fun k hk'=>(hk k hk').2) h4 hl,fun i hi=>?_,by have:=h.l;omega⟩,tf⟩
 ·rcases hk with h1|h1
  ·exact Or.inl h1
  ·exact Or.inr (hP k h1).1
 ·have:=h.l;rw[q1g (by omega) (fun hm=>by have:=(hk i hm).1;omega)];exact h.o i hi
theorem PL.add {P:Nat->Prop} (h:PL w0 v S vk ks w) (hp:∀k,vk.ownBlock=some k->¬P k):PL w0 v (fun k=>S k\/P k) vk ks w:=
 ⟨h.o,fun k hk=>⟨(h.s k hk).1,fun e=>by
  rcases e with e|e
  ·exact(h.s k hk).2 e
  ·exact hp k hk e⟩⟩
theorem KiL.two (w:World) (a b:Nat) (ty:TypeId):KiL (fun k=>k=w.heap.size) (.slice (some ⟨w.heap.size,0,none⟩) 2 2) [a,b] (w.alloc (.cells #[.int .i64 (a:Int),.int .i64 (b:Int)] ty)):=by
 refine⟨_,2,rfl,fun w' hA i hi=>⟨w.heap.size,0,rfl,?_⟩⟩;rw[World.cell?_of_block (w:=w.alloc (.cells #[.int .i64 (a:Int),.int .i64 (b:Int)] ty)) (a:=⟨w.heap.size,0+i,none⟩) (hA _ rfl),World.cell?_alloc_new];simp only[List.length_cons,List.length_nil]at hi
 match i,hi with
 |0,_=>rfl
 |1,_=>rfl
theorem KiL.one (w:World) (a:Nat) (ty:TypeId):KiL (fun k=>k=w.heap.size) (.slice (some ⟨w.heap.size,0,none⟩) 1 1) [a] (w.alloc (.cells #[.int .i64 (a:Int)] ty)):=by
 refine⟨_,1,rfl,fun w' hA i hi=>⟨w.heap.size,0,rfl,?_⟩⟩;rw[World.cell?_of_block (w:=w.alloc (.cells #[.int .i64 (a:Int)] ty)) (a:=⟨w.heap.size,0+i,none⟩) (hA _ rfl),World.cell?_alloc_new];simp only[List.length_cons,List.length_nil]at hi
 match i,hi with
 |0,_=>rfl
variable {e : Rx}
theorem GS.post (h:GS tb base T0 N0 v0 vr S0 w0 T (n+1) v S w) (hf:Fine T (n+1) N0 n e) (hk:n+1<=N0+K):GrPost tb base T0 N0 v0 vr S0 e K w0 (.returned (.int .i64 (n:Nat))) w:=
 ⟨T,n,v,S,rfl,h.t,h.f,h.r,hf,h.o,hk⟩
variable {ts : List Tq}
theorem q8K (h:PcOK ts e) (tb base:Nat) (s:ByteArray) (T:Nat->Nd) (N:Nat) (v vr:Value) (S:Nat->Prop) (w:World) (hts:s.data.toList=tx ts) (hs:s.size<=40) (hp:GrPre tb base T N v vr S (ndB s.size e.sz+2) w):
  Calls Tryz.prog 183 #[.pointer (some ⟨tb,0,none⟩),.string s] w (GrPost tb base T N v vr S (.opt e) (ndB s.size e.sz+2) w):=by
 obtain⟨K,hK⟩:=nam (ndB s.size e.sz);have HC:Hid (Calls Tryz.prog 147 #[.pointer (some ⟨tb,0,none⟩),.string s] w (GrPost tb base T N v vr S e K w)):=by rw[hK];exact h tb base s T N v vr S w hts hs ⟨hp.t,hp.r,hp.b,hp.s,by have:=hp.n;omega⟩
 rw[<-hK]at hp ⊢;have htb:=hp.b;have hb:=hp.s;have hn:=hp.n;have HG:=hyd (GS.first hp);clear h hts hK hp;go_enter Tryz.func183,Tryz.ntmps183;go_wp2_with fail;refine HC.out.mono ?_;rintro ee w1 ⟨T1,a,v1,S1,rfl,tw1,tf1,tr1,f1,old1,ln1⟩;have G1:=HG.out.made tw1 tf1 tr1 f1 old1;have HN1:=hyd (G1.node (P:=fun _=>False) (KiL.nil w1) (fun k hk=>hk.elim) htb hb 1 (by omega) (by omega) (by simp) (by simp) (by omega) (by simp));have Hf1:=hyd2 f1 tr1;clear HC HG tw1 tf1 tr1 f1 old1 G1;go_wp2_with fail;refine HN1.out.mono ?_;rintro ee w2 ⟨v2,rfl,G2,_⟩;clear HN1;have G3:=G2.below (box_bel w2 (.cells #[.int .i64 (a:Int),.int .i64 ((a+1:Nat):Int)] 3));obtain⟨hw1,hw2⟩:=Hf1.out;have hge:=hw1.ge;have HN2:Hid (Calls Tryz.prog 148 #[.pointer (some ⟨tb,0,none⟩),.int .i64 (2:Nat),.slice (some ⟨w2.heap.size,0,none⟩) 2 2] (w2.alloc (.cells #[.int .i64 (a:Int),.int .i64 ((a+1:Nat):Int)] 3)) fun e w'=>∃v',e=.returned (.int .i64 ((a+1+1:Nat):Int))/\GS tb base T N v vr S w (addN (addN T1 (a+1) 1 [] (fun _=>false)) (a+1+1) 2 [a,a+1] (fun _=>false)) (a+1+1+1) v' (fun k=>(S1 k\/False)\/k=w2.heap.size) w'/\TF tb v2 v' (fun k=>S1 k\/False) (fun k=>S1 k\/False) (w2.alloc (.cells #[.int .i64 (a:Int),.int .i64 ((a+1:Nat):Int)] 3)) w'):=
  G3.node (KiL.two w2 a (a+1) 3) (fun k hk=>by
   subst hk;refine⟨G2.f.b.size,by simp,fun e=>?_⟩;have:=(G2.t.blk _ e).2;omega) htb hb 2 (by omega) (by omega) (by simp;omega) (by simp) (by omega) (by simp)
 have Hff:=hyd (y1w hw2.w hw1);clear G2 G3 Hf1 hw1 hw2;go_wp2_with fail;refine HN2.out.mono ?_;rintro ee w4 ⟨v4,rfl,G4,_⟩;go_wp2_with fail;go_ret;exact G4.post Hff.out (by omega)
theorem q7R (h:PcOK ts e) (m n:Nat) (hm9:m<=9) (hn9:n<=9) (tb base:Nat) (s:ByteArray) (T:Nat->Nd) (N:Nat) (v vr:Value) (S:Nat->Prop) (w:World) (hts:s.data.toList=tx ts) (hs:s.size<=40) (hp:GrPre tb base T N v vr S (n*(ndB s.size e.sz+2)+1) w):
  Calls Tryz.prog 184 #[.pointer (some ⟨tb,0,none⟩),.string s,.int .i64 m,.int .i64 n] w (GrPost tb base T N v vr S (Rx.rowOf (Rx.copies e m n)) (n*(ndB s.size e.sz+2)+1) w):=by
 obtain⟨K,hK⟩:=nam (ndB s.size e.sz);have HC:Hid (∀(T':Nat->Nd) (N':Nat) (v':Value) (S':Nat->Prop) (w':World),GrPre tb base T' N' v' vr S' K w'->Calls Tryz.prog 147 #[.pointer (some ⟨tb,0,none⟩),.string s] w' (GrPost tb base T' N' v' vr S' e K w')):=by
  rw[hK];exact fun T' N' v' S' w' hp'=>h tb base s T' N' v' vr S' w' hts hs hp'
 have HM:Hid (∀(T':Nat->Nd) (N':Nat) (v':Value) (S':Nat->Prop) (w':World),GrPre tb base T' N' v' vr S' (K+2) w'->Calls Tryz.prog 183 #[.pointer (some ⟨tb,0,none⟩),.string s] w' (GrPost tb base T' N' v' vr S' (.opt e) (K+2) w')):=by
  rw[hK];exact fun T' N' v' S' w' hp'=>q8K h tb base s T' N' v' vr S' w' hts hs hp'
 rw[<-hK]at hp ⊢;have htb:=hp.b;have hb:=hp.s;obtain⟨Q,hQ⟩:=nam (K+2);rw[<-hQ]at hp ⊢;obtain⟨nQ,hnQ⟩:=nam (n*Q);have HnQ:=hyd hnQ;rw[<-hnQ]at hp ⊢;have hN:=hp.n;have htw:=hp.t.c.lt;have HG:=hyd (GS.first hp);have hn':(n:Int)<=9:=by omega
 clear h hts hK hp hnQ;go_enter Tryz.func184,Tryz.ntmps184;go_wp2_with fail
 go_loopw [9,10] (fun kv iv w'=>∃(i iQ:Nat) (ks:List Nat) (T':Nat->Nd) (N':Nat) (v':Value) (S':Nat->Prop) (ka:Option Addr) (kc:Nat),i<=n/\iv=.int .i64 i/\kv=.slice ka i kc/\GS tb base T N v vr S w T' N' v' S' w'/\PL w v' S' kv ks w'/\Hid (Chain T' N' N ks (Rx.copies e m i) N')/\N'<=N+iQ/\Hid (iQ=i*Q)/\Hid ((ks.map (fun x:Nat=>(x:Int))).length=i)) (fun _ iv _=>n-(intOf iv).toNat)
 case atStart=>exact⟨0,0,[],T,N,v,S,none,0,by omega,rfl,rfl,HG.out,PL.nil _ _ _ _,Chain.nil N,by omega,(Nat.zero_mul Q).symm,rfl⟩
 case round=>
  clear HG;obtain⟨i,iQ,ks,T',N',v',S',ka,kc,hi,rfl,rfl,G,PLk,HCh,hN',HiQ,Hlk⟩:=hrel;by_cases hlt:i<n
  ·have hlt':(i:Int)<n:=by omega
   have hQ2:iQ+Q<=nQ:=by
    have h1:(i+1)*Q<=n*Q:=Nat.mul_le_mul_right _ hlt;rw[Nat.succ_mul]at h1;have h2:=HiQ.out;have h3:=HnQ.out;omega
   have HQ3:Hid (iQ+Q=(i+1)*Q):=by show _=_;rw[Nat.succ_mul,HiQ.out]
   by_cases hmm:i<m
   ·have hmm':(i:Int)<m:=by omega
    have HC1:=hyd (HC.out T' N' v' S' wr (G.pre htb hb (by omega)));have HGP:=hyd2 G PLk;clear G PLk;go_wp2_with fail;refine HC1.out.mono ?_;rintro ee w1 ⟨T1,a,v1,S1,rfl,tw1,tf1,tr1,f1,old1,ln1⟩;have hbx:=box_bel w1 (.cells #[.int .i64 (a:Int)] 3);have G1:=(HGP.out.1.made tw1 tf1 tr1 f1 old1).below hbx;have P1:=(HGP.out.2.tf htw tf1);have P2:PL w v1 S1 (.slice ka i kc) ks (w1.alloc (.cells #[.int .i64 (a:Int)] 3)):=⟨P1.o.below hbx,P1.s⟩;have HCh1:Hid (Chain T1 (a+1) N (ks++[a]) (Rx.copies e m (i+1)) (a+1)):=by
     show Chain _ _ _ _ _ _;rw[Rx.copies_succ,if_pos hmm];exact HCh.out.more HGP.out.1.r.w old1 f1
    have hO1:=P2.o;have hnw:(w1.alloc (.cells #[.int .i64 (a:Int)] 3)).cell? ⟨w1.heap.size,0,none⟩=some (.int .i64 (a:Int)):=by rw[World.cell?_alloc_new];rfl
    have hbs:=G1.f.b.size;have HGP1:=hyd2 G1 P2;clear HC1 HGP tw1 tf1 tr1 f1 old1 G1 P1 P2 hbx HCh;go_wp2_with (first|(at_builtin;refine Bm.wpList_append_int (by rfl) _ _ (by rfl) w.heap.size (.slice ka i kc) _ (by rfl) hO1 (by rw[Hlk.out];omega) w1.heap.size (a:Int) (by rfl) hnw hbs _ rfl ?_;rw[Hlk.out];intro g cap w5 hO5 hgrow hgb hl5));obtain⟨G5,P5⟩:=HGP1.out.2.app HGP1.out.1 htw hgrow hO5 hgb;go_roundw
    case rel=>exact⟨i+1,iQ+Q,ks++[a],T1,a+1,v1,S1,some ⟨g,0,none⟩,cap,by omega,by go_num,rfl,G5,P5,HCh1,by omega,HQ3,by show _=_;have:=Hlk.out;simp at this;simp[this]⟩
    case measure=>simp[intOf];omega
   ·have hmm':¬(i:Int)<m:=by omega
    have HC1:=hyd (HM.out T' N' v' S' wr (G.pre htb hb (by omega)));have HGP:=hyd2 G PLk;clear G PLk;go_wp2_with fail;refine HC1.out.mono ?_;rintro ee w1 ⟨T1,a,v1,S1,rfl,tw1,tf1,tr1,f1,old1,ln1⟩;have hbx:=box_bel w1 (.cells #[.int .i64 (a:Int)] 3);have G1:=(HGP.out.1.made tw1 tf1 tr1 f1 old1).below hbx;have P1:=(HGP.out.2.tf htw tf1);have P2:PL w v1 S1 (.slice ka i kc) ks (w1.alloc (.cells #[.int .i64 (a:Int)] 3)):=⟨P1.o.below hbx,P1.s⟩;have HCh1:Hid (Chain T1 (a+1) N (ks++[a]) (Rx.copies e m (i+1)) (a+1)):=by
     show Chain _ _ _ _ _ _;rw[Rx.copies_succ,if_neg hmm];exact HCh.out.more HGP.out.1.r.w old1 f1
    have hO1:=P2.o;have hnw:(w1.alloc (.cells #[.int .i64 (a:Int)] 3)).cell? ⟨w1.heap.size,0,none⟩=some (.int .i64 (a:Int)):=by rw[World.cell?_alloc_new];rfl
    have hbs:=G1.f.b.size;have HGP1:=hyd2 G1 P2;clear HC1 HGP tw1 tf1 tr1 f1 old1 G1 P1 P2 hbx HCh;go_wp2_with (first|(at_builtin;refine Bm.wpList_append_int (by rfl) _ _ (by rfl) w.heap.size (.slice ka i kc) _ (by rfl) hO1 (by rw[Hlk.out];omega) w1.heap.size (a:Int) (by rfl) hnw hbs _ rfl ?_;rw[Hlk.out];intro g cap w5 hO5 hgrow hgb hl5));obtain⟨G5,P5⟩:=HGP1.out.2.app HGP1.out.1 htw hgrow hO5 hgb;go_roundw
    case rel=>exact⟨i+1,iQ+Q,ks++[a],T1,a+1,v1,S1,some ⟨g,0,none⟩,cap,by omega,by go_num,rfl,G5,P5,HCh1,by omega,HQ3,by show _=_;have:=Hlk.out;simp at this;simp[this]⟩
    case measure=>simp[intOf];omega
  ·have hge:¬(i:Int)<n:=by omega
   have hin:i=n:=by omega
   subst hin;have hle:=HCh.out.le;have HN1:Hid (Calls Tryz.prog 148 #[.pointer (some ⟨tb,0,none⟩),.int .i64 (1:Nat),(.slice ka i kc)] wr fun e w'=>∃v2,e=.returned (.int .i64 (N':Int))/\GS tb base T N v vr S w (addN T' N' 1 ks (fun _=>false)) (N'+1) v2 (fun k=>S' k\/(Value.slice ka i kc).ownBlock=some k) w'/\TF tb v' v2 S' S' wr w'):=
    G.node (KiL.of PLk.o) (fun k hk=>⟨(PLk.o.blk k hk).1,(PLk.o.blk k hk).2,(PLk.s k hk).1⟩) htb hb 1 (by omega) (by omega) hle.2.2.1 HCh.out.nodup (by have:=HiQ.out;have:=HnQ.out;omega) (by have:=Hlk.out;simp at this;omega)
   have HF:=hyd (q5V G.r.w HCh.out);have HB:Hid (N'+1<=N+(nQ+1)):=by
    have h2:=HiQ.out;have h3:=HnQ.out;show _<=_;omega
   clear G PLk hle;go_wp2_with fail;refine HN1.out.mono ?_;rintro ee w4 ⟨v4,rfl,G4,_⟩;go_wp2_with fail;go_ret;exact G4.post HF.out HB.out
theorem q8B (tb base:Nat) (T0:Nat->Nd) (N0:Nat) (v0 vr:Value) (S0:Nat->Prop) (w0:World) (T:Nat->Nd) (k:Nat) (v:Value) (S:Nat->Prop) (w:World) (e:Rx) (K:Nat) (hG:GS tb base T0 N0 v0 vr S0 w0 T (k+1) v S w) (hF:Fine T (k+1) N0 k e) (htb:tb<base) (hb:base<=w0.heap.size) (hK:k+2<=N0+K) (hN:N0+K<=1000000) (st:Bool):
  Calls Tryz.prog 182 #[.pointer (some ⟨tb,0,none⟩),.int .i64 (if st then 3 else 4),.int .i64 k] w (GrPost tb base T0 N0 v0 vr S0 (if st then .star e else .plus e) K w0):=by
 have hz:=q1Z;obtain⟨k',b,hU,hk',hlo,hFF⟩:=y0v hG.r.w hF.toGood st;obtain⟨E,hE⟩:=nam ((if st then Rx.star e else .plus e));rw[<-hE]at hFF ⊢;have HFF:=hyd hFF;have HG:=hyd hG;have Hwf:=hyd2 hG.r.w hF.ge;have HU:=hyd hU;obtain⟨kd0,hkd0⟩:∃kd0:Int,kd0=if st then 3 else 4:=⟨_,rfl⟩
 rw[<-hkd0];have Hkd0:Hid (kd0=if st || false then 3 else 4):=by show _=_;rw[hkd0,Bool.or_false]
 have hkK:(k:Int)<=1000000:=by omega
 clear hU hFF hE hF hG hkd0;go_enter Tryz.func182,Tryz.ntmps182;go_wp2_with fail
 go_loopw [1,2] (fun kd kv w'=>∃(kc:Nat) (kdI:Int) (b1 b2:Bool),kd=.int .i64 kdI/\kv=.int .i64 kc/\Hid (kdI=if st || b1 then 3 else 4)/\Hid (Unw T kc k' b2)/\Hid ((b1 || b2)=b)/\kc<=k/\GS tb base T0 N0 v0 vr S0 w0 T (k+1) v S w') (fun _ kv _=>(intOf kv).toNat)
 case atStart=>exact⟨k,kd0,false,b,rfl,rfl,Hkd0,HU,by show _=_;cases b<;>rfl,Nat.le_refl _,HG.out⟩
 case round=>
  clear HU HG Hkd0;obtain⟨kc,kdI,b1,b2,rfl,rfl,HkdI,HU,Hb,hkc,G⟩:=hrel;have hkc':(kc:Int)<k+1:=by omega
  have hT:=G.t.tr (Nat.le_refl _);obtain⟨na,nc,c0,hnd⟩:=hT;obtain⟨nb,off,vin,ka,kcap,en,r,o,il,_⟩:=hnd kc (by omega);subst en;obtain⟨d,hd⟩:=nam (T kc);rw[<-hd]at r il;have Hd:=hyd hd;obtain⟨m,hm⟩:=nam d.kids.length;have Hm:=hyd hm;have HGw:=hyd G;have Hil:=hyd il;clear hnd hd hm il G;go_wp2_with (first|(with_reducible refine gld 118 ?_;refine Stop.out ?_));refine⟨?_⟩;refine wpList_load_mid rfl 118 _ rfl nb (off+kc*5) rfl (ndC d vin ka kcap) _ r Tryz.underlying118 rfl q1y ?_
  (try simp only[psm])
  go_wp2_with (first|(with_reducible refine gst 118 ?_;refine Stop.out ?_));refine⟨?_⟩;obtain⟨w2,hw2⟩:=nam ((wr.alloc (.cells nodZ.toArray 118)).setCells wr.heap.size 0 (ndC d vin ka kcap));have hbo:=q1o wr nodZ (ndC d vin ka kcap) 118 rfl;have T2:TC wr.heap.size (ndC d vin ka kcap) w2:=by rw[hw2];exact q4s hbo.2.2.2
  rw[<-hw2]at hbo;obtain⟨B2,_,s2,t2⟩:=hbo;refine wpList_store_mid rfl 118 _ _ rfl wr.heap.size 0 (ndC d vin ka kcap).toArray rfl rfl t2 q1y (by simp only[ndC,List.all_toArray,List.all_cons,o];rfl) ?_;rw[List.toList_toArray];have hw2':w2=(wr.alloc (.cells #[.int .i64 0,.slice none 0 0,.slice none 0 0,.int .i64 0,.int .i64 0] 118)).setCells wr.heap.size 0 (ndC d vin ka kcap):=hw2;rw[<-hw2'];have ck:=(T2 0 _ rfl).1;have cK:=(T2 2 _ rfl).1;rw[<-Hm.out]at cK;have HG2:Hid (GS tb base T0 N0 v0 vr S0 w0 T (k+1) v S w2):=HGw.out.below B2;have Hil2:Hid (IL ka (fun k=>((d.kids.getD k 0:Nat):Int)) d.kids.length w2):=Hil.out.below B2;clear hw2 hw2' t2 r T2 c0 B2 s2 hkc' HGw Hil;generalize hbx:wr.heap.size=bx at *;have hU:=HU.out;have hmb:(m:Int)<=1000:=by
   have:=(HG2.out.r.k kc (by omega)).2;rw[<-Hd.out,<-Hm.out]at this;omega
  have kid:∀(j c:Nat),d.kids[j]?=some c->∃kb ko,ka=some ⟨kb,ko,none⟩/\w2.cell? ⟨kb,ko+j,none⟩=some (.int .i64 (c:Int)):=fun j c hj=>by
   obtain⟨kb,ko,e1,e2⟩:=Hil2.out j (List.getElem?_eq_some_iff.1 hj).1;refine⟨kb,ko,e1,?_⟩;rw[e2];simp only[List.getD_eq_getElem?_getD,hj,Option.getD_some]
  cases hU with
  |star h1 h2 hu=>
   rename_i c b3;rw[<-Hd.out]at h1 h2;have q3:((d.kind:Int)==3)=true:=by simp[h1]
   obtain⟨kb,ko,e1,e2⟩:=kid 0 c (by rw[h2];rfl);have hm1:m=1:=by rw[Hm.out,h2];rfl
   subst e1 hm1;have hlt:=Hwf.out.1 kc (by omega) c (by rw[<-Hd.out,h2];simp);have HR:=hyd hu;simp only[Nat.add_zero]at e2;clear kid h1 h2 hu;go_wp2_with fail;go_roundw
   case rel=>exact⟨c,3,true,b3,rfl,rfl,by show _=_;simp,HR,by show _=_;have:=Hb.out;simp at this;simp[this],by omega,HG2.out⟩
   case measure=>simp[intOf];omega
  |one h1 h2 hu=>
   rename_i c;rw[<-Hd.out]at h1 h2;have q3:((d.kind:Int)==3)=false:=by simp;omega
   obtain⟨kb,ko,e1,e2⟩:=kid 0 c (by rw[h2];rfl);have hm1:m=1:=by rw[Hm.out,h2];rfl
   subst e1 hm1;have hlt:=Hwf.out.1 kc (by omega) c (by rw[<-Hd.out,h2];simp);have HR:=hyd hu;simp only[Nat.add_zero]at e2;clear kid h1 h2 hu;go_wp2_with fail;go_roundw
   case rel=>exact⟨c,kdI,b1,b2,rfl,rfl,HkdI,HR,Hb,by omega,HG2.out⟩
   case measure=>simp[intOf];omega
  |may h1 h2 h3 h4 hu=>
   rename_i c dd b3;rw[<-Hd.out]at h1 h2;have q3:((d.kind:Int)==3)=false:=by simp;omega
   have q2:((d.kind:Int)==2)=true:=by simp[h1]
   obtain⟨kb,ko,e1,e2⟩:=kid 0 c (by rw[h2];rfl);obtain⟨kb2,ko2,e3,e4⟩:=kid 1 dd (by rw[h2];rfl);rw[e1]at e3;cases e3;have hm1:m=2:=by rw[Hm.out,h2];rfl
   subst e1 hm1;have hlt:=Hwf.out.1 kc (by omega) c (by rw[<-Hd.out,h2];simp);have hlt2:=Hwf.out.1 kc (by omega) dd (by rw[<-Hd.out,h2];simp);have HR:=hyd hu;have hbr:=q8Z tb T (k+1) dd w2 (by omega) (by omega) (HG2.out.t.tr (Nat.le_refl _));rw[show decide ((T dd).kind=1/\(T dd).kids=[])=true by simp[h3,h4]]at hbr;have Hbr:=hyd hbr;simp only[Nat.add_zero]at e2;clear kid h1 h2 hu h3 h4 hbr;go_wp2_with fail;refine Hbr.out.mono ?_;rintro ee w3 ⟨rfl,rfl⟩;go_wp2_with fail;go_roundw
   case rel=>exact⟨c,3,true,b3,rfl,rfl,by show _=_;simp,HR,by show _=_;have:=Hb.out;simp at this;simp[this],by omega,HG2.out⟩
   case measure=>simp[intOf];omega
  |stop h1 h2 h3=>
   rw[<-Hd.out]at h1 h2 h3;have q3:((d.kind:Int)==3)=false:=by simp;omega
   have q1:((m:Int)==1)=false:=by rw[Hm.out];simp;omega
   have hbb:b1=b:=by have:=Hb.out;simpa using this
   have HkdN:Hid (kdI=((if st || b then 3 else 4:Nat):Int)):=by
    show _=_;rw[HkdI.out,hbb];split<;>rfl
   have hn4:(if st || b then 3 else 4:Nat)<=4/\(if st || b then 3 else 4:Nat)≠0:=by split<;>omega
   have HNode:Hid (∀w3,w3=w2->Calls Tryz.prog 148 #[.pointer (some ⟨tb,0,none⟩),.int .i64 kdI,.slice (some ⟨w3.heap.size,0,none⟩) 1 1] (w3.alloc (.cells #[.int .i64 (k':Int)] 3)) (GrPost tb base T0 N0 v0 vr S0 E K w0)):=fun w3 e3=>by
    subst e3;rw[HkdN.out];have hsz:=HG2.out.f.b.size;refine((HG2.out.below (box_bel w3 (.cells #[.int .i64 (k':Int)] 3))).node (P:=fun q=>q=w3.heap.size) (ks:=[k']) (KiL.one w3 k' 3) (fun q hq=>?_) htb hb _ hn4.1 hn4.2 ?_ (by simp) (by omega) (by simp)).mono ?_
    ·subst hq;exact⟨hsz,by simp,fun e=>by have:=(HG2.out.t.blk _ e).2;omega⟩
    ·simp only[List.mem_singleton];rintro q rfl;exact⟨hlo,by omega⟩
    ·rintro ee w5 ⟨v5,rfl,G5,_⟩;exact G5.post HFF.out (by omega)
   by_cases e2:d.kind=2
   ·have q2:((d.kind:Int)==2)=true:=by simp[e2]
    by_cases em:m=2
    ·obtain⟨c,dd,hcd⟩:∃c dd,d.kids=[c,dd]:=by
      have hl:=Hm.out;rw[em]at hl
      match hkk:d.kids,hl with
      |[c,dd],_=>exact⟨c,dd,rfl⟩
     obtain⟨kb2,ko2,e3,e4⟩:=kid 1 dd (by rw[hcd];rfl);subst e3 em;have hlt2:=Hwf.out.1 k' (by omega) dd (by rw[<-Hd.out,hcd];simp);have hbr:=q8Z tb T (k+1) dd w2 (by omega) (by omega) (HG2.out.t.tr (Nat.le_refl _));have hnb:=h3 c dd hcd e2;rw[show decide ((T dd).kind=1/\(T dd).kids=[])=false by rw[decide_eq_false_iff_not];exact hnb]at hbr;have Hbr:=hyd hbr;clear kid h1 h2 h3 hbr hnb hcd e2 hn4 hbb;go_wp2_with fail;refine Hbr.out.mono ?_;rintro ee w3 ⟨rfl,rfl⟩;go_wp2_with fail;refine(HNode.out w3 rfl).mono ?_;rintro ee w5 ⟨T5,n5,v5,S5,rfl,hpost⟩;go_wp2_with fail;go_ret;exact⟨T5,n5,v5,S5,rfl,hpost⟩
    ·have qm:((m:Int)==2)=false:=by simp;omega
     clear kid h1 h2 h3 e2 hn4 hbb;go_wp2_with fail;refine(HNode.out w2 rfl).mono ?_;rintro ee w5 ⟨T5,n5,v5,S5,rfl,hpost⟩;go_wp2_with fail;go_ret;exact⟨T5,n5,v5,S5,rfl,hpost⟩
   ·have q2:((d.kind:Int)==2)=false:=by simp;omega
    clear kid h1 h2 h3 e2 hn4 hbb;go_wp2_with fail;refine(HNode.out w2 rfl).mono ?_;rintro ee w5 ⟨T5,n5,v5,S5,rfl,hpost⟩;go_wp2_with fail;go_ret;exact⟨T5,n5,v5,S5,rfl,hpost⟩
theorem TW.form (h:TW tb base T (N+1) M v vr S w):∃g cap,v=.slice (some ⟨g,0,none⟩) (N+1) cap:=by
 obtain⟨m,o1,_⟩:=h.o;rcases o1.2 with ⟨h1,h2⟩|⟨g,cap,cur,h1,_⟩
 ·omega
 ·exact⟨g,cap,h1⟩
theorem TW.letter {f:Nat->Bool} (h:TW tb base (addN T N 0 [] (fun _=>false)) (N+1) N (.slice (some ⟨g,0,none⟩) (N+1) cap) vr S w) (htb:tb<base) (B:Nat) (hB:BRow B f w) (hBl:B<w.heap.size) (hne:B≠tb) (hng:B≠g):
  TW tb base (addN T N 0 [] f) (N+1) (N+1) (.slice (some ⟨g,0,none⟩) (N+1) cap) vr (fun k=>S k\/k=B) (w.setCell ⟨g,N*5+1,none⟩ (.slice (some ⟨B,0,none⟩) 256 256)):=by
 have hg:=(h.blk g rfl).1;obtain⟨m,o1,o2⟩:=h.o;obtain⟨w',hw'⟩:=nam (w.setCell ⟨g,N*5+1,none⟩ (.slice (some ⟨B,0,none⟩) 256 256));have hb:∀q,q≠g->w'.heap[q]?=w.heap[q]?:=fun q hq=>by rw[hw'];exact Below.heap_setCell w ⟨g,N*5+1,none⟩ _ q (fun e=>hq e)
 have hsz:w'.heap.size=w.heap.size:=by rw[hw',World.size_setCell]
 have hA:AgX S w w':=fun q hq=>hb q (fun e=>(h.s q hq).2.2 (by rw[e];rfl))
 have old:∀i,i<N->addN T N 0 [] f i=addN T N 0 [] (fun _=>false) i:=fun i hi=>by rw[q1g hi (by simp),q1g hi (by simp)]
 rw[<-hw'];refine⟨h.c.block (hb tb (by omega)),⟨⟨fun i=>if i=N then .slice (some ⟨B,0,none⟩) 256 256 else m.vin i,m.ka,m.kc⟩,?_,?_⟩,fun q hq=>?_⟩
 ·have:=(o1.stored (N*5+1) (.slice (some ⟨B,0,none⟩) 256 256)).1;rw[q7u (q2V _ m) N 1 (by omega) (by omega),<-hw']at this;rw[q2X (E:=fun i=>if i=N then (ndL (addN T N 0 [] (fun _=>false)) m N).set 1 (.slice (some ⟨B,0,none⟩) 256 256) else ndL (addN T N 0 [] (fun _=>false)) m i) (fun i hi=>?_)]
  ·exact this
  ·by_cases e:i=N
   ·subst e;simp only[if_true,ndL,q0r];rfl
   ·simp only[e,if_false,ndL,old i (by omega)]
 ·refine⟨fun i hi=>?_,fun i hi w2 h2=>?_,fun i hi _ h0=>?_⟩
  ·by_cases e:i=N
   ·simp only[e,if_true];rfl
   ·simp only[e,if_false];exact o2.o i hi
  ·have e:(addN T N 0 [] f i).kids=(addN T N 0 [] (fun _=>false) i).kids:=by
    by_cases e:i=N
    ·subst e;rw[q0r,q0r]
    ·rw[old i (by omega)]
   rw[e];exact o2.k i hi w2 (hA.trans (fun k hk=>h2 k (Or.inl hk)))
  ·by_cases e:i=N
   ·subst e;refine⟨some ⟨B,0,none⟩,256,by simp only[if_true],fun w2 h2 j hj=>⟨B,0,rfl,?_⟩⟩;rw[q0r,World.cell?_of_block (w:=w) (a:=⟨B,0+j,none⟩) ((h2 B (Or.inr rfl)).trans (hb B hng)),Nat.zero_add];exact(hB j hj).1
   ·rw[old i (by omega)]at h0 ⊢;obtain⟨ia,ic,e1,e2⟩:=o2.i i hi (by omega) h0;exact⟨ia,ic,by simp only[e,if_false];exact e1,fun w2 h2=>e2 w2 (hA.trans (fun k hk=>h2 k (Or.inl hk)))⟩
 ·rcases hq with hq|hq
  ·exact⟨by rw[hsz];exact(h.s q hq).1,(h.s q hq).2⟩
  ·subst hq;exact⟨by rw[hsz];exact hBl,hne,fun e=>hng (Option.some.inj e).symm⟩
theorem q2W {f:Nat->Bool} (hp:GrPre tb base T N v vr S 1 w) (tw:TW tb base (addN T N 0 [] (fun _=>false)) (N+1) N (.slice (some ⟨g,0,none⟩) (N+1) cap) vr (fun k=>S k\/False) w1) (tf:TF tb v (.slice (some ⟨g,0,none⟩) (N+1) cap) S S w w1) (hB2:Below w1.heap.size w1 w2) {B:Nat} (hB:BRow B f w2) (hBl:B<w2.heap.size) (hBn:w1.heap.size<=B) (hf:∀b,b<256->f b=F b):
  GrPost tb base T N v vr S (.lit F) 1 w (.returned (.int .i64 (N:Nat))) (w2.setCell ⟨g,N*5+1,none⟩ (.slice (some ⟨B,0,none⟩) 256 256)):=by
 have hg:=tw.blk g rfl;have htb:=hp.b;have hs1:=tf.b.size;have ht1:=tw.c.lt;refine⟨addN T N 0 [] F,N,_,fun k=>(S k\/False)\/k=B,rfl,(tw.below hB2).letter htb B (hB.congr hf) hBl (by omega) (by omega),(((tf.trans (TF.of _ S (by omega) hB2)).poke (by omega) (N*5+1) _).sub (fun k hk=>?_)),hp.r.add (by simp) (by omega) (by simp),q8d T N F,fun i hi=>q1g hi (by simp),Nat.le_refl _⟩;rcases hk with (hk|hk)|hk
 ·exact Or.inl hk
 ·exact hk.elim
 ·exact Or.inr (by omega)
theorem q7V {t:Tq} (ht:TqOK t) (hk:t.t.kd=1):∃c w,t.t.w=c::w/\c≠40:=by
 obtain⟨c,w,hw,_,_,h40,_⟩:=q1k ht.1;exact⟨c,w,hw,fun e=>by have:=h40.1 e;omega⟩
theorem y0x {t:Tq} (ht:TqOK t) (hkd:t.t.kd=1) (tb base:Nat) (s:ByteArray) (T:Nat->Nd) (N:Nat) (v vr:Value) (S:Nat->Prop) (w:World) (hts:s.data.toList=t.t.w) (hs:s.size<=40) (hp:GrPre tb base T N v vr S 1 w):
  Calls Tryz.prog 181 #[.pointer (some ⟨tb,0,none⟩),.string s] w (GrPost tb base T N v vr S (.lit t.f) 1 w):=by
 have hbl:=q6Y;obtain⟨c,r0,hw,hc40⟩:=q7V ht hkd;have hd:s.data.toList.drop 0=c::r0:=by rw[List.drop_zero,hts,hw]
 obtain⟨hk0,hc0,hr0⟩:=q0m hd;have b40:((s[0].toNat:Int)==40)=false:=by rw[hc0];exact q0J hc40
 have hN:=hp.n;have hNode:=q6O tb base T N v vr S (fun _=>False) 0 (.slice none 0 0) [] w hp.t (KiL.nil w) (fun k hk=>hk.elim) (by simp) (by simp) hp.b hp.s (by omega) (by simp);have HN:=hyd hNode;have HP:=hyd hp;obtain⟨F,hF⟩:=nam t.f;have Hps:Hid (PlaceSet (c::r0) F):=by show PlaceSet _ _;rw[<-hw,hF];exact ht.2.1 hkd
 rw[<-hF];have Hts:Hid (s.data.toList=c::r0):=by show _=_;rw[hts,hw]
 have Hc0:=hyd hc0;clear hNode hp hF hts hd hr0 ht hkd hw hc40 hc0;go_enter Tryz.func181,Tryz.ntmps181;go_wp2_with fail;refine HN.out.mono ?_;rintro ee w1 ⟨v1,rfl,tw1,tf1⟩;obtain⟨g,cap,rfl⟩:=tw1.form;have HT:=hyd2 tw1 tf1;have Hst:Hid (∀w2,Below w1.heap.size w1 w2->w2.cell? ⟨tb,0,none⟩=some (.slice (some ⟨g,0,none⟩) (N+1) cap)/\(∃u,w2.cell? ⟨g,N*5+1,none⟩=some u)/\w2.frozen? ⟨g,N*5+1,none⟩=false):=fun w2 hB2=>by
  have t2:=tw1.below hB2;obtain⟨m,o1,_⟩:=t2.o;refine⟨(t2.c 0 _ rfl).1,⟨m.vin N,?_⟩,o1.frozenAt _⟩;rw[o1.cellAt _ (by omega),q2q (q2V _ _) N 1 (by omega) (by omega)];rfl
 clear tw1 tf1 HN;have hq1:(N:Int)<N+1:=by omega
 rcases Hps.out with ⟨e46,hf⟩|⟨c',v',r',ew,n46,n91,n40,hone,hf⟩|⟨e,ew,hset⟩
 ·have b46:((s[0].toNat:Int)==46)=true:=by rw[Hc0.out,(List.cons.inj e46).1];rfl
  have Hf:=hyd hf;clear e46 hf;go_wp2_with fail;clear hbl
  go_loopw [7] (fun x w'=>∃b:Nat,b<=256/\x=.int .i64 b/\BRow w1.heap.size (fun y=>decide (y<b)&&(y != 10)) w'/\Below w1.heap.size w1 w'/\w1.heap.size<w'.heap.size) (fun x _=>256-(intOf x).toNat)
  case atStart=>exact⟨0,by omega,rfl,(BRow.blank w1 _).congr (fun y _=>by simp),(Below.refl _ _).alloc (Nat.le_refl _) _,by simp⟩
  case round=>
   obtain⟨b,hb,rfl,hB,hW,hsz⟩:=hrel;by_cases hlt:b<256
   ·have hlt':(b:Int)<256:=by omega
    obtain⟨hcc,hff⟩:=hB b hlt;have hB2:=hB.set b hlt (b != 10);have hbq:((b:Int) != 10)=(b != 10):=by
     by_cases e:b=10
     ·subst e;rfl
     ·rw[bne_iff_ne.2 e,bne_iff_ne.2 (show(b:Int)≠10 by omega)]
    obtain⟨V,hV⟩:=nam ((b != 10));rw[<-hV]at hB2 hbq;have HV:=hyd hV;have HB2:=hyd hB2;clear hV hB hB2;go_wp2_with fail;go_roundw
    case rel=>
     refine⟨b+1,by omega,by go_num,HB2.out.congr (fun y _=>?_),hW.trans (q0E _ _ _ _),by rw[World.size_setCell];exact hsz⟩;by_cases e1:y=b
     ·subst e1;simp[HV.out]
     ·by_cases e2:y<b
      ·simp[e1,e2,Nat.lt_succ_of_lt e2]
      ·simp[e1,e2,show ¬y<b+1 by omega]
    case measure=>simp[intOf];omega
   ·have hge:¬(b:Int)<256:=by omega
    obtain⟨k0,⟨u1,k1⟩,k2⟩:=Hst.out wr hW;have HB:=hyd hB;have Hbb:Hid (b=256):=by show _=_;omega
    clear hB;go_wp2_with fail;go_ret;exact q2W HP.out HT.out.1 HT.out.2 hW HB.out hsz (Nat.le_refl _) (fun y hy=>by rw[Hf.out y hy,Hbb.out];simp[hy])
 ·have hcc:=(List.cons.inj ew).1;have b46:((s[0].toNat:Int)==46)=false:=by rw[Hc0.out,hcc];exact q0J n46
  have b91:((s[0].toNat:Int)==91)=false:=by rw[Hc0.out,hcc];exact q0J n91
  have h1:=hone [];rw[List.append_nil]at h1;obtain⟨v0,v1,_,_⟩:=Rf.one_bd h1;obtain⟨vn,rfl⟩:∃vn:Nat,v'=vn:=⟨v'.toNat,by omega⟩;have hvn:vn<256:=by omega
  have HO:Hid (∀w2,Calls Tryz.prog 159 #[.string s,.int .i64 (0:Nat)] w2 fun e w'=>e=.returned (.tuple #[.int .i64 (vn:Int),.int .i64 ((0+(c::r0).length:Nat):Int)])/\∃q,w'=w2.drewN q):=fun w2=>y0o s 0 vn _ w2 hs (by rw[List.drop_zero,Hts.out];exact h1)
  have Hf:=hyd hf;clear ew n46 n91 n40 hone hf h1 hcc;go_wp2_with fail;refine(HO.out _).mono ?_;rintro ee w2 ⟨rfl,q,rfl⟩;have hB0:BRow w1.heap.size (fun _=>false) ((w1.alloc (.cells blank 4)).drewN q):=(BRow.blank w1 _).drewN q;have hW0:Below w1.heap.size w1 ((w1.alloc (.cells blank 4)).drewN q):=((Below.refl _ _).alloc (Nat.le_refl _) _).trans (q1w _ _ _);obtain⟨w3,hw3⟩:=nam ((w1.alloc (.cells blank 4)).drewN q);have hs3:w1.heap.size<w3.heap.size:=by rw[hw3];simp
  rw[<-hw3]at hB0 hW0 ⊢;obtain⟨hcc,hff⟩:=hB0 vn hvn;have hB1:=hB0.set vn hvn true;have hW1:Below w1.heap.size w1 (w3.setCell ⟨w1.heap.size,vn,none⟩ (.bool true)):=hW0.trans (q0E _ _ _ _);obtain⟨w4,hw4⟩:=nam (w3.setCell ⟨w1.heap.size,vn,none⟩ (.bool true));have hs4:w1.heap.size<w4.heap.size:=by rw[hw4,World.size_setCell];exact hs3
  rw[<-hw4]at hB1 hW1;obtain⟨k0,⟨u1,k1⟩,k2⟩:=Hst.out w4 hW1;have HB:=hyd hB1;have H4:=hyd hw4;clear hB0 hB1 hw3 hw4 hbl;go_wp2_with (first|(with_reducible refine gld 114 ?_;refine Stop.out ?_));refine⟨?_⟩;rw[<-H4.out];go_wp2_with fail;go_ret;exact q2W HP.out HT.out.1 HT.out.2 hW1 HB.out hs4 (Nat.le_refl _) (fun y hy=>by
   rw[Hf.out y hy];by_cases e:y=vn
   ·simp[e]
   ·have:¬(y:Int)=(vn:Int):=by omega
    simp[e,this])
 ·have b46:((s[0].toNat:Int)==46)=false:=by rw[Hc0.out,(List.cons.inj ew).1];rfl
  have b91:((s[0].toNat:Int)==91)=true:=by rw[Hc0.out,(List.cons.inj ew).1];rfl
  obtain⟨fa,hse⟩:=hset [] 0;rw[List.append_nil]at hse;have HO:Hid (∀w2,Calls Tryz.prog 160 #[.string s,.int .i64 (0:Nat)] w2 fun e' w'=>e'=.returned (.tuple #[.slice (some ⟨w2.heap.size,0,none⟩) 256 256,.int .i64 ((0+(e.length+1):Nat):Int),.int .i64 fa])/\BRow w2.heap.size F w'/\Below w2.heap.size w2 w'):=fun w2=>q9X s 0 _ fa F w2 hs (by rw[Hts.out,ew];exact hse)
  clear ew hset hse;go_wp2_with fail;refine(HO.out _).mono ?_;rintro ee w2 ⟨rfl,hB,hW2⟩;have hb0:=box_bel w1 (.cells blank 4);have hW:=hb0.trans (hW2.mono hb0.size);have hs2:=hW2.size;have hsz0:(w1.alloc (.cells blank 4)).heap.size=w1.heap.size+1:=by simp
  obtain⟨B,hBe⟩:=nam ((w1.alloc (.cells blank 4)).heap.size);rw[<-hBe]at hB hs2 hsz0 ⊢;obtain⟨k0,⟨u1,k1⟩,k2⟩:=Hst.out w2 hW;have HB:=hyd hB;have hBl:B<w2.heap.size:=World.block_lt_of_cell? w2 _ (hB 0 (by omega)).1;clear hB hBe hW2 hb0 hbl;go_wp2_with fail;go_ret;have hB:=HB.out;rw[hsz0]at hB hBl;exact q2W HP.out HT.out.1 HT.out.2 hW hB hBl (by omega) (fun y hy=>rfl)
theorem y2D (h:Pp f 0 ts e) (hz:e.sz=0):e=.eps:=by
 cases f with
 |zero=>exact absurd h (by simp[Pp])
 |succ f=>
  have nz0:∀x:Rx,x.nz.sz=0->x.nz=.eps:=fun x hx=>by
   rw[Rx.nz_sz]at hx;unfold Rx.nz;rw[if_pos hx]
  rcases h with ⟨q,_,_,_,rfl⟩|⟨a,inn,b,e0,_,_,_,_,_,_,rfl⟩|⟨q,t,e0,_,_,_,_,rfl⟩
  ·simp[Rx.sz]at hz
  ·exact nz0 _ hz
  ·exact nz0 _ hz
variable {ee : Ending}{e' : Rx}
theorem GrPost.eq (h:GrPost tb base T N v vr S e K w ee w') (he:SemEq e e') (hK:K<=K'):GrPost tb base T N v vr S e' K' w ee w':=by
 obtain⟨T',n,v',S',h1,h2,h3,h4,h5,h6,h7⟩:=h;exact⟨T',n,v',S',h1,h2,h3,h4,h5.eq he,h6,by omega⟩
theorem GrPre.less (h:GrPre tb base T N v vr S K w) (hK:K'<=K):GrPre tb base T N v vr S K' w:=⟨h.t,h.r,h.b,h.s,by have:=h.n;omega⟩
theorem GrPre.below (h:GrPre tb base T N v vr S K w) (hW:Below w.heap.size w w'):GrPre tb base T N v vr S K w':=⟨h.t.below hW,h.r,h.b,by have:=hW.size;have:=h.s;omega,h.n⟩
theorem GrPost.from (h:GrPost tb base T N v vr S e K w1 ee w') (hW:Below w.heap.size w w1) (ht:tb<w.heap.size):GrPost tb base T N v vr S e K w ee w':=by
 obtain⟨T',n,v',S',h1,h2,h3,h4,h5,h6,h7⟩:=h;exact⟨T',n,v',S',h1,h2,(TF.of v S (by omega) hW).trans h3,h4,h5,h6,h7⟩
theorem q7K (h:Pp f 0 ts e) (hz:e.sz=0):PcOK ts e:=by
 intro tb base s T N v vr S w hts hs hp;obtain⟨G,hG⟩:=q7S h;have hl:1<=s.size:=by
  have:=q8F h;rw[<-hts]at this;simpa using this
 have h3:=q8a (P:=e.sz) hl;obtain⟨K,hK⟩:=nam (ndB s.size e.sz);rw[<-hK]at hp h3 ⊢;have he:=y2D h hz;subst he;rw[<-hts]at hG;have HS:=hyd ((q6D G).2 s _ w hs hG);have HP:=hyd hp;have hn:=hp.n;have ht:=hp.t.c.lt;clear h hG hts hK hz hp;go_enter Tryz.func147,Tryz.ntmps147;go_wp2_with fail;refine HS.out.mono ?_;rintro ee w1 ⟨rfl,hW⟩;have hp1:=HP.out.below hW;have HN1:=hyd ((GS.first hp1).node (P:=fun _=>False) (KiL.nil w1) (fun k hk=>hk.elim) hp1.b hp1.s 1 (by omega) (by omega) (by simp) (by simp) (by omega) (by simp));have HF:=hyd (q8V T N hp1.r.w);clear hp1 HS HP;go_wp2_with fail;refine HN1.out.mono ?_;rintro ee w2 ⟨v2,rfl,G2,_⟩;go_wp2_with fail;go_ret;exact(G2.post HF.out (by omega)).from hW ht
theorem y1M {inn:List Tq} (hPt:PtOK inn e) (tb base:Nat) (s:ByteArray) (T:Nat->Nd) (N:Nat) (v vr:Value) (S:Nat->Prop) (w:World) (hts:s.data.toList=40::(tx inn++[41])) (hs:s.size<=40) (hp:GrPre tb base T N v vr S (ndB s.size e.sz) w) (_h:Pp f 2 inn e):
  Calls Tryz.prog 181 #[.pointer (some ⟨tb,0,none⟩),.string s] w (GrPost tb base T N v vr S e (ndB s.size e.sz) w):=by
 have hd:s.data.toList.drop 0=40::(tx inn++[41]):=by rw[List.drop_zero,hts]
 obtain⟨hk0,hc0,hr0⟩:=q0m hd;have b40:((s[0].toNat:Int)==40)=true:=by rw[hc0];rfl
 have hlen:s.size=(tx inn).length+2:=by
  have:s.data.toList.length=(tx inn).length+2:=by rw[hts];simp
  simpa using this
 have h2:1<=s.size-1:=by omega
 have hx:(s.extract 1 (s.size-1)).data.toList=tx inn:=by
  rw[q2J,hts,hlen,show(tx inn).length+2-1=(tx inn).length+1 by omega,List.take_succ_cons,List.drop_succ_cons,List.drop_zero,List.take_left]
 have hxs:(s.extract 1 (s.size-1)).size=s.size-2:=by
  have:(s.extract 1 (s.size-1)).data.toList.length=(tx inn).length:=by rw[hx]
  have h':(s.extract 1 (s.size-1)).size=(tx inn).length:=by simpa using this
  omega
 have hK:ndB (s.size-2) e.sz+2<=ndB s.size e.sz:=by
  have:=q6j (L:=s.size-2) (t:=2) (P:=e.sz) (by omega);rw[show s.size-2+2=s.size by omega]at this;exact this
 have HC:Hid (Calls Tryz.prog 91 #[.pointer (some ⟨tb,0,none⟩),.string (s.extract 1 (s.size-1))] w (GrPost tb base T N v vr S e (ndB s.size e.sz) w)):=by
  refine(hPt tb base _ T N v vr S w hx (by omega) (by rw[hxs];exact hp.less hK)).mono ?_;intro ee w' h;rw[hxs]at h;exact h.eq (SemEq.refl _) hK
 generalize ndB s.size e.sz=K at *;clear hPt hts hd hc0 hr0 hx hxs hK hp hlen;go_enter Tryz.func181,Tryz.ntmps181;go_wp2_with fail;refine HC.out.mono ?_;rintro ee w1 ⟨T5,n5,v5,S5,rfl,hpost⟩;go_wp2_with fail;go_ret;exact⟨T5,n5,v5,S5,rfl,hpost⟩
theorem q4v (h:Pp f 0 ts e) (hz:e.sz≠0) (hsp:Rf.split (tx ts)=some (tx ts).length)
  (hA:∀(tb base:Nat) (s:ByteArray) (T:Nat->Nd) (N:Nat) (v vr:Value) (S:Nat->Prop) (w:World),s.data.toList=tx ts->s.size<=40->GrPre tb base T N v vr S (ndB s.size e.sz) w->Calls Tryz.prog 181 #[.pointer (some ⟨tb,0,none⟩),.string s] w (GrPost tb base T N v vr S e (ndB s.size e.sz) w)):PcOK ts e:=by
 intro tb base s T N v vr S w hts hs hp;obtain⟨G,hG⟩:=q7S h;rw[<-hts]at hG hsp;have hlen:s.data.toList.length=s.size:=by simp
 rw[hlen]at hsp;have HS:=hyd ((q6D G).2 s _ w hs hG);have HA:Hid (∀w',Below w.heap.size w w'->Calls Tryz.prog 181 #[.pointer (some ⟨tb,0,none⟩),.string s] w' (GrPost tb base T N v vr S e (ndB s.size e.sz) w')):=fun w' hW=>hA tb base s T N v vr S w' hts hs (hp.below hW)
 have ht:=hp.t.c.lt;generalize ndB s.size e.sz=K at *;obtain⟨z,hzz⟩:=nam e.sz;rw[<-hzz]at HS hz;have hq:((z:Int)==0)=false:=by simp;omega
 have Hsp:=hyd hsp;clear h hG hts hp hA hzz hsp;go_enter Tryz.func147,Tryz.ntmps147;go_wp2_with fail;refine HS.out.mono ?_;rintro ee w1 ⟨rfl,hW⟩;go_wp2_with fail;refine(q2u s _ _ hs Hsp.out).mono ?_;rintro ee w2 ⟨rfl,hW2⟩;have hW3:=hW.trans (hW2.mono hW.size);have HA2:=hyd (HA.out w2 hW3);clear HA hW hW2;go_wp2_with fail;refine HA2.out.mono ?_;rintro ee w4 ⟨T5,n5,v5,S5,rfl,hpost⟩;go_wp2_with fail;go_ret;exact GrPost.from ⟨T5,n5,v5,S5,rfl,hpost⟩ hW3 ht
end Go.Proofs.YtoaaklhpmhjhkaaGreat
