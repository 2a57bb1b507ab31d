import Derived.Test.YtoaaklhpmhjhkaaGreatC34
import Derived.Test.YtoaaklhpmhjhkaaGreatC35
set_option maxRecDepth 100000
set_option maxHeartbeats 4000000
set_option linter.all false
namespace Go.Proofs.YtoaaklhpmhjhkaaGreat
open Go.RowKit
open Bm
structure GrPre (tb base:Nat) (T:Nat->Nd) (N:Nat) (v vr:Value) (S:Nat->Prop) (K:Nat) (w:World):Prop where
 t:TW tb base T N N v vr S w
 r:Tre T N
 b:tb<base
 s:base<=w.heap.size
 n:N+K<=1000000
def GrPost (tb base:Nat) (T:Nat->Nd) (N:Nat) (v vr:Value) (S:Nat->Prop) (e:Rx) (K:Nat) (w:World) (ee:Ending) (w':World):Prop:=
 ∃T' n v' S',ee=.returned (.int .i64 (n:Nat))/\TW tb base T' (n+1) (n+1) v' vr S' w'/\TF tb v v' S S' w w'/\Tre T' (n+1)/\Fine T' (n+1) N n e/\(∀i,i<N->T' i=T i)/\n+1<=N+K
def PcOK (ts:List Tq) (e:Rx):Prop:=∀(tb base:Nat) (s:ByteArray) (T:Nat->Nd) (N:Nat) (v vr:Value) (S:Nat->Prop) (w:World),s.data.toList=tx ts->s.size<=40->GrPre tb base T N v vr S (ndB s.size e.sz) w ->
 Calls Tryz.prog 147 #[.pointer (some ⟨tb,0,none⟩),.string s] w (GrPost tb base T N v vr S e (ndB s.size e.sz) w)
def PtOK (ts:List Tq) (e:Rx):Prop:=∀(tb base:Nat) (s:ByteArray) (T:Nat->Nd) (N:Nat) (v vr:Value) (S:Nat->Prop) (w:World),s.data.toList=tx ts->s.size<=40->GrPre tb base T N v vr S (ndB s.size e.sz+2) w ->
 Calls Tryz.prog 91 #[.pointer (some ⟨tb,0,none⟩),.string s] w (GrPost tb base T N v vr S e (ndB s.size e.sz+2) w)
variable {ks : List Nat}{K K' M N N0 base cap f g n tb : Nat}{F : Nat → Bool}{S S' S0 S1 : Nat → Prop}{v v' v0 v1 vk vr : Value}{w w' w0 w1 w2 w5 : World}
theorem TF.sub (h:TF tb v v' S S1 w w') (hs:∀k,S' k->S1 k\/w.heap.size<=k):TF tb v v' S S' w w':=
 ⟨h.b,h.k,h.o,λk c=>by
  rcases hs k c with a|a
  ·exact h.s k a
  exact Or.inr a⟩
structure GS (tb base:Nat) (T0:Nat->Nd) (N0:Nat) (v0 vr:Value) (S0:Nat->Prop) (w0:World) (T:Nat->Nd) (N:Nat) (v:Value) (S:Nat->Prop) (w:World):Prop where
 t:TW tb base T N N v vr S w
 f:TF tb v0 v S0 S w0 w
 r:Tre T N
 o:∀i,i<N0->T i=T0 i
 l:N0<=N
variable {T : Nat → Nd}
theorem GS.first (h:GrPre tb base T N v vr S K w):GS tb base T N v vr S w T N v S w:=
 ⟨h.t,TF.of v S (Nat.le_of_lt h.t.c.lt) (Below.refl _ _),h.r,λ_ _=>rfl,Nat.le_refl _⟩
variable {T0 : Nat → Nd}
theorem GS.pre (h:GS tb base T0 N0 v0 vr S0 w0 T N v S w) (h1:tb<base) (h2:base<=w0.heap.size) (h3:N+K<=1000000):GrPre tb base T N v vr S K w:=
 ⟨h.t,h.r,h1,by have:=h.f.b.size;omega,h3⟩
theorem GS.below (h:GS tb base T0 N0 v0 vr S0 w0 T N v S w) (hW:Below w.heap.size w w'):GS tb base T0 N0 v0 vr S0 w0 T N v S w':=
 ⟨h.t.below hW,h.f.trans (TF.of v S (Nat.le_of_lt h.t.c.lt) hW),h.r,h.o,h.l⟩
theorem GS.made (h:GS tb base T0 N0 v0 vr S0 w0 T N v S w) {T':Nat->Nd}{n:Nat}{v':Value}{S':Nat->Prop}{w':World}{e:Rx} (h1:TW tb base T' (n+1) (n+1) v' vr S' w') (h2:TF tb v v' S S' w w') (h3:Tre T' (n+1)) (h4:Fine T' (n+1) N n e) (h5:∀i,i<N->T' i=T i):GS tb base T0 N0 v0 vr S0 w0 T' (n+1) v' S' w':=
 ⟨h1,h.f.trans h2,h3,λi a=>by have:=h.l;rw[h5 i (by omega)];exact h.o i a,by have:=h.l;have:=h4.ge;omega⟩
structure PL (w0:World) (v:Value) (S:Nat->Prop) (vk:Value) (ks:List Nat) (w:World):Prop where
 o:OwnL w0.heap.size vk (ks.map fun x:Nat=>(x:Int)) w
 s:∀k,vk.ownBlock=some k->v.ownBlock≠some k/\¬S k
theorem PL.nil (w0:World) (v:Value) (S:Nat->Prop) (w:World):PL w0 v S (.slice none 0 0) [] w:=⟨OwnL.nil _ _,λk a=>by cases a⟩
theorem PL.tf (h:PL w0 v S vk ks w) (ht:tb<w0.heap.size) (f:TF tb v v1 S S1 w w1):PL w0 v1 S1 vk ks w1:=by
 refine⟨h.o.keep (λk a=>?_),λk a=>⟨λe=>?_,λe=>?_⟩⟩
 ·have:=h.o.blk k a;exact f.k k this.2 (by omega) (h.s k a).1
 ·have:=h.o.blk k a;rcases f.o k e with b|b
  ·exact(h.s k a).1 b
  omega
 have:=h.o.blk k a;rcases f.s k e with b|b
 ·exact(h.s k a).2 b
 omega
theorem PL.app (h:GS tb base T0 N0 v0 vr S0 w0 T N v S w) {vk:Value}{ks:List Nat} (p:PL w0 v S vk ks w) (ht:tb<w0.heap.size) {g len cap n:Nat} (hg:w.grownBy w5 vk.ownBlock) (ho:OwnL w0.heap.size (.slice (some ⟨g,0,none⟩) len cap) (ks.map (λx:Nat=>(x:Int))++[(n:Int)]) w5) (hb:vk.ownBlock=some g\/g=w.heap.size):
  GS tb base T0 N0 v0 vr S0 w0 T N v S w5/\PL w0 v S (.slice (some ⟨g,0,none⟩) len cap) (ks++[n]) w5:=by
 have z:=h.f.b.size;have m:=hg.size;have a:∀k,k<w.heap.size->vk.ownBlock≠some k->w5.heap[k]?=w.heap[k]?:=λk d i=>hg.block k d (λe=>i e.symm)
 refine⟨⟨h.t.keep m (λk j=>?_),⟨?_,λk d i u=>?_,h.f.o,h.f.s⟩,h.r,h.o,h.l⟩,⟨by rw[List.map_append];exact ho,λk j=>?_⟩⟩
 ·rcases j with d|d|d
  ·subst d;exact a k h.t.c.lt (λe=>by have:=(p.o.blk k e).1;omega)
  ·exact a k (h.t.blk k d).2 (λe=>(p.s k e).1 d)
  exact a k (h.t.s k d).1 (λe=>(p.s k e).2 d)
 ·exact h.f.b.grown hg (by omega) (λq y=>by have:=(p.o.blk q y).1;omega)
 ·rw[a k (by omega) (λe=>by have:=(p.o.blk k e).1;omega)];exact h.f.k k d i u
 cases j;rcases hb with d|d
 ·exact p.s g d
 exact⟨λe=>by have:=(h.t.blk g e).2;omega,λe=>by have:=(h.t.s g e).1;omega⟩
theorem GS.node (h:GS tb base T0 N0 v0 vr S0 w0 T N v S w) {vk:Value}{ks:List Nat}{P:Nat->Prop} (hK:KiL P vk ks w) (hP:∀k,P k->w0.heap.size<=k/\k<w.heap.size/\v.ownBlock≠some k) (htb:tb<base) (hb:base<=w0.heap.size) (kind:Nat) (h4:kind<=4) (h0:kind≠0) (hk:∀k∈ks,N0<=k/\k<N) (hd:ks.Nodup) (hN:N<=1000000) (hl:ks.length<=1000):
  Calls Tryz.prog 148 #[.pointer (some ⟨tb,0,none⟩),.int .i64 kind,vk] w λe w'=>∃v',e=.returned (.int .i64 N)/\GS tb base T0 N0 v0 vr S0 w0 (addN T N kind ks (λ_=>false)) (N+1) v' (λk=>S k\/P k) w'/\TF tb v v' S S w w':=by
 have m:=h.f.b.size;refine(q6O tb base T N v vr S P kind vk ks w h.t hK (λk hk=>⟨(hP k hk).2.1,by have:=(hP k hk).1;omega,(hP k hk).2.2⟩) (λk a=>(hk k a).2) hd htb (by omega) hN hl).mono ?_;rintro e w' ⟨v',d,n,tf⟩;refine⟨v',d,⟨n.more (by rw[q0r];exact h0),(h.f.trans tf).sub (λk hk=>?_),h.r.add (λk a=>(hk k a).2) h4 hl,λi g=>?_,by have:=h.l;omega⟩,tf⟩
 ·rcases hk with c|c
  ·exact Or.inl c
  exact Or.inr (hP k c).1
 have:=h.l;rw[q1g (by omega) (λj=>by have:=(hk i j).1;omega)];exact h.o i g
theorem PL.add {P:Nat->Prop} (h:PL w0 v S vk ks w) (hp:∀k,vk.ownBlock=some k->¬P k):PL w0 v (λk=>S k\/P k) vk ks w:=
 ⟨h.o,λk a=>⟨(h.s k a).1,λe=>by
  rcases e with e|e
  ·exact(h.s k a).2 e
  exact hp k a e⟩⟩
theorem KiL.two (w:World) (a b:Nat) (ty:TypeId):KiL (λk=>k=w.heap.size) (.slice (some ⟨w.heap.size,0,none⟩) 2 2) [a,b] (w.alloc (.cells #[.int .i64 (a:Int),.int .i64 (b:Int)] ty)):=by
 refine⟨_,2,rfl,λw' d i c=>⟨w.heap.size,0,rfl,?_⟩⟩;rw[World.cell?_of_block (w:=w.alloc (.cells #[.int .i64 (a:Int),.int .i64 (b:Int)] ty)) (a:=⟨w.heap.size,0+i,none⟩) (d _ rfl),World.cell?_alloc_new];simp only[List.length_cons,List.length_nil]at c
 match i,c with
 |0,_=>rfl
 |1,_=>rfl
theorem KiL.one (w:World) (a:Nat) (ty:TypeId):KiL (λk=>k=w.heap.size) (.slice (some ⟨w.heap.size,0,none⟩) 1 1) [a] (w.alloc (.cells #[.int .i64 (a:Int)] ty)):=by
 refine⟨_,1,rfl,λw' c i b=>⟨w.heap.size,0,rfl,?_⟩⟩;rw[World.cell?_of_block (w:=w.alloc (.cells #[.int .i64 (a:Int)] ty)) (a:=⟨w.heap.size,0+i,none⟩) (c _ rfl),World.cell?_alloc_new];simp only[List.length_cons,List.length_nil]at b
 match i,b with
 |0,_=>rfl
variable {e : Rx}
theorem GS.post (h:GS tb base T0 N0 v0 vr S0 w0 T (n+1) v S w) (hf:Fine T (n+1) N0 n e) (hk:n+1<=N0+K):GrPost tb base T0 N0 v0 vr S0 e K w0 (.returned (.int .i64 (n:Nat))) w:=
 ⟨T,n,v,S,rfl,h.t,h.f,h.r,hf,h.o,hk⟩
variable {ts : List Tq}
theorem q8K (h:PcOK ts e) (tb base:Nat) (s:ByteArray) (T:Nat->Nd) (N:Nat) (v vr:Value) (S:Nat->Prop) (w:World) (hts:s.data.toList=tx ts) (hs:s.size<=40) (hp:GrPre tb base T N v vr S (ndB s.size e.sz+2) w):
  Calls Tryz.prog 183 #[.pointer (some ⟨tb,0,none⟩),.string s] w (GrPost tb base T N v vr S (.opt e) (ndB s.size e.sz+2) w):=by
 obtain⟨K,z⟩:=nam (ndB s.size e.sz);have D:Hid (Calls Tryz.prog 147 #[.pointer (some ⟨tb,0,none⟩),.string s] w (GrPost tb base T N v vr S e K w)):=by rw[z];exact h tb base s T N v vr S w hts hs ⟨hp.t,hp.r,hp.b,hp.s,by have:=hp.n;omega⟩
 rw[<-z]at hp ⊢;have l:=hp.b;have F:=hp.s;have L:=hp.n;have E:=hyd (GS.first hp);clear h hts z hp;go_enter Tryz.func183,Tryz.ntmps183;go_wp2_with fail;refine D.out.mono ?_;rintro ee w1 ⟨H,a,v1,S1,rfl,p,o,g,y,c,J⟩;have B:=E.out.made p o g y c;have i:=hyd (B.node (P:=λ_=>False) (KiL.nil w1) (λk A=>A.elim) l F 1 (by omega) (by omega) (by simp) (by simp) (by omega) (by simp));have j:=hyd2 y g;clear D E p o g y c B;go_wp2_with fail;refine i.out.mono ?_;rintro ee w2 ⟨v2,rfl,q,_⟩;clear i;have C:=q.below (box_bel w2 (.cells #[.int .i64 (a:Int),.int .i64 ((a+1:Nat):Int)] 3));obtain⟨d,m⟩:=j.out;have I:=d.ge;have u:Hid (Calls Tryz.prog 148 #[.pointer (some ⟨tb,0,none⟩),.int .i64 (2:Nat),.slice (some ⟨w2.heap.size,0,none⟩) 2 2] (w2.alloc (.cells #[.int .i64 (a:Int),.int .i64 ((a+1:Nat):Int)] 3)) λe w'=>∃v',e=.returned (.int .i64 ((a+1+1:Nat):Int))/\GS tb base T N v vr S w (addN (addN H (a+1) 1 [] (λ_=>false)) (a+1+1) 2 [a,a+1] (λ_=>false)) (a+1+1+1) v' (λk=>(S1 k\/False)\/k=w2.heap.size) w'/\TF tb v2 v' (λk=>S1 k\/False) (λk=>S1 k\/False) (w2.alloc (.cells #[.int .i64 (a:Int),.int .i64 ((a+1:Nat):Int)] 3)) w'):=
  C.node (KiL.two w2 a (a+1) 3) (λk A=>by
   subst A;refine⟨q.f.b.size,by simp,λe=>?_⟩;have:=(q.t.blk _ e).2;omega) l F 2 (by omega) (by omega) (by simp;omega) (by simp) (by omega) (by simp)
 have x:=hyd (y1w m.w d);clear q C j d m;go_wp2_with fail;refine u.out.mono ?_;rintro ee O ⟨M,rfl,G,_⟩;go_wp2_with fail;go_ret;exact G.post x.out (by omega)
theorem q7R (h:PcOK ts e) (m n:Nat) (hm9:m<=9) (hn9:n<=9) (tb base:Nat) (s:ByteArray) (T:Nat->Nd) (N:Nat) (v vr:Value) (S:Nat->Prop) (w:World) (hts:s.data.toList=tx ts) (hs:s.size<=40) (hp:GrPre tb base T N v vr S (n*(ndB s.size e.sz+2)+1) w):
  Calls Tryz.prog 184 #[.pointer (some ⟨tb,0,none⟩),.string s,.int .i64 m,.int .i64 n] w (GrPost tb base T N v vr S (Rx.rowOf (Rx.copies e m n)) (n*(ndB s.size e.sz+2)+1) w):=by
 obtain⟨K,hK⟩:=nam (ndB s.size e.sz);have HC:Hid (∀(T':Nat->Nd) (N':Nat) (v':Value) (S':Nat->Prop) (w':World),GrPre tb base T' N' v' vr S' K w'->Calls Tryz.prog 147 #[.pointer (some ⟨tb,0,none⟩),.string s] w' (GrPost tb base T' N' v' vr S' e K w')):=by
  rw[hK];exact λT' N' v' S' w' Z=>h tb base s T' N' v' vr S' w' hts hs Z
 have HM:Hid (∀(T':Nat->Nd) (N':Nat) (v':Value) (S':Nat->Prop) (w':World),GrPre tb base T' N' v' vr S' (K+2) w'->Calls Tryz.prog 183 #[.pointer (some ⟨tb,0,none⟩),.string s] w' (GrPost tb base T' N' v' vr S' (.opt e) (K+2) w')):=by
  rw[hK];exact λT' N' v' S' w' Z=>q8K h tb base s T' N' v' vr S' w' hts hs Z
 rw[<-hK]at hp ⊢;have aa:=hp.b;have hb:=hp.s;obtain⟨Q,hQ⟩:=nam (K+2);rw[<-hQ]at hp ⊢;obtain⟨nQ,X⟩:=nam (n*Q);have M:=hyd X;rw[<-X]at hp ⊢;have hN:=hp.n;have H:=hp.t.c.lt;have HG:=hyd (GS.first hp);have an:(n:Int)<=9:=by omega
 clear h hts hK hp X;go_enter Tryz.func184,Tryz.ntmps184;go_wp2_with fail
 go_loopw [9,10] (λkv iv w'=>∃(i iQ:Nat) (ks:List Nat) (T':Nat->Nd) (N':Nat) (v':Value) (S':Nat->Prop) (I:Option Addr) (J:Nat),i<=n/\iv=.int .i64 i/\kv=.slice I i J/\GS tb base T N v vr S w T' N' v' S' w'/\PL w v' S' kv ks w'/\Hid (Chain T' N' N ks (Rx.copies e m i) N')/\N'<=N+iQ/\Hid (iQ=i*Q)/\Hid ((ks.map (λx:Nat=>(x:Int))).length=i)) (λ_ iv _=>n-(intOf iv).toNat)
 ·exact⟨0,0,[],T,N,v,S,none,0,by omega,rfl,rfl,HG.out,PL.nil _ _ _ _,Chain.nil N,by omega,(Nat.zero_mul Q).symm,rfl⟩
 clear HG;obtain⟨i,iQ,ks,T',N',v',S',I,J,hi,rfl,rfl,G,l,q,al,F,u⟩:=hrel;by_cases ai:i<n
 ·have ak:(i:Int)<n:=by omega
  have am:iQ+Q<=nQ:=by
   have h1:(i+1)*Q<=n*Q:=Nat.mul_le_mul_right _ ai;rw[Nat.succ_mul]at h1;have h2:=F.out;have h3:=M.out;omega
  have ab:Hid (iQ+Q=(i+1)*Q):=by show _=_;rw[Nat.succ_mul,F.out]
  by_cases ae:i<m
  ·have af:(i:Int)<m:=by omega
   have B:=hyd (HC.out T' N' v' S' wr (G.pre aa hb (by omega)));have j:=hyd2 G l;clear G l;go_wp2_with fail;refine B.out.mono ?_;rintro ee w1 ⟨T1,a,v1,S1,rfl,E,A,D,P,d,aj⟩;have y:=box_bel w1 (.cells #[.int .i64 (a:Int)] 3);have L:=(j.out.1.made E A D P d).below y;have P1:=(j.out.2.tf H A);have O:PL w v1 S1 (.slice I i J) ks (w1.alloc (.cells #[.int .i64 (a:Int)] 3)):=⟨P1.o.below y,P1.s⟩;have C:Hid (Chain T1 (a+1) N (ks++[a]) (Rx.copies e m (i+1)) (a+1)):=by
    show Chain _ _ _ _ _ _;rw[Rx.copies_succ,if_pos ae];exact q.out.more j.out.1.r.w d P
   have R:=O.o;have Y:(w1.alloc (.cells #[.int .i64 (a:Int)] 3)).cell? ⟨w1.heap.size,0,none⟩=some (.int .i64 (a:Int)):=by rw[World.cell?_alloc_new];rfl
   have V:=L.f.b.size;have p:=hyd2 L O;clear B j E A D P d L P1 O y q;go_wp2_with (first|(at_builtin;refine Bm.wpList_append_int (by rfl) _ _ (by rfl) w.heap.size (.slice I i J) _ (by rfl) R (by rw[u.out];omega) w1.heap.size (a:Int) (by rfl) Y V _ rfl ?_;rw[u.out];intro g cap w5 U z W ah));obtain⟨G5,P5⟩:=p.out.2.app p.out.1 H z U W;go_roundw
   ·exact⟨i+1,iQ+Q,ks++[a],T1,a+1,v1,S1,some ⟨g,0,none⟩,cap,by omega,by go_num,rfl,G5,P5,C,by omega,ab,by show _=_;have:=u.out;simp at this;simp[this]⟩
   simp[intOf];omega
  have af:¬(i:Int)<m:=by omega
  have B:=hyd (HM.out T' N' v' S' wr (G.pre aa hb (by omega)));have j:=hyd2 G l;clear G l;go_wp2_with fail;refine B.out.mono ?_;rintro ee w1 ⟨T1,a,v1,S1,rfl,E,A,D,P,d,aj⟩;have y:=box_bel w1 (.cells #[.int .i64 (a:Int)] 3);have L:=(j.out.1.made E A D P d).below y;have P1:=(j.out.2.tf H A);have O:PL w v1 S1 (.slice I i J) ks (w1.alloc (.cells #[.int .i64 (a:Int)] 3)):=⟨P1.o.below y,P1.s⟩;have C:Hid (Chain T1 (a+1) N (ks++[a]) (Rx.copies e m (i+1)) (a+1)):=by
   show Chain _ _ _ _ _ _;rw[Rx.copies_succ,if_neg ae];exact q.out.more j.out.1.r.w d P
  have R:=O.o;have Y:(w1.alloc (.cells #[.int .i64 (a:Int)] 3)).cell? ⟨w1.heap.size,0,none⟩=some (.int .i64 (a:Int)):=by rw[World.cell?_alloc_new];rfl
  have V:=L.f.b.size;have p:=hyd2 L O;clear B j E A D P d L P1 O y q;go_wp2_with (first|(at_builtin;refine Bm.wpList_append_int (by rfl) _ _ (by rfl) w.heap.size (.slice I i J) _ (by rfl) R (by rw[u.out];omega) w1.heap.size (a:Int) (by rfl) Y V _ rfl ?_;rw[u.out];intro g cap w5 U z W ah));obtain⟨G5,P5⟩:=p.out.2.app p.out.1 H z U W;go_roundw
  ·exact⟨i+1,iQ+Q,ks++[a],T1,a+1,v1,S1,some ⟨g,0,none⟩,cap,by omega,by go_num,rfl,G5,P5,C,by omega,ab,by show _=_;have:=u.out;simp at this;simp[this]⟩
  simp[intOf];omega
 have⟨hge,hin⟩:¬(i:Int)<n/\i=n:=by omega
 subst hin;have ac:=q.out.le;have ag:Hid (Calls Tryz.prog 148 #[.pointer (some ⟨tb,0,none⟩),.int .i64 (1:Nat),(.slice I i J)] wr λe w'=>∃v2,e=.returned (.int .i64 (N':Int))/\GS tb base T N v vr S w (addN T' N' 1 ks (λ_=>false)) (N'+1) v2 (λk=>S' k\/(Value.slice I i J).ownBlock=some k) w'/\TF tb v' v2 S' S' wr w'):=
  G.node (KiL.of l.o) (λk hk=>⟨(l.o.blk k hk).1,(l.o.blk k hk).2,(l.s k hk).1⟩) aa hb 1 (by omega) (by omega) ac.2.2.1 q.out.nodup (by have:=F.out;have:=M.out;omega) (by have:=u.out;simp at this;omega)
 have HF:=hyd (q5V G.r.w q.out);have HB:Hid (N'+1<=N+(nQ+1)):=by
  have h2:=F.out;have h3:=M.out;show _<=_;omega
 clear G l ac;go_wp2_with fail;refine ag.out.mono ?_;rintro ee w4 ⟨v4,rfl,G4,_⟩;go_wp2_with fail;go_ret;exact G4.post HF.out HB.out
theorem q8B (tb base:Nat) (T0:Nat->Nd) (N0:Nat) (v0 vr:Value) (S0:Nat->Prop) (w0:World) (T:Nat->Nd) (k:Nat) (v:Value) (S:Nat->Prop) (w:World) (e:Rx) (K:Nat) (hG:GS tb base T0 N0 v0 vr S0 w0 T (k+1) v S w) (hF:Fine T (k+1) N0 k e) (htb:tb<base) (hb:base<=w0.heap.size) (hK:k+2<=N0+K) (hN:N0+K<=1000000) (st:Bool):
  Calls Tryz.prog 182 #[.pointer (some ⟨tb,0,none⟩),.int .i64 (if st then 3 else 4),.int .i64 k] w (GrPost tb base T0 N0 v0 vr S0 (if st then .star e else .plus e) K w0):=by
 have hz:=q1Z;obtain⟨k',b,hU,aq,al,V⟩:=y0v hG.r.w hF.toGood st;obtain⟨E,hE⟩:=nam ((if st then Rx.star e else .plus e));rw[<-hE]at V ⊢;have ak:=hyd V;have HG:=hyd hG;have y:=hyd2 hG.r.w hF.ge;have HU:=hyd hU;obtain⟨J,z⟩:∃J:Int,J=if st then 3 else 4:=⟨_,rfl⟩
 rw[<-z];have L:Hid (J=if st || false then 3 else 4):=by show _=_;rw[z,Bool.or_false]
 have ar:(k:Int)<=1000000:=by omega
 clear hU V hE hF hG z;go_enter Tryz.func182,Tryz.ntmps182;go_wp2_with fail
 go_loopw [1,2] (λkd kv w'=>∃(s:Nat) (u:Int) (b1 b2:Bool),kd=.int .i64 u/\kv=.int .i64 s/\Hid (u=if st || b1 then 3 else 4)/\Hid (Unw T s k' b2)/\Hid ((b1 || b2)=b)/\s<=k/\GS tb base T0 N0 v0 vr S0 w0 T (k+1) v S w') (λ_ kv _=>(intOf kv).toNat)
 ·exact⟨k,J,false,b,rfl,rfl,L,HU,by show _=_;cases b<;>rfl,Nat.le_refl _,HG.out⟩
 clear HU HG L;obtain⟨s,u,b1,b2,rfl,rfl,M,HU,Hb,au,G⟩:=hrel;have af:(s:Int)<k+1:=by omega
 have hT:=G.t.tr (Nat.le_refl _);obtain⟨na,nc,c0,aj⟩:=hT;obtain⟨nb,off,x,Q,h,en,r,o,il,_⟩:=aj s (by omega);subst en;obtain⟨d,hd⟩:=nam (T s);rw[<-hd]at r il;have C:=hyd hd;obtain⟨m,hm⟩:=nam d.kids.length;have U:=hyd hm;have aa:=hyd G;have ab:=hyd il;clear aj hd hm il G;go_wp2_with (first|(with_reducible refine gld 118 ?_;refine Stop.out ?_));refine⟨?_⟩;refine wpList_load_mid rfl 118 _ rfl nb (off+s*5) rfl (ndC d x Q h) _ r Tryz.underlying118 rfl q1y ?_
 (try simp only[psm])
 go_wp2_with (first|(with_reducible refine gst 118 ?_;refine Stop.out ?_));refine⟨?_⟩;obtain⟨w2,I⟩:=nam ((wr.alloc (.cells nodZ.toArray 118)).setCells wr.heap.size 0 (ndC d x Q h));have W:=q1o wr nodZ (ndC d x Q h) 118 rfl;have T2:TC wr.heap.size (ndC d x Q h) w2:=by rw[I];exact q4s W.2.2.2
 rw[<-I]at W;obtain⟨B2,_,s2,t2⟩:=W;refine wpList_store_mid rfl 118 _ _ rfl wr.heap.size 0 (ndC d x Q h).toArray rfl rfl t2 q1y (by simp only[ndC,List.all_toArray,List.all_cons,o];rfl) ?_;rw[List.toList_toArray];have O:w2=(wr.alloc (.cells #[.int .i64 0,.slice none 0 0,.slice none 0 0,.int .i64 0,.int .i64 0] 118)).setCells wr.heap.size 0 (ndC d x Q h):=I;rw[<-O];have ck:=(T2 0 _ rfl).1;have cK:=(T2 2 _ rfl).1;rw[<-U.out]at cK;have i:Hid (GS tb base T0 N0 v0 vr S0 w0 T (k+1) v S w2):=aa.out.below B2;have ac:Hid (IL Q (λk=>((d.kids.getD k 0:Nat):Int)) d.kids.length w2):=ab.out.below B2;clear I O t2 r T2 c0 B2 s2 af aa ab;generalize ap:wr.heap.size=bx at *;have hU:=HU.out;have av:(m:Int)<=1000:=by
  have:=(i.out.r.k s (by omega)).2;rw[<-C.out,<-U.out]at this;omega
 have g:∀(j c:Nat),d.kids[j]?=some c->∃X Y,Q=some ⟨X,Y,none⟩/\w2.cell? ⟨X,Y+j,none⟩=some (.int .i64 (c:Int)):=λj c hj=>by
  obtain⟨X,Y,N,e2⟩:=ac.out j (List.getElem?_eq_some_iff.1 hj).1;refine⟨X,Y,N,?_⟩;rw[e2];simp only[List.getD_eq_getElem?_getD,hj,Option.getD_some]
 cases hU with
 |star h1 h2 hu=>
  rename_i c b3;rw[<-C.out]at h1 h2;have q3:((d.kind:Int)==3)=true:=by simp[h1]
  obtain⟨X,Y,N,e2⟩:=g 0 c (by rw[h2];rfl);have A:m=1:=by rw[U.out,h2];rfl
  subst N A;have ag:=y.out.1 s (by omega) c (by rw[<-C.out,h2];simp);have HR:=hyd hu;simp only[Nat.add_zero]at e2;clear g h1 h2 hu;go_wp2_with fail;go_roundw
  ·exact⟨c,3,true,b3,rfl,rfl,by show _=_;simp,HR,by show _=_;have:=Hb.out;simp at this;simp[this],by omega,i.out⟩
  simp[intOf];omega
 |one h1 h2 hu=>
  rename_i c;rw[<-C.out]at h1 h2;have q3:((d.kind:Int)==3)=false:=by simp;omega
  obtain⟨X,Y,N,e2⟩:=g 0 c (by rw[h2];rfl);have A:m=1:=by rw[U.out,h2];rfl
  subst N A;have ag:=y.out.1 s (by omega) c (by rw[<-C.out,h2];simp);have HR:=hyd hu;simp only[Nat.add_zero]at e2;clear g h1 h2 hu;go_wp2_with fail;go_roundw
  ·exact⟨c,u,b1,b2,rfl,rfl,M,HR,Hb,by omega,i.out⟩
  simp[intOf];omega
 |may h1 h2 h3 h4 hu=>
  rename_i c l b3;rw[<-C.out]at h1 h2;have q3:((d.kind:Int)==3)=false:=by simp;omega
  have q2:((d.kind:Int)==2)=true:=by simp[h1]
  obtain⟨X,Y,N,e2⟩:=g 0 c (by rw[h2];rfl);obtain⟨an,ao,Z,e4⟩:=g 1 l (by rw[h2];rfl);rw[N]at Z;cases Z;have A:m=2:=by rw[U.out,h2];rfl
  subst N A;have ag:=y.out.1 s (by omega) c (by rw[<-C.out,h2];simp);have ah:=y.out.1 s (by omega) l (by rw[<-C.out,h2];simp);have HR:=hyd hu;have p:=q8Z tb T (k+1) l w2 (by omega) (by omega) (i.out.t.tr (Nat.le_refl _));rw[show decide ((T l).kind=1/\(T l).kids=[])=true by simp[h3,h4]]at p;have R:=hyd p;simp only[Nat.add_zero]at e2;clear g h1 h2 hu h3 h4 p;go_wp2_with fail;refine R.out.mono ?_;rintro ee D ⟨rfl,rfl⟩;go_wp2_with fail;go_roundw
  ·exact⟨c,3,true,b3,rfl,rfl,by show _=_;simp,HR,by show _=_;have:=Hb.out;simp at this;simp[this],by omega,i.out⟩
  simp[intOf];omega
 |stop h1 h2 h3=>
  rw[<-C.out]at h1 h2 h3;have q3:((d.kind:Int)==3)=false:=by simp;omega
  have q1:((m:Int)==1)=false:=by rw[U.out];simp;omega
  have F:b1=b:=by have:=Hb.out;simpa using this
  have ae:Hid (u=((if st || b then 3 else 4:Nat):Int)):=by
   show _=_;rw[M.out,F];split<;>rfl
  have B:(if st || b then 3 else 4:Nat)<=4/\(if st || b then 3 else 4:Nat)≠0:=by split<;>omega
  have n:Hid (∀D,D=w2->Calls Tryz.prog 148 #[.pointer (some ⟨tb,0,none⟩),.int .i64 u,.slice (some ⟨D.heap.size,0,none⟩) 1 1] (D.alloc (.cells #[.int .i64 (k':Int)] 3)) (GrPost tb base T0 N0 v0 vr S0 E K w0)):=λD Z=>by
   subst Z;rw[ae.out];have am:=i.out.f.b.size;refine((i.out.below (box_bel D (.cells #[.int .i64 (k':Int)] 3))).node (P:=λq=>q=D.heap.size) (ks:=[k']) (KiL.one D k' 3) (λq hq=>?_) htb hb _ B.1 B.2 ?_ (by simp) (by omega) (by simp)).mono ?_
   ·subst hq;exact⟨am,by simp,λe=>by have:=(i.out.t.blk _ e).2;omega⟩
   ·simp only[List.mem_singleton];rintro q rfl;exact⟨al,by omega⟩
   rintro ee w5 ⟨v5,rfl,G5,_⟩;exact G5.post ak.out (by omega)
  by_cases e2:d.kind=2
  ·have q2:((d.kind:Int)==2)=true:=by simp[e2]
   by_cases em:m=2
   ·obtain⟨c,l,H⟩:∃c l,d.kids=[c,l]:=by
     have hl:=U.out;rw[em]at hl
     match hkk:d.kids,hl with
     |[c,l],_=>exact⟨c,l,rfl⟩
    obtain⟨an,ao,Z,e4⟩:=g 1 l (by rw[H];rfl);subst Z em;have ah:=y.out.1 k' (by omega) l (by rw[<-C.out,H];simp);have p:=q8Z tb T (k+1) l w2 (by omega) (by omega) (i.out.t.tr (Nat.le_refl _));have ai:=h3 c l H e2;rw[show decide ((T l).kind=1/\(T l).kids=[])=false by rw[decide_eq_false_iff_not];exact ai]at p;have R:=hyd p;clear g h1 h2 h3 p ai H e2 B F;go_wp2_with fail;refine R.out.mono ?_;rintro ee D ⟨rfl,rfl⟩;go_wp2_with fail;refine(n.out D rfl).mono ?_;rintro ee w5 ⟨T5,n5,v5,S5,rfl,a⟩;go_wp2_with fail;go_ret;exact⟨T5,n5,v5,S5,rfl,a⟩
   have qm:((m:Int)==2)=false:=by simp;omega
   clear g h1 h2 h3 e2 B F;go_wp2_with fail;refine(n.out w2 rfl).mono ?_;rintro ee w5 ⟨T5,n5,v5,S5,rfl,a⟩;go_wp2_with fail;go_ret;exact⟨T5,n5,v5,S5,rfl,a⟩
  have q2:((d.kind:Int)==2)=false:=by simp;omega
  clear g h1 h2 h3 e2 B F;go_wp2_with fail;refine(n.out w2 rfl).mono ?_;rintro ee w5 ⟨T5,n5,v5,S5,rfl,a⟩;go_wp2_with fail;go_ret;exact⟨T5,n5,v5,S5,rfl,a⟩
theorem TW.form (h:TW tb base T (N+1) M v vr S w):∃g cap,v=.slice (some ⟨g,0,none⟩) (N+1) cap:=by
 obtain⟨m,c,_⟩:=h.o;rcases c.2 with ⟨a,d⟩|⟨g,cap,b,a,_⟩
 ·omega
 exact⟨g,cap,a⟩
theorem TW.letter {f:Nat->Bool} (h:TW tb base (addN T N 0 [] (λ_=>false)) (N+1) N (.slice (some ⟨g,0,none⟩) (N+1) cap) vr S w) (htb:tb<base) (B:Nat) (hB:BRow B f w) (hBl:B<w.heap.size) (hne:B≠tb) (hng:B≠g):
  TW tb base (addN T N 0 [] f) (N+1) (N+1) (.slice (some ⟨g,0,none⟩) (N+1) cap) vr (λk=>S k\/k=B) (w.setCell ⟨g,N*5+1,none⟩ (.slice (some ⟨B,0,none⟩) 256 256)):=by
 have G:=(h.blk g rfl).1;obtain⟨m,F,v⟩:=h.o;obtain⟨w',l⟩:=nam (w.setCell ⟨g,N*5+1,none⟩ (.slice (some ⟨B,0,none⟩) 256 256));have t:∀q,q≠g->w'.heap[q]?=w.heap[q]?:=λq b=>by rw[l];exact Below.heap_setCell w ⟨g,N*5+1,none⟩ _ q (λe=>b e)
 have r:w'.heap.size=w.heap.size:=by rw[l,World.size_setCell]
 have y:AgX S w w':=λq b=>t q (λe=>(h.s q b).2.2 (by rw[e];rfl))
 have n:∀i,i<N->addN T N 0 [] f i=addN T N 0 [] (λ_=>false) i:=λi d=>by rw[q1g d (by simp),q1g d (by simp)]
 rw[<-l];refine⟨h.c.block (t tb (by omega)),⟨⟨λi=>if i=N then .slice (some ⟨B,0,none⟩) 256 256 else m.vin i,m.ka,m.kc⟩,?_,?_⟩,λq b=>?_⟩
 ·have:=(F.stored (N*5+1) (.slice (some ⟨B,0,none⟩) 256 256)).1;rw[q7u (q2V _ m) N 1 (by omega) (by omega),<-l]at this;rw[q2X (E:=λi=>if i=N then (ndL (addN T N 0 [] (λ_=>false)) m N).set 1 (.slice (some ⟨B,0,none⟩) 256 256) else ndL (addN T N 0 [] (λ_=>false)) m i) (λi d=>?_)]
  ·exact this
  by_cases e:i=N
  ·subst e;simp only[if_true,ndL,q0r];rfl
  simp only[e,if_false,ndL,n i (by omega)]
 ·refine⟨λi d=>?_,λi d w2 p=>?_,λi d _ x=>?_⟩
  ·by_cases e:i=N
   ·simp only[e,if_true];rfl
   simp only[e,if_false];exact v.o i d
  ·have e:(addN T N 0 [] f i).kids=(addN T N 0 [] (λ_=>false) i).kids:=by
    by_cases e:i=N
    ·subst e;rw[q0r,q0r]
    rw[n i (by omega)]
   rw[e];exact v.k i d w2 (y.trans (λk u=>p k (Or.inl u)))
  by_cases e:i=N
  ·subst e;refine⟨some ⟨B,0,none⟩,256,by simp only[if_true],λw2 p j A=>⟨B,0,rfl,?_⟩⟩;rw[q0r,World.cell?_of_block (w:=w) (a:=⟨B,0+j,none⟩) ((p B (Or.inr rfl)).trans (t B hng)),Nat.zero_add];exact(hB j A).1
  rw[n i (by omega)]at x ⊢;obtain⟨C,D,z,e2⟩:=v.i i d (by omega) x;exact⟨C,D,by simp only[e,if_false];exact z,λw2 p=>e2 w2 (y.trans (λk u=>p k (Or.inl u)))⟩
 rcases b with b|b
 ·exact⟨by rw[r];exact(h.s q b).1,(h.s q b).2⟩
 subst b;exact⟨by rw[r];exact hBl,hne,λe=>hng (Option.some.inj e).symm⟩
theorem q2W {f:Nat->Bool} (hp:GrPre tb base T N v vr S 1 w) (tw:TW tb base (addN T N 0 [] (λ_=>false)) (N+1) N (.slice (some ⟨g,0,none⟩) (N+1) cap) vr (λk=>S k\/False) w1) (tf:TF tb v (.slice (some ⟨g,0,none⟩) (N+1) cap) S S w w1) (hB2:Below w1.heap.size w1 w2) {B:Nat} (hB:BRow B f w2) (hBl:B<w2.heap.size) (hBn:w1.heap.size<=B) (hf:∀b,b<256->f b=F b):
  GrPost tb base T N v vr S (.lit F) 1 w (.returned (.int .i64 (N:Nat))) (w2.setCell ⟨g,N*5+1,none⟩ (.slice (some ⟨B,0,none⟩) 256 256)):=by
 have l:=tw.blk g rfl;have d:=hp.b;have h:=tf.b.size;have j:=tw.c.lt;refine⟨addN T N 0 [] F,N,_,λk=>(S k\/False)\/k=B,rfl,(tw.below hB2).letter d B (hB.congr hf) hBl (by omega) (by omega),(((tf.trans (TF.of _ S (by omega) hB2)).poke (by omega) (N*5+1) _).sub (λk a=>?_)),hp.r.add (by simp) (by omega) (by simp),q8d T N F,λi e=>q1g e (by simp),Nat.le_refl _⟩;rcases a with (a|a)|a
 ·exact Or.inl a
 ·exact a.elim
 exact Or.inr (by omega)
theorem q7V {t:Tq} (ht:TqOK t) (hk:t.t.kd=1):∃c w,t.t.w=c::w/\c≠40:=by
 obtain⟨c,w,b,_,_,a,_⟩:=q1k ht.1;exact⟨c,w,b,λe=>by have:=a.1 e;omega⟩
theorem y0x {t:Tq} (ht:TqOK t) (hkd:t.t.kd=1) (tb base:Nat) (s:ByteArray) (T:Nat->Nd) (N:Nat) (v vr:Value) (S:Nat->Prop) (w:World) (hts:s.data.toList=t.t.w) (hs:s.size<=40) (hp:GrPre tb base T N v vr S 1 w):
  Calls Tryz.prog 181 #[.pointer (some ⟨tb,0,none⟩),.string s] w (GrPost tb base T N v vr S (.lit t.f) 1 w):=by
 have L:=q6Y;obtain⟨c,r0,hw,z⟩:=q7V ht hkd;have hd:s.data.toList.drop 0=c::r0:=by rw[List.drop_zero,hts,hw]
 obtain⟨ay,M,ap⟩:=q0m hd;have aw:((s[0].toNat:Int)==40)=false:=by rw[M];exact q0J z
 have hN:=hp.n;have i:=q6O tb base T N v vr S (λ_=>False) 0 (.slice none 0 0) [] w hp.t (KiL.nil w) (λk hk=>hk.elim) (by simp) (by simp) hp.b hp.s (by omega) (by simp);have HN:=hyd i;have HP:=hyd hp;obtain⟨F,hF⟩:=nam t.f;have al:Hid (PlaceSet (c::r0) F):=by show PlaceSet _ _;rw[<-hw,hF];exact ht.2.1 hkd
 rw[<-hF];have W:Hid (s.data.toList=c::r0):=by show _=_;rw[hts,hw]
 have d:=hyd M;clear i hp hF hts hd ap ht hkd hw z M;go_enter Tryz.func181,Tryz.ntmps181;go_wp2_with fail;refine HN.out.mono ?_;rintro ee w1 ⟨v1,rfl,r,ai⟩;obtain⟨g,cap,rfl⟩:=r.form;have Q:=hyd2 r ai;have E:Hid (∀w2,Below w1.heap.size w1 w2->w2.cell? ⟨tb,0,none⟩=some (.slice (some ⟨g,0,none⟩) (N+1) cap)/\(∃u,w2.cell? ⟨g,N*5+1,none⟩=some u)/\w2.frozen? ⟨g,N*5+1,none⟩=false):=λw2 h=>by
  have t2:=r.below h;obtain⟨m,o1,_⟩:=t2.o;refine⟨(t2.c 0 _ rfl).1,⟨m.vin N,?_⟩,o1.frozenAt _⟩;rw[o1.cellAt _ (by omega),q2q (q2V _ _) N 1 (by omega) (by omega)];rfl
 clear r ai HN;have az:(N:Int)<N+1:=by omega
 rcases al.out with ⟨Y,hf⟩|⟨c',v',r',G,ag,ah,au,A,hf⟩|⟨e,G,C⟩
 ·have X:((s[0].toNat:Int)==46)=true:=by rw[d.out,(List.cons.inj Y).1];rfl
  have Hf:=hyd hf;clear Y hf;go_wp2_with fail;clear L
  go_loopw [7] (λx w'=>∃b:Nat,b<=256/\x=.int .i64 b/\BRow w1.heap.size (λy=>decide (y<b)&&(y != 10)) w'/\Below w1.heap.size w1 w'/\w1.heap.size<w'.heap.size) (λx _=>256-(intOf x).toNat)
  ·exact⟨0,by omega,rfl,(BRow.blank w1 _).congr (λy _=>by simp),(Below.refl _ _).alloc (Nat.le_refl _) _,by simp⟩
  obtain⟨b,hb,rfl,a,R,ae⟩:=hrel;by_cases ac:b<256
  ·have av:(b:Int)<256:=by omega
   obtain⟨j,ao⟩:=a b ac;have h:=a.set b ac (b != 10);have an:((b:Int) != 10)=(b != 10):=by
    by_cases e:b=10
    ·subst e;rfl
    rw[bne_iff_ne.2 e,bne_iff_ne.2 (show(b:Int)≠10 by omega)]
   obtain⟨V,hV⟩:=nam ((b != 10));rw[<-hV]at h an;have HV:=hyd hV;have aj:=hyd h;clear hV a h;go_wp2_with fail;go_roundw
   ·refine⟨b+1,by omega,by go_num,aj.out.congr (λy _=>?_),R.trans (q0E _ _ _ _),by rw[World.size_setCell];exact ae⟩;by_cases e1:y=b
    ·subst e1;simp[HV.out]
    by_cases e2:y<b
    ·simp[e1,e2,Nat.lt_succ_of_lt e2]
    simp[e1,e2,show ¬y<b+1 by omega]
   simp[intOf];omega
  have ax:¬(b:Int)<256:=by omega
  obtain⟨k0,⟨u1,k1⟩,k2⟩:=E.out wr R;have U:=hyd a;have ak:Hid (b=256):=by show _=_;omega
  clear a;go_wp2_with fail;go_ret;exact q2W HP.out Q.out.1 Q.out.2 R U.out ae (Nat.le_refl _) (λy hy=>by rw[Hf.out y hy,ak.out];simp[hy])
 ·have j:=(List.cons.inj G).1;have X:((s[0].toNat:Int)==46)=false:=by rw[d.out,j];exact q0J ag
  have am:((s[0].toNat:Int)==91)=false:=by rw[d.out,j];exact q0J ah
  have h1:=A [];rw[List.append_nil]at h1;obtain⟨v0,v1,_,_⟩:=Rf.one_bd h1;obtain⟨vn,rfl⟩:∃vn:Nat,v'=vn:=⟨v'.toNat,by omega⟩;have af:vn<256:=by omega
  have HO:Hid (∀w2,Calls Tryz.prog 159 #[.string s,.int .i64 (0:Nat)] w2 λe w'=>e=.returned (.tuple #[.int .i64 (vn:Int),.int .i64 ((0+(c::r0).length:Nat):Int)])/\∃q,w'=w2.drewN q):=λw2=>y0o s 0 vn _ w2 hs (by rw[List.drop_zero,W.out];exact h1)
  have Hf:=hyd hf;clear G ag ah au A hf h1 j;go_wp2_with fail;refine(HO.out _).mono ?_;rintro ee w2 ⟨rfl,q,rfl⟩;have l:BRow w1.heap.size (λ_=>false) ((w1.alloc (.cells blank 4)).drewN q):=(BRow.blank w1 _).drewN q;have ab:Below w1.heap.size w1 ((w1.alloc (.cells blank 4)).drewN q):=((Below.refl _ _).alloc (Nat.le_refl _) _).trans (q1w _ _ _);obtain⟨w3,P⟩:=nam ((w1.alloc (.cells blank 4)).drewN q);have aq:w1.heap.size<w3.heap.size:=by rw[P];simp
  rw[<-P]at l ab ⊢;obtain⟨j,ao⟩:=l vn af;have H:=l.set vn af true;have I:Below w1.heap.size w1 (w3.setCell ⟨w1.heap.size,vn,none⟩ (.bool true)):=ab.trans (q0E _ _ _ _);obtain⟨w4,p⟩:=nam (w3.setCell ⟨w1.heap.size,vn,none⟩ (.bool true));have ar:w1.heap.size<w4.heap.size:=by rw[p,World.size_setCell];exact aq
  rw[<-p]at H I;obtain⟨k0,⟨u1,k1⟩,k2⟩:=E.out w4 I;have U:=hyd H;have H4:=hyd p;clear l H P p L;go_wp2_with (first|(with_reducible refine gld 114 ?_;refine Stop.out ?_));refine⟨?_⟩;rw[<-H4.out];go_wp2_with fail;go_ret;exact q2W HP.out Q.out.1 Q.out.2 I U.out ar (Nat.le_refl _) (λy hy=>by
   rw[Hf.out y hy];by_cases e:y=vn
   ·simp[e]
   have:¬(y:Int)=(vn:Int):=by omega
   simp[e,this])
 have X:((s[0].toNat:Int)==46)=false:=by rw[d.out,(List.cons.inj G).1];rfl
 have am:((s[0].toNat:Int)==91)=true:=by rw[d.out,(List.cons.inj G).1];rfl
 obtain⟨fa,O⟩:=C [] 0;rw[List.append_nil]at O;have HO:Hid (∀w2,Calls Tryz.prog 160 #[.string s,.int .i64 (0:Nat)] w2 λe' w'=>e'=.returned (.tuple #[.slice (some ⟨w2.heap.size,0,none⟩) 256 256,.int .i64 ((0+(e.length+1):Nat):Int),.int .i64 fa])/\BRow w2.heap.size F w'/\Below w2.heap.size w2 w'):=λw2=>q9X s 0 _ fa F w2 hs (by rw[W.out,G];exact O)
 clear G C O;go_wp2_with fail;refine(HO.out _).mono ?_;rintro ee w2 ⟨rfl,a,J⟩;have K:=box_bel w1 (.cells blank 4);have R:=K.trans (J.mono K.size);have hs2:=J.size;have D:(w1.alloc (.cells blank 4)).heap.size=w1.heap.size+1:=by simp
 obtain⟨B,Z⟩:=nam ((w1.alloc (.cells blank 4)).heap.size);rw[<-Z]at a hs2 D ⊢;obtain⟨k0,⟨u1,k1⟩,k2⟩:=E.out w2 R;have U:=hyd a;have aa:B<w2.heap.size:=World.block_lt_of_cell? w2 _ (a 0 (by omega)).1;clear a Z J K L;go_wp2_with fail;go_ret;have a:=U.out;rw[D]at a aa;exact q2W HP.out Q.out.1 Q.out.2 R a aa (by omega) (λy hy=>rfl)
theorem y2D (h:Pp f 0 ts e) (hz:e.sz=0):e=.eps:=by
 cases f with
 |zero=>exact absurd h (by simp[Pp])
 |succ f=>
  have c:∀x:Rx,x.nz.sz=0->x.nz=.eps:=λx d=>by
   rw[Rx.nz_sz]at d;unfold Rx.nz;rw[if_pos d]
  rcases h with ⟨q,_,_,_,rfl⟩|⟨a,inn,b,e0,_,_,_,_,_,_,rfl⟩|⟨q,t,e0,_,_,_,_,rfl⟩
  ·simp[Rx.sz]at hz
  ·exact c _ hz
  exact c _ hz
variable {ee : Ending}{e' : Rx}
theorem GrPost.eq (h:GrPost tb base T N v vr S e K w ee w') (he:SemEq e e') (hK:K<=K'):GrPost tb base T N v vr S e' K' w ee w':=by
 obtain⟨T',n,v',S',a,b,c,d,f,g,i⟩:=h;exact⟨T',n,v',S',a,b,c,d,f.eq he,g,by omega⟩
theorem GrPre.less (h:GrPre tb base T N v vr S K w) (hK:K'<=K):GrPre tb base T N v vr S K' w:=⟨h.t,h.r,h.b,h.s,by have:=h.n;omega⟩
theorem GrPre.below (h:GrPre tb base T N v vr S K w) (hW:Below w.heap.size w w'):GrPre tb base T N v vr S K w':=⟨h.t.below hW,h.r,h.b,by have:=hW.size;have:=h.s;omega,h.n⟩
theorem GrPost.from (h:GrPost tb base T N v vr S e K w1 ee w') (hW:Below w.heap.size w w1) (ht:tb<w.heap.size):GrPost tb base T N v vr S e K w ee w':=by
 obtain⟨T',n,v',S',a,b,c,d,f,g,i⟩:=h;exact⟨T',n,v',S',a,b,(TF.of v S (by omega) hW).trans c,d,f,g,i⟩
theorem q7K (h:Pp f 0 ts e) (hz:e.sz=0):PcOK ts e:=by
 intro tb base s T N v vr S w d hs g;obtain⟨G,j⟩:=q7S h;have z:1<=s.size:=by
  have:=q8F h;rw[<-d]at this;simpa using this
 have u:=q8a (P:=e.sz) z;obtain⟨K,m⟩:=nam (ndB s.size e.sz);rw[<-m]at g u ⊢;have x:=y2D h hz;subst x;rw[<-d]at j;have HS:=hyd ((q6D G).2 s _ w hs j);have l:=hyd g;have B:=g.n;have A:=g.t.c.lt;clear h j d m hz g;go_enter Tryz.func147,Tryz.ntmps147;go_wp2_with fail;refine HS.out.mono ?_;rintro ee w1 ⟨rfl,o⟩;have a:=l.out.below o;have i:=hyd ((GS.first a).node (P:=λ_=>False) (KiL.nil w1) (λk y=>y.elim) a.b a.s 1 (by omega) (by omega) (by simp) (by simp) (by omega) (by simp));have q:=hyd (q8V T N a.r.w);clear a HS l;go_wp2_with fail;refine i.out.mono ?_;rintro ee w2 ⟨v2,rfl,p,_⟩;go_wp2_with fail;go_ret;exact(p.post q.out (by omega)).from o A
theorem y1M {inn:List Tq} (hPt:PtOK inn e) (tb base:Nat) (s:ByteArray) (T:Nat->Nd) (N:Nat) (v vr:Value) (S:Nat->Prop) (w:World) (hts:s.data.toList=40::(tx inn++[41])) (hs:s.size<=40) (hp:GrPre tb base T N v vr S (ndB s.size e.sz) w) (_h:Pp f 2 inn e):
  Calls Tryz.prog 181 #[.pointer (some ⟨tb,0,none⟩),.string s] w (GrPost tb base T N v vr S e (ndB s.size e.sz) w):=by
 have k:s.data.toList.drop 0=40::(tx inn++[41]):=by rw[List.drop_zero,hts]
 obtain⟨p,d,i⟩:=q0m k;have o:((s[0].toNat:Int)==40)=true:=by rw[d];rfl
 have a:s.size=(tx inn).length+2:=by
  have:s.data.toList.length=(tx inn).length+2:=by rw[hts];simp
  simpa using this
 have x:1<=s.size-1:=by omega
 have j:(s.extract 1 (s.size-1)).data.toList=tx inn:=by
  rw[q2J,hts,a,show(tx inn).length+2-1=(tx inn).length+1 by omega,List.take_succ_cons,List.drop_succ_cons,List.drop_zero,List.take_left]
 have c:(s.extract 1 (s.size-1)).size=s.size-2:=by
  have:(s.extract 1 (s.size-1)).data.toList.length=(tx inn).length:=by rw[j]
  have u:(s.extract 1 (s.size-1)).size=(tx inn).length:=by simpa using this
  omega
 have g:ndB (s.size-2) e.sz+2<=ndB s.size e.sz:=by
  have:=q6j (L:=s.size-2) (t:=2) (P:=e.sz) (by omega);rw[show s.size-2+2=s.size by omega]at this;exact this
 have l:Hid (Calls Tryz.prog 91 #[.pointer (some ⟨tb,0,none⟩),.string (s.extract 1 (s.size-1))] w (GrPost tb base T N v vr S e (ndB s.size e.sz) w)):=by
  refine(hPt tb base _ T N v vr S w j (by omega) (by rw[c];exact hp.less g)).mono ?_;intro ee w' h;rw[c]at h;exact h.eq (SemEq.refl _) g
 generalize ndB s.size e.sz=K at *;clear hPt hts k d i j c g hp a;go_enter Tryz.func181,Tryz.ntmps181;go_wp2_with fail;refine l.out.mono ?_;rintro ee w1 ⟨n,q,r,m,rfl,b⟩;go_wp2_with fail;go_ret;exact⟨n,q,r,m,rfl,b⟩
theorem q4v (h:Pp f 0 ts e) (hz:e.sz≠0) (hsp:Rf.split (tx ts)=some (tx ts).length)
  (hA:∀(tb base:Nat) (s:ByteArray) (T:Nat->Nd) (N:Nat) (v vr:Value) (S:Nat->Prop) (w:World),s.data.toList=tx ts->s.size<=40->GrPre tb base T N v vr S (ndB s.size e.sz) w->Calls Tryz.prog 181 #[.pointer (some ⟨tb,0,none⟩),.string s] w (GrPost tb base T N v vr S e (ndB s.size e.sz) w)):PcOK ts e:=by
 intro tb base s T N v vr S w b hs o;obtain⟨G,n⟩:=q7S h;rw[<-b]at n hsp;have j:s.data.toList.length=s.size:=by simp
 rw[j]at hsp;have HS:=hyd ((q6D G).2 s _ w hs n);have p:Hid (∀w',Below w.heap.size w w'->Calls Tryz.prog 181 #[.pointer (some ⟨tb,0,none⟩),.string s] w' (GrPost tb base T N v vr S e (ndB s.size e.sz) w')):=λw' d=>hA tb base s T N v vr S w' b hs (o.below d)
 have u:=o.t.c.lt;generalize ndB s.size e.sz=K at *;obtain⟨z,k⟩:=nam e.sz;rw[<-k]at HS hz;have A:((z:Int)==0)=false:=by simp;omega
 have m:=hyd hsp;clear h n b o hA k hsp;go_enter Tryz.func147,Tryz.ntmps147;go_wp2_with fail;refine HS.out.mono ?_;rintro ee w1 ⟨rfl,d⟩;go_wp2_with fail;refine(q2u s _ _ hs m.out).mono ?_;rintro ee w2 ⟨rfl,g⟩;have i:=d.trans (g.mono d.size);have l:=hyd (p.out w2 i);clear p d g;go_wp2_with fail;refine l.out.mono ?_;rintro ee B ⟨r,x,y,q,rfl,a⟩;go_wp2_with fail;go_ret;exact GrPost.from ⟨r,x,y,q,rfl,a⟩ i u
open Pg (Pt)
theorem q3L (v:Value) (e r a:Int) (w:World) (he:e≠0) (hC:∀W,Below w.heap.size w W->Calls Tryz.prog 124 #[v] W λe' w'=>e'=.returned (.tuple #[.int .i64 e,.int .i64 r,.int .i64 a])/\Below W.heap.size W w'):
  Calls Tryz.prog 34 #[v] w λen w'=>en=.returned (.tuple #[.agg macZ.toArray,.int .i64 e])/\Below w.heap.size w w':=by
 have K:=q1i;have E:=q3Y;have D:(e != 0)=true:=by simp[he]
 obtain⟨W0,b⟩:=nam (w.alloc (.cells #[.int .i64 0,.slice none 0 0,.slice none 0 0,.slice none 0 0] 25));have T0:TC w.heap.size macZ W0:=by rw[b];exact TC.boxed w macZ _
 have B0:Below w.heap.size w W0:=by rw[b];exact box_bel _ _
 have o:W0.heap.size=w.heap.size+1:=by rw[b];simp
 have k:=hyd (y3w v e r a W0 he (λW C=>hC W (B0.trans (C.mono (by omega)))));have l:=hyd b;have d:=hyd o;clear b o hC he;go_enter Tryz.func34,Tryz.ntmps34;go_wp2_with fail;rw[<-l.out];refine k.out.mono ?_;rintro en w2 ⟨rfl,p⟩;have I:w.heap.size+1<=w2.heap.size:=by have:=d.out;have:=p.size;omega
 have y:=T0.block (p.block _ (by have:=d.out;omega));have h:Below w.heap.size w w2:=B0.trans (p.mono (by have:=d.out;omega));obtain⟨Z,q⟩:=nam netZ;rw[<-q];have u:Hid (Z.length=106):=by show _=_;rw[q];exact q2p _ _ _
 have j:Hid (Z.toArray.all (·.oneCell')=true):=by show _=true;rw[q];exact q4d rfl rfl _
 clear q p B0 T0 k l;go_wp2_with (first|(with_reducible refine gst 137 ?_;refine Stop.out ?_));refine⟨?_⟩;obtain⟨B,g⟩:=nam ((w2.alloc (.cells netZ.toArray 137)).setCells w2.heap.size 0 Z);have n:=q1o w2 netZ Z 137 (by rw[u.out];exact(q2p _ _ _).symm);rw[<-g]at n;obtain⟨s,F,G,A⟩:=n;refine wpList_store_mid rfl 137 _ _ rfl w2.heap.size 0 Z.toArray rfl rfl (by simpa using A) (by simpa[u.out]using q1U) j.out ?_;rw[List.toList_toArray,<-g];have z:=y.block (s.block _ (by omega));have i:Below w.heap.size w B:=h.trans (s.mono (by omega));obtain⟨H,x,c,_⟩:=q1e (.int .i64 0) (.slice none 0 0) (.slice none 0 0) (.slice none 0 0) z i;obtain⟨J,f⟩:=nam (B.setCells w.heap.size 0 [.int .i64 0,.slice none 0 0,.slice none 0 0,.slice none 0 0]);rw[<-f]at x c;have t:=hyd f;have m:=hyd c;clear g f c z i y h s F G A I u j;go_wp2_with (first|(with_reducible refine gst 25 ?_;refine Stop.out ?_));refine⟨?_⟩;refine wpList_store_mid rfl 25 _ _ rfl w.heap.size 0 #[.int .i64 0,.slice none 0 0,.slice none 0 0,.slice none 0 0] rfl rfl H q0D (by simp[Value.oneCell']) ?_;rw[List.toList_toArray,<-t.out];go_wp2_with fail;refine bodyPost_ret (v:=.tuple #[.agg #[.int .i64 0,.slice none 0 0,.slice none 0 0,.slice none 0 0],.int .i64 e]) (q0L Tryz.results34 rfl m.out rfl) rfl ?_;exact⟨rfl,x⟩
theorem q3l (v:Value) (w:World) (Q:World->Ending->World->Prop) (R:Ending->World->Prop) (hC:∀W,Below w.heap.size w W->W.heap.size=w.heap.size+1->Calls Tryz.prog 34 #[v] W (Q W))
  (hQ:∀en w' W,Below w.heap.size w W->W.heap.size=w.heap.size+1->Q W en w'->Below W.heap.size W w'/\∃a b c d e,en=.returned (.tuple #[.agg #[a,b,c,d],.int .i64 e])/\(#[a,b,c,d]:Array Value).all (·.oneCell')=true/\∀WX,w'.grownBy WX (some w.heap.size)->Below w.heap.size w WX->R en WX):
  Calls Tryz.prog 22 #[v] w R:=by
 have D:=q1i;obtain⟨W0,f⟩:=nam (w.alloc (.cells #[.int .i64 0,.slice none 0 0,.slice none 0 0,.slice none 0 0] 25));have T0:TC w.heap.size macZ W0:=by rw[f];exact TC.boxed w macZ _
 have B0:Below w.heap.size w W0:=by rw[f];exact box_bel _ _
 have i:W0.heap.size=w.heap.size+1:=by rw[f];simp
 have r:=hyd (hC W0 B0 i);have l:=hyd f;have s:Hid (∀en w',Q W0 en w'->Below W0.heap.size W0 w'/\∃a b c d e,en=.returned (.tuple #[.agg #[a,b,c,d],.int .i64 e])/\(#[a,b,c,d]:Array Value).all (·.oneCell')=true/\∀WX,w'.grownBy WX (some w.heap.size)->Below w.heap.size w WX->R en WX):=λen w' h=>hQ en w' W0 B0 i h
 have n:=hyd i;clear f i hC hQ;go_enter Tryz.func22,Tryz.ntmps22;go_wp2_with fail;rw[<-l.out];refine r.out.mono ?_;intro en w2 A;obtain⟨o,a,b,c,d,e,rfl,x,z⟩:=s.out en w2 A;have u:=T0.block (o.block _ (by have:=n.out;omega));have k:Below w.heap.size w w2:=B0.trans (o.mono (by have:=n.out;omega));obtain⟨C,q,g,y⟩:=q1e a b c d u k;have t:=hyd (z _ y q);obtain⟨WX,j⟩:=nam (w2.setCells w.heap.size 0 [a,b,c,d]);rw[<-j]at g t;have p:=hyd j;have m:=hyd g;have B:=hyd x;clear j g y q z A u k o T0 B0 s r l x;go_wp2_with (first|(with_reducible refine gst 25 ?_;refine Stop.out ?_));refine⟨?_⟩;refine wpList_store_mid rfl 25 _ _ rfl w.heap.size 0 #[a,b,c,d] rfl rfl C q0D B.out ?_;rw[List.toList_toArray,<-p.out];go_wp2_with fail;exact bodyPost_ret (v:=.tuple #[.agg #[a,b,c,d],.int .i64 e]) (q0L Tryz.results22 rfl m.out rfl) rfl t.out
theorem q6o:macZ.toArray.all (·.oneCell')=true:=by simp[macZ,Value.oneCell']
theorem q2N (v:Value) (e r a:Int) (w:World) (he:e≠0) (hC:∀W,Below w.heap.size w W->Calls Tryz.prog 124 #[v] W λe' w'=>e'=.returned (.tuple #[.int .i64 e,.int .i64 r,.int .i64 a])/\Below W.heap.size W w'):
  Calls Tryz.prog 22 #[v] w λen w'=>en=.returned (.tuple #[.agg macZ.toArray,.int .i64 e])/\Below w.heap.size w w':=by
 refine q3l v w (λW en w'=>en=.returned (.tuple #[.agg macZ.toArray,.int .i64 e])/\Below W.heap.size W w') _ (λW c hs=>q3L v e r a W he (λW' b=>hC W' (c.trans (b.mono (by omega))))) ?_;rintro en w' W c hs ⟨rfl,d⟩;exact⟨d,_,_,_,_,e,rfl,q6o,λf _ h=>⟨rfl,h⟩⟩
theorem q6k (b off cap n:Nat) (f:Nat->ByteArray) (w:World) (h1:1<=n) (h8:n<=8) (hb:b<w.heap.size) (hm:∀i,i<n->(f i).size<=maxLen) (hr:SRow b off f n w) (hok:∀j,j<n->(Pg.wrong (bat (f j)) (f j).size).1=0) (hsum:¬96<sumTo (λj=>placesP (f j)) n):
  Calls Tryz.prog 22 #[.slice (some ⟨b,off,none⟩) n cap] w (MBPost (λj=>rxOf (f j)) n w):=by
 refine q3l _ w (λW=>MBPost (λj=>rxOf (f j)) n W) _ (λW s hs=>q7l b off cap n f W h1 h8 (by omega) hm (hr.below hb s) hok hsum) ?_;rintro en w' W s hs ⟨x,z⟩;refine⟨x,?_⟩;rcases z with ⟨rfl,B⟩|⟨l,t,A,p,r,⟨d,rfl⟩|⟨d,vc,vl,vn,kf,rfl,y,g,k,m,C,D,E⟩⟩
 ·exact⟨_,_,_,_,8,rfl,q6o,λo _ h=>⟨h,Or.inl ⟨rfl,B⟩⟩⟩
 ·exact⟨_,_,_,_,9,rfl,q6o,λo _ h=>⟨h,Or.inr ⟨l,t,A,p,r,Or.inl ⟨d,rfl⟩⟩⟩⟩
 refine⟨_,_,_,_,0,rfl,?_,λo c h=>⟨h,Or.inr ⟨l,t,A,p,r,Or.inr ⟨d,vc,vl,vn,kf,rfl,y,?_,?_,?_,C,D,E⟩⟩⟩⟩
 ·obtain⟨_,_,u,_⟩:=g.il;obtain⟨_,_,e2,_⟩:=k.il;obtain⟨_,_,v,_⟩:=m.il;show([.int .i64 n,vc,vl,vn]:List Value).toArray.all (·.oneCell')=true;rw[List.all_toArray,u,e2,v];rfl
 ·exact(g.grown c (λq a e=>by have:=Option.some.inj e;have:=(g.blk q a).1;omega)).mono (by omega)
 ·exact(k.grown c (λq a e=>by have:=Option.some.inj e;have:=(k.blk q a).1;omega)).mono (by omega)
 exact(m.grown c (λq a e=>by have:=Option.some.inj e;have:=(m.blk q a).1;omega)).mono (by omega)
end Go.Proofs.YtoaaklhpmhjhkaaGreat
