import Derived.Test.YtoaaklhpmhjhkaaGreatC19
import Derived.Test.YtoaaklhpmhjhkaaGreatC20
set_option maxRecDepth 100000
set_option maxHeartbeats 4000000
set_option linter.all false
namespace Go.Proofs.YtoaaklhpmhjhkaaGreat
open Go.RowKit
open Bm
structure V7 (tb base:Nat) (T:Nat->Nd) (N:Nat) (v vr:Value) (S:Nat->Prop) (K:Nat) (w:World):Prop where
 t:TW tb base T N N v vr S w
 r:JE T N
 b:tb<base
 s:base<=w.heap.size
 n:N+K<=1000000
def Yt (tb base:Nat) (T:Nat->Nd) (N:Nat) (v vr:Value) (S:Nat->Prop) (e:Rx) (K:Nat) (w:World) (ee:Ending) (w':World):Prop:=
 ∃T' n v' S',ee=.returned (.int .i64 (n:Nat))/\TW tb base T' (n+1) (n+1) v' vr S' w'/\TF tb v v' S S' w w'/\JE T' (n+1)/\TD T' (n+1) N n e/\(∀i,i<N->T' i=T i)/\n+1<=N+K
def Nl (ts:List Tq) (e:Rx):Prop:=∀(tb base:Nat) (s:ByteArray) (T:Nat->Nd) (N:Nat) (v vr:Value) (S:Nat->Prop) (w:World),s.data.toList=tx ts->s.size<=40->V7 tb base T N v vr S (WK s.size e.sz) w ->
 Calls Tryz.prog 147 #[.pointer (some ⟨tb,0,none⟩),.string s] w (Yt tb base T N v vr S e (WK s.size e.sz) w)
def Dn (ts:List Tq) (e:Rx):Prop:=∀(tb base:Nat) (s:ByteArray) (T:Nat->Nd) (N:Nat) (v vr:Value) (S:Nat->Prop) (w:World),s.data.toList=tx ts->s.size<=40->V7 tb base T N v vr S (WK s.size e.sz+2) w ->
 Calls Tryz.prog 91 #[.pointer (some ⟨tb,0,none⟩),.string s] w (Yt tb base T N v vr S e (WK s.size e.sz+2) w)
variable {ks rs:List Nat}{K K' N N' N0 P R base cap g gb i n sb tb:Nat}{F f nl:N_}{Ns cp ix:Nat->Nat}{S S' S0 S1 X:Nat->Prop}{row:Option Nat}{v v' v0 v1 vk vr vw:Value}{w w' w0 w1 w2 w5:World}
theorem TF.sub (h:TF tb v v' S S1 w w') (hs:∀k,S' k->S1 k\/w.heap.size<=k):TF tb v v' S S' w w':=
 ⟨h.b,h.k,h.o,λk a=>by
  rcases hs k a with h1|h1
  ·exact h.s k h1
  exact Or.inr h1⟩
structure GS (tb base:Nat) (T0:Nat->Nd) (N0:Nat) (v0 vr:Value) (S0:Nat->Prop) (w0:World) (T:Nat->Nd) (N:Nat) (v:Value) (S:Nat->Prop) (w:World):Prop where
 t:TW tb base T N N v vr S w
 f:TF tb v0 v S0 S w0 w
 r:JE T N
 o:∀i,i<N0->T i=T0 i
 l:N0<=N
variable {T:Nat->Nd}
theorem GS.first (h:V7 tb base T N v vr S K w):GS tb base T N v vr S w T N v S w:=
 ⟨h.t,TF.of v S (ZM h.t.c.lt) (Zk _ _),h.r,λ_ _=>rfl,Zg _⟩
variable {T0:Nat->Nd}
theorem GS.pre (h:GS tb base T0 N0 v0 vr S0 w0 T N v S w) (h1:tb<base) (h2:base<=w0.heap.size) (h3:N+K<=1000000):V7 tb base T N v vr S K w:=
 ⟨h.t,h.r,h1,by have:=h.f.b.size;omega,h3⟩
theorem GS.below (h:GS tb base T0 N0 v0 vr S0 w0 T N v S w) (y:Bl w w'):GS tb base T0 N0 v0 vr S0 w0 T N v S w':=
 ⟨h.t.below y,h.f.trans (TF.of v S (ZM h.t.c.lt) y),h.r,h.o,h.l⟩
theorem GS.made (h:GS tb base T0 N0 v0 vr S0 w0 T N v S w) {T':Nat->Nd}{n:Nat}{v':Value}{S':Nat->Prop}{w':World}{e:Rx} (h1:TW tb base T' (n+1) (n+1) v' vr S' w') (h2:TF tb v v' S S' w w') (h3:JE T' (n+1)) (y:TD T' (n+1) N n e) (z:∀i,i<N->T' i=T i):GS tb base T0 N0 v0 vr S0 w0 T' (n+1) v' S' w':=
 ⟨h1,h.f.trans h2,h3,λi a=>by have:=h.l;rw[z i (by omega)];exact h.o i a,by have:=h.l;have:=y.ge;omega⟩
structure PL (w0:World) (v:Value) (S:Nat->Prop) (vk:Value) (ks:List Nat) (w:World):Prop where
 o:OwnL w0.heap.size vk (ks.map fun x:Nat=>(x:Int)) w
 s:∀k,vk.ownBlock=some k->v.ownBlock≠some k/\¬S k
theorem PL.nil (w0:World) (v:Value) (S:Nat->Prop) (w:World):PL w0 v S (sN) [] w:=⟨OwnL.nil _ _,λk a=>by cases a⟩
theorem PL.tf (h:PL w0 v S vk ks w) (y:tb<w0.heap.size) (f:TF tb v v1 S S1 w w1):PL w0 v1 S1 vk ks w1:=by
 refine⟨h.o.keep (λk a=>?_),λk a=>⟨λe=>?_,λe=>?_⟩⟩
 ·have:=h.o.blk k a;exact f.k k this.2 (by omega) (h.s k a).1
 ·have:=h.o.blk k a;rcases f.o k e with h1|h1
  ·exact(h.s k a).1 h1
  omega
 have:=h.o.blk k a;rcases f.s k e with h1|h1
 ·exact(h.s k a).2 h1
 omega
theorem PL.app (h:GS tb base T0 N0 v0 vr S0 w0 T N v S w) {vk:Value}{ks:List Nat} (p:PL w0 v S vk ks w) (J:tb<w0.heap.size) {g len cap n:Nat} (y:w.grownBy w5 vk.ownBlock) (H:OwnL w0.heap.size (sL g len cap) (ks.map (λx:Nat=>(x:Int))++[(n:Int)]) w5) (z:vk.ownBlock=some g\/g=w.heap.size):
  GS tb base T0 N0 v0 vr S0 w0 T N v S w5/\PL w0 v S (sL g len cap) (ks++[n]) w5:=by
 have m:=h.f.b.size;have i:=y.size;have a:∀k,k<w.heap.size->vk.ownBlock≠some k->w5.heap[k]?=w.heap[k]?:=λk h1 h2=>y.block k h1 (λe=>h2 e.symm)
 refine⟨⟨h.t.keep i (λk d=>?_),⟨?_,λk h1 h2 h3=>?_,h.f.o,h.f.s⟩,h.r,h.o,h.l⟩,⟨by rw[List.map_append];exact H,λk d=>?_⟩⟩
 ·rcases d with h1|h1|h1
  ·subst h1;exact a k h.t.c.lt (λe=>by have:=(p.o.blk k e).1;omega)
  ·exact a k (h.t.blk k h1).2 (λe=>(p.s k e).1 h1)
  exact a k (h.t.s k h1).1 (λe=>(p.s k e).2 h1)
 ·exact h.f.b.grown y (by omega) (λq j=>by have:=(p.o.blk q j).1;omega)
 ·rw[a k (by omega) (λe=>by have:=(p.o.blk k e).1;omega)];exact h.f.k k h1 h2 h3
 cases d;rcases z with h1|h1
 ·exact p.s g h1
 exact⟨λe=>by have:=(h.t.blk g e).2;omega,λe=>by have:=(h.t.s g e).1;omega⟩
theorem GS.node (h:GS tb base T0 N0 v0 vr S0 w0 T N v S w) {vk:Value}{ks:List Nat}{P:Nat->Prop} (Z:K1 P vk ks w) (z:∀k,P k->w0.heap.size<=k/\k<w.heap.size/\v.ownBlock≠some k) (H:tb<base) (hb:base<=w0.heap.size) (kind:Nat) (Y:kind<=4) (h0:kind≠0) (y:∀k∈ks,N0<=k/\k<N) (hd:ks.Nodup) (hN:N<=1000000) (J:ks.length<=1000):
  Cp 148 #[pT tb,I6 kind,vk] w λe w'=>∃v',e=.returned (I6 N)/\GS tb base T0 N0 v0 vr S0 w0 (Yx T N kind ks (λ_=>false)) (N+1) v' (λk=>S k\/P k) w'/\TF tb v v' S S w w':=by
 have j:=h.f.b.size;refine(MD tb base T N v vr S P kind vk ks w h.t Z (λk y=>⟨(z k y).2.1,by have:=(z k y).1;omega,(z k y).2.2⟩) (λk a=>(y k a).2) hd H (by omega) hN J).mono ?_;rintro e w' ⟨v',c,m,tf⟩;refine⟨v',c,⟨m.more (by rw[YQ];exact h0),(h.f.trans tf).sub (λk y=>?_),h.r.add (λk a=>(y k a).2) Y J,λi d=>?_,by have:=h.l;omega⟩,tf⟩
 ·rcases y with h1|h1
  ·exact Or.inl h1
  exact Or.inr (z k h1).1
 have:=h.l;rw[Xe (by omega) (λg=>by have:=(y i g).1;omega)];exact h.o i d
theorem PL.add {P:Nat->Prop} (h:PL w0 v S vk ks w) (y:∀k,vk.ownBlock=some k->¬P k):PL w0 v (λk=>S k\/P k) vk ks w:=
 ⟨h.o,λk a=>⟨(h.s k a).1,λe=>by
  rcases e with e|e
  ·exact(h.s k a).2 e
  exact y k a e⟩⟩
theorem K1.two (w:World) (a b:Nat) (y:TypeId):K1 (λk=>k=w.heap.size) (.slice (some (a_ w.heap.size 0)) 2 2) [a,b] (w.alloc (.cells #[I6 (a:Int),I6 (b:Int)] y)):=by
 refine⟨_,2,rfl,λw' d i c=>⟨w.heap.size,0,rfl,?_⟩⟩;rw[World.cell?_of_block (w:=w.alloc (.cells #[I6 (a:Int),I6 (b:Int)] y)) (a:=(a_ w.heap.size (0+i))) (d _ rfl),Zm];simp only[List.length_cons,List.length_nil]at c
 match i,c with
 |0,_=>rfl
 |1,_=>rfl
theorem K1.one (w:World) (a:Nat) (y:TypeId):K1 (λk=>k=w.heap.size) (.slice (some (a_ w.heap.size 0)) 1 1) [a] (w.alloc (.cells #[I6 (a:Int)] y)):=by
 refine⟨_,1,rfl,λw' c i b=>⟨w.heap.size,0,rfl,?_⟩⟩;rw[World.cell?_of_block (w:=w.alloc (.cells #[I6 (a:Int)] y)) (a:=(a_ w.heap.size (0+i))) (c _ rfl),Zm];simp only[List.length_cons,List.length_nil]at b
 match i,b with
 |0,_=>rfl
variable {e:Rx}
theorem GS.post (h:GS tb base T0 N0 v0 vr S0 w0 T (n+1) v S w) (y:TD T (n+1) N0 n e) (z:n+1<=N0+K):Yt tb base T0 N0 v0 vr S0 e K w0 (.returned (I6 (n:Nat))) w:=
 ⟨T,n,v,S,rfl,h.t,h.f,h.r,y,h.o,z⟩
variable {ts:List Tq}
theorem Ku (h:Nl ts e) (tb base:Nat) (s:ByteArray) (T:Nat->Nd) (N:Nat) (v vr:Value) (S:Nat->Prop) (w:World) (Z:s.data.toList=tx ts) (hs:s.size<=40) (Y:V7 tb base T N v vr S (WK s.size e.sz+2) w):
  Cp 183 #[pT tb,.string s] w (Yt tb base T N v vr S (.opt e) (WK s.size e.sz+2) w):=by
 obtain⟨K,A⟩:=nam (WK s.size e.sz);have F:Hid (Cp 147 #[pT tb,.string s] w (Yt tb base T N v vr S e K w)):=by rw[A];exact h tb base s T N v vr S w Z hs ⟨Y.t,Y.r,Y.b,Y.s,by have:=Y.n;omega⟩
 rw[<-A]at Y ⊢;have c:=Y.b;have B:=Y.s;have L:=Y.n;have G:=hyd (GS.first Y);go_enter Tryz.func183,Tryz.ntmps183;go_wp2_with fail;refine F.out.mono ?_;rintro ee w1 ⟨H,a,v1,S1,rfl,y,x,i,z,g,J⟩;have C:=G.out.made y x i z g;have l:=hyd (C.node (P:=λ_=>False) (K1.nil w1) (λk q=>q.elim) c B 1 (by omega) (by omega) (by simp) (by simp) (by omega) (by simp));have o:=hyd2 z i;go_wp2_with fail;refine l.out.mono ?_;rintro ee w2 ⟨v2,rfl,j,_⟩;have D:=j.below (box_bel w2 (.cells #[I6 (a:Int),I6 ((a+1:Nat):Int)] 3));obtain⟨d,u⟩:=o.out;have I:=d.ge;have m:Hid (Cp 148 #[pT tb,I6 (2:Nat),.slice (some (a_ w2.heap.size 0)) 2 2] (w2.alloc (.cells #[I6 (a:Int),I6 ((a+1:Nat):Int)] 3)) λe w'=>∃v',e=.returned (I6 ((a+1+1:Nat):Int))/\GS tb base T N v vr S w (Yx (Yx H (a+1) 1 [] (λ_=>false)) (a+1+1) 2 [a,a+1] (λ_=>false)) (a+1+1+1) v' (λk=>(S1 k\/False)\/k=w2.heap.size) w'/\TF tb v2 v' (λk=>S1 k\/False) (λk=>S1 k\/False) (w2.alloc (.cells #[I6 (a:Int),I6 ((a+1:Nat):Int)] 3)) w'):=
  D.node (K1.two w2 a (a+1) 3) (λk q=>by
   subst q;refine⟨j.f.b.size,by simp,λe=>?_⟩;have:=(j.t.blk _ e).2;omega) c B 2 (by omega) (by omega) (by simp;omega) (by simp) (by omega) (by simp)
 have p:=hyd (Fd u.w d);go_wp2_with fail;refine m.out.mono ?_;rintro ee M ⟨v4,rfl,E,_⟩;go_wp2;go_ret;exact E.post p (by omega)
theorem KH (h:Nl ts e) (m n:Nat) (ao:m<=9) (ap:n<=9) (tb base:Nat) (s:ByteArray) (T:Nat->Nd) (N:Nat) (v vr:Value) (S:Nat->Prop) (w:World) (an:s.data.toList=tx ts) (hs:s.size<=40) (hp:V7 tb base T N v vr S (n*(WK s.size e.sz+2)+1) w):
  Cp 184 #[pT tb,.string s,I6 m,I6 n] w (Yt tb base T N v vr S (Rx.rowOf (Rx.copies e m n)) (n*(WK s.size e.sz+2)+1) w):=by
 obtain⟨K,hK⟩:=nam (WK s.size e.sz);have HC:Hid (∀(T':Nat->Nd) (N':Nat) (v':Value) (S':Nat->Prop) (w':World),V7 tb base T' N' v' vr S' K w'->Cp 147 #[pT tb,.string s] w' (Yt tb base T' N' v' vr S' e K w')):=by
  rw[hK];exact λT' N' v' S' w' R=>h tb base s T' N' v' vr S' w' an hs R
 have HM:Hid (∀(T':Nat->Nd) (N':Nat) (v':Value) (S':Nat->Prop) (w':World),V7 tb base T' N' v' vr S' (K+2) w'->Cp 183 #[pT tb,.string s] w' (Yt tb base T' N' v' vr S' (.opt e) (K+2) w')):=by
  rw[hK];exact λT' N' v' S' w' R=>Ku h tb base s T' N' v' vr S' w' an hs R
 rw[<-hK]at hp ⊢;have U:=hp.b;have hb:=hp.s;obtain⟨Q,hQ⟩:=nam (K+2);rw[<-hQ]at hp ⊢;obtain⟨nQ,ac⟩:=nam (n*Q);have I:=hyd ac;rw[<-ac]at hp ⊢;have hN:=hp.n;have D:=hp.t.c.lt;have HG:=hyd (GS.first hp);have am:(n:Int)<=9:=by omega
 go_enter Tryz.func184,Tryz.ntmps184;go_wp2
 go_loopw [9,10] (λkv iv w'=>∃(i V:Nat) (ks:List Nat) (T':Nat->Nd) (N':Nat) (v':Value) (S':Nat->Prop) (E:Option Addr) (F:Nat),i<=n/\iv=I6 i/\kv=.slice E i F/\GS tb base T N v vr S w T' N' v' S' w'/\PL w v' S' kv ks w'/\Hid (YE T' N' N ks (Rx.copies e m i) N')/\N'<=N+V/\Hid (V=i*Q)/\Hid ((ks.map (λx:Nat=>(x:Int))).length=i)) (λ_ iv _=>n-(intOf iv).toNat)
 ·exact⟨0,0,[],T,N,v,S,none,0,by omega,rfl,rfl,HG,PL.nil _ _ _ _,YE.nil N,by omega,(Nat.zero_mul Q).symm,rfl⟩
 obtain⟨i,V,ks,T',N',v',S',E,F,hi,rfl,rfl,G,u,y,ak,C,p⟩:=hrel;by_cases ah:i<n
 ·have aj:(i:Int)<n:=by omega
  have al:V+Q<=nQ:=by
   have h1:(i+1)*Q<=n*Q:=ZQ _ ah;rw[Nat.succ_mul]at h1;have h2:=C.out;have h3:=I.out;omega
  have Z:Hid (V+Q=(i+1)*Q):=by show _=_;rw[Nat.succ_mul,C.out]
  by_cases aa:i<m
  ·have ab:(i:Int)<m:=by omega
   have H:=hyd (HC T' N' v' S' wr (G.pre U hb (by omega)));have l:=hyd2 G u;go_wp2_with fail;refine H.out.mono ?_;rintro ee w1 ⟨T1,a,v1,S1,rfl,X,B,W,f1,j,ai⟩;have A:=box_bel w1 (.cells #[I6 (a:Int)] 3);have Y:=(l.out.1.made X B W f1 j).below A;have P1:=(l.out.2.tf D B);have P2:PL w v1 S1 (.slice E i F) ks (w1.alloc (.cells #[I6 (a:Int)] 3)):=⟨P1.o.below A,P1.s⟩;have z:Hid (YE T1 (a+1) N (ks++[a]) (Rx.copies e m (i+1)) (a+1)):=by
    show YE _ _ _ _ _ _;rw[Rx.copies_succ,if_pos aa];exact y.out.more l.out.1.r.w j f1
   have J:=P2.o;have P:(w1.alloc (.cells #[I6 (a:Int)] 3)).cell? (a_ w1.heap.size 0)=some (I6 (a:Int)):=by rw[Zm];rfl
   have M:=Y.f.b.size;have d:=hyd2 Y P2;go_wp2_with (first|(at_builtin;refine Bm.wpList_append_int (by rfl) _ _ (by rfl) w.heap.size (.slice E i F) _ (by rfl) J (by rw[p.out];omega) w1.heap.size (a:Int) (by rfl) P M _ rfl ?_;rw[p.out];intro g cap w5 L q O af));obtain⟨G5,P5⟩:=d.out.2.app d.out.1 D q L O;go_roundw
   ·exact⟨i+1,V+Q,ks++[a],T1,a+1,v1,S1,some (a_ g 0),cap,by omega,by go_num,rfl,G5,P5,z,by omega,Z,by show _=_;have:=p.out;simp at this;simp[this]⟩
   simp[intOf];omega
  have ab:¬(i:Int)<m:=by omega
  have H:=hyd (HM T' N' v' S' wr (G.pre U hb (by omega)));have l:=hyd2 G u;go_wp2_with fail;refine H.out.mono ?_;rintro ee w1 ⟨T1,a,v1,S1,rfl,X,B,W,f1,j,ai⟩;have A:=box_bel w1 (.cells #[I6 (a:Int)] 3);have Y:=(l.out.1.made X B W f1 j).below A;have P1:=(l.out.2.tf D B);have P2:PL w v1 S1 (.slice E i F) ks (w1.alloc (.cells #[I6 (a:Int)] 3)):=⟨P1.o.below A,P1.s⟩;have z:Hid (YE T1 (a+1) N (ks++[a]) (Rx.copies e m (i+1)) (a+1)):=by
   show YE _ _ _ _ _ _;rw[Rx.copies_succ,if_neg aa];exact y.out.more l.out.1.r.w j f1
  have J:=P2.o;have P:(w1.alloc (.cells #[I6 (a:Int)] 3)).cell? (a_ w1.heap.size 0)=some (I6 (a:Int)):=by rw[Zm];rfl
  have M:=Y.f.b.size;have d:=hyd2 Y P2;go_wp2_with (first|(at_builtin;refine Bm.wpList_append_int (by rfl) _ _ (by rfl) w.heap.size (.slice E i F) _ (by rfl) J (by rw[p.out];omega) w1.heap.size (a:Int) (by rfl) P M _ rfl ?_;rw[p.out];intro g cap w5 L q O af));obtain⟨G5,P5⟩:=d.out.2.app d.out.1 D q L O;go_roundw
  ·exact⟨i+1,V+Q,ks++[a],T1,a+1,v1,S1,some (a_ g 0),cap,by omega,by go_num,rfl,G5,P5,z,by omega,Z,by show _=_;have:=p.out;simp at this;simp[this]⟩
  simp[intOf];omega
 have⟨hge,hin⟩:¬(i:Int)<n/\i=n:=by omega
 subst hin;have ag:=y.out.le;have ae:Hid (Cp 148 #[pT tb,I6 (1:Nat),(.slice E i F)] wr λe w'=>∃v2,e=.returned (I6 (N':Int))/\GS tb base T N v vr S w (Yx T' N' 1 ks (λ_=>false)) (N'+1) v2 (λk=>S' k\/(Value.slice E i F).ownBlock=some k) w'/\TF tb v' v2 S' S' wr w'):=
  G.node (K1.of u.o) (λk hk=>⟨(u.o.blk k hk).1,(u.o.blk k hk).2,(u.s k hk).1⟩) U hb 1 (by omega) (by omega) ag.2.2.1 y.out.nodup (by have:=C.out;have:=I.out;omega) (by have:=p.out;simp at this;omega)
 have HF:=hyd (Oq G.r.w y);have HB:Hid (N'+1<=N+(nQ+1)):=by
  have h2:=C.out;have h3:=I.out;show _<=_;omega
 go_wp2_with fail;refine ae.out.mono ?_;rintro ee w4 ⟨v4,rfl,G4,_⟩;go_wp2;go_ret;exact G4.post HF HB.out
theorem KQ (tb base:Nat) (T0:Nat->Nd) (N0:Nat) (v0 vr:Value) (S0:Nat->Prop) (w0:World) (T:Nat->Nd) (k:Nat) (v:Value) (S:Nat->Prop) (w:World) (e:Rx) (K:Nat) (hG:GS tb base T0 N0 v0 vr S0 w0 T (k+1) v S w) (hF:TD T (k+1) N0 k e) (aw:tb<base) (hb:base<=w0.heap.size) (hK:k+2<=N0+K) (hN:N0+K<=1000000) (st:Bool):
  Cp 182 #[pT tb,I6 (if st then 3 else 4),I6 k] w (Yt tb base T0 N0 v0 vr S0 (if st then .star e else .plus e) K w0):=by
 have hz:=Vl;obtain⟨Y,b,hU,aq,ak,R⟩:=GD hG.r.w hF.toGood st;obtain⟨E,hE⟩:=nam ((if st then Rx.star e else .plus e));rw[<-hE]at R ⊢;have aj:=hyd R;have HG:=hyd hG;have y:=hyd2 hG.r.w hF.ge;have HU:=hyd hU;obtain⟨H,z⟩:∃H:Int,H=if st then 3 else 4:=⟨_,rfl⟩
 rw[<-z];have I:Hid (H=if st || false then 3 else 4):=by show _=_;rw[z,Bool.or_false]
 have ar:(k:Int)<=1000000:=by omega
 clear hU R hE hF hG z;go_enter Tryz.func182,Tryz.ntmps182;go_wp2
 go_loopw [1,2] (λkd kv w'=>∃(s:Nat) (u:Int) (b1 b2:Bool),kd=I6 u/\kv=I6 s/\Hid (u=if st || b1 then 3 else 4)/\Hid (Rr T s Y b2)/\Hid ((b1 || b2)=b)/\s<=k/\GS tb base T0 N0 v0 vr S0 w0 T (k+1) v S w') (λ_ kv _=>(intOf kv).toNat)
 ·exact⟨k,H,false,b,rfl,rfl,I,HU,by show _=_;cases b<;>rfl,Zg _,HG⟩
 clear HU HG I;obtain⟨s,u,b1,b2,rfl,rfl,J,HU,Hb,au,G⟩:=hrel;have ae:(s:Int)<k+1:=by omega
 have hT:=G.t.tr (Zg _);obtain⟨na,nc,c0,ai⟩:=hT;obtain⟨nb,ao,x,N,h,en,r,o,il,_⟩:=ai s (by omega);subst en;obtain⟨d,hd⟩:=nam (T s);rw[<-hd]at r il;have Hd:=hyd hd;obtain⟨m,hm⟩:=nam d.kids.length;have Q:=hyd hm;have Z:=hyd G;have aa:=hyd il;clear ai hd hm il G;go_wp2_with (first|(with_reducible refine gld 118 ?_;refine X9.out ?_));refine⟨?_⟩;refine Zb rfl 118 _ rfl nb (ao+s*5) rfl (Vq d x N h) _ r u_p rfl Wx ?_
 (try simp only[psm])
 go_wp2_with (first|(with_reducible refine gst 118 ?_;refine X9.out ?_));refine⟨?_⟩;obtain⟨w2,F⟩:=nam ((wr.alloc (.cells Q1.toArray 118)).setCells wr.heap.size 0 (Vq d x N h));have U:=WW wr Q1 (Vq d x N h) 118 rfl;have T2:TC wr.heap.size (Vq d x N h) w2:=by rw[F];exact Rl U.2.2.2
 rw[<-F]at U;obtain⟨B2,_,s2,t2⟩:=U;refine Za rfl 118 _ _ rfl wr.heap.size 0 (Vq d x N h).toArray rfl rfl t2 Wx (by simp only[Vq,List.all_toArray,List.all_cons,o];rfl) ?_;rw[Zc];have M:w2=(wr.alloc (.cells #[I6 0,sN,sN,I6 0,I6 0] 118)).setCells wr.heap.size 0 (Vq d x N h):=F;rw[<-M];have ck:=(T2 0 _ rfl).1;have cK:=(T2 2 _ rfl).1;rw[<-Q.out]at cK;have i:Hid (GS tb base T0 N0 v0 vr S0 w0 T (k+1) v S w2):=Z.out.below B2;have ab:Hid (IL N (λk=>((d.kids.getD k 0:Nat):Int)) d.kids.length w2):=aa.out.below B2;clear F M t2 r T2 c0 B2 s2 ae Z aa;generalize ap:wr.heap.size=bx at *;have hU:=HU.out;have av:(m:Int)<=1000:=by
  have:=(i.out.r.k s (by omega)).2;rw[<-Hd.out,<-Q.out]at this;omega
 have g:∀(j c:Nat),d.kids[j]?=some c->∃V W,N=some (a_ V W)/\w2.cell? (a_ V (W+j))=some (I6 (c:Int)):=λj c hj=>by
  obtain⟨V,W,L,e2⟩:=ab.out j (Zi.1 hj).1;refine⟨V,W,L,?_⟩;rw[e2];simp only[Zf,hj,Option.getD_some]
 cases hU with
 |star h1 h2 hu=>
  rename_i c b3;rw[<-Hd.out]at h1 h2;have q3:((d.kind:Int)==3)=true:=by simp[h1]
  obtain⟨V,W,L,e2⟩:=g 0 c (by rw[h2];rfl);have A:m=1:=by rw[Q.out,h2];rfl
  subst L A;have af:=y.out.1 s (by omega) c (by rw[<-Hd.out,h2];simp);have HR:=hyd hu;simp only[Nat.add_zero]at e2;clear g h1 h2 hu;go_wp2;go_roundw
  ·exact⟨c,3,true,b3,rfl,rfl,by show _=_;simp,HR,by show _=_;have:=Hb.out;simp at this;simp[this],by omega,i⟩
  simp[intOf];omega
 |one h1 h2 hu=>
  rename_i c;rw[<-Hd.out]at h1 h2;have q3:((d.kind:Int)==3)=false:=by simp;omega
  obtain⟨V,W,L,e2⟩:=g 0 c (by rw[h2];rfl);have A:m=1:=by rw[Q.out,h2];rfl
  subst L A;have af:=y.out.1 s (by omega) c (by rw[<-Hd.out,h2];simp);have HR:=hyd hu;simp only[Nat.add_zero]at e2;clear g h1 h2 hu;go_wp2;go_roundw
  ·exact⟨c,u,b1,b2,rfl,rfl,J,HR,Hb,by omega,i⟩
  simp[intOf];omega
 |may h1 h2 h3 h4 hu=>
  rename_i c l b3;rw[<-Hd.out]at h1 h2;have q3:((d.kind:Int)==3)=false:=by simp;omega
  have q2:((d.kind:Int)==2)=true:=by simp[h1]
  obtain⟨V,W,L,e2⟩:=g 0 c (by rw[h2];rfl);obtain⟨am,an,X,e4⟩:=g 1 l (by rw[h2];rfl);rw[L]at X;cases X;have A:m=2:=by rw[Q.out,h2];rfl
  subst L A;have af:=y.out.1 s (by omega) c (by rw[<-Hd.out,h2];simp);have ag:=y.out.1 s (by omega) l (by rw[<-Hd.out,h2];simp);have HR:=hyd hu;have p:=JI tb T (k+1) l w2 (by omega) (by omega) (i.out.t.tr (Zg _));rw[show decide ((T l).kind=1/\(T l).kids=[])=true by simp[h3,h4]]at p;have O:=hyd p;simp only[Nat.add_zero]at e2;clear g h1 h2 hu h3 h4 p;go_wp2_with fail;refine O.out.mono ?_;rintro ee w3 ⟨rfl,rfl⟩;go_wp2;go_roundw
  ·exact⟨c,3,true,b3,rfl,rfl,by show _=_;simp,HR,by show _=_;have:=Hb.out;simp at this;simp[this],by omega,i⟩
  simp[intOf];omega
 |stop h1 h2 h3=>
  rw[<-Hd.out]at h1 h2 h3;have q3:((d.kind:Int)==3)=false:=by simp;omega
  have q1:((m:Int)==1)=false:=by rw[Q.out];simp;omega
  have C:b1=b:=by have:=Hb.out;simpa using this
  have ac:Hid (u=((if st || b then 3 else 4:Nat):Int)):=by
   show _=_;rw[J.out,C];split<;>rfl
  have B:(if st || b then 3 else 4:Nat)<=4/\(if st || b then 3 else 4:Nat)≠0:=by split<;>omega
  have n:Hid (∀w3,w3=w2->Cp 148 #[pT tb,I6 u,.slice (some (a_ w3.heap.size 0)) 1 1] (w3.alloc (.cells #[I6 (Y:Int)] 3)) (Yt tb base T0 N0 v0 vr S0 E K w0)):=λw3 X=>by
   subst X;rw[ac.out];have al:=i.out.f.b.size;refine((i.out.below (box_bel w3 (.cells #[I6 (Y:Int)] 3))).node (P:=λq=>q=w3.heap.size) (ks:=[Y]) (K1.one w3 Y 3) (λq hq=>?_) aw hb _ B.1 B.2 ?_ (by simp) (by omega) (by simp)).mono ?_
   ·subst hq;exact⟨al,by simp,λe=>by have:=(i.out.t.blk _ e).2;omega⟩
   ·simp only[ZC];rintro q rfl;exact⟨ak,by omega⟩
   rintro ee w5 ⟨v5,rfl,G5,_⟩;exact G5.post aj (by omega)
  by_cases e2:d.kind=2
  ·have q2:((d.kind:Int)==2)=true:=by simp[e2]
   by_cases em:m=2
   ·obtain⟨c,l,D⟩:∃c l,d.kids=[c,l]:=by
     have hl:=Q.out;rw[em]at hl
     match hkk:d.kids,hl with
     |[c,l],_=>exact⟨c,l,rfl⟩
    obtain⟨am,an,X,e4⟩:=g 1 l (by rw[D];rfl);subst X em;have ag:=y.out.1 Y (by omega) l (by rw[<-Hd.out,D];simp);have p:=JI tb T (k+1) l w2 (by omega) (by omega) (i.out.t.tr (Zg _));have ah:=h3 c l D e2;rw[show decide ((T l).kind=1/\(T l).kids=[])=false by rw[decide_eq_false_iff_not];exact ah]at p;have O:=hyd p;clear g h1 h2 h3 p ah D e2 B C;go_wp2_with fail;refine O.out.mono ?_;rintro ee w3 ⟨rfl,rfl⟩;go_wp2_with fail;refine(n.out w3 rfl).mono ?_;rintro ee w5 ⟨T5,n5,v5,S5,rfl,a⟩;go_wp2;go_ret;exact⟨T5,n5,v5,S5,rfl,a⟩
   have qm:((m:Int)==2)=false:=by simp;omega
   clear g h1 h2 h3 e2 B C;go_wp2_with fail;refine(n w2 rfl).mono ?_;rintro ee w5 ⟨T5,n5,v5,S5,rfl,a⟩;go_wp2;go_ret;exact⟨T5,n5,v5,S5,rfl,a⟩
  have q2:((d.kind:Int)==2)=false:=by simp;omega
  clear g h1 h2 h3 e2 B C;go_wp2_with fail;refine(n w2 rfl).mono ?_;rintro ee w5 ⟨T5,n5,v5,S5,rfl,a⟩;go_wp2;go_ret;exact⟨T5,n5,v5,S5,rfl,a⟩
theorem TW.form {M:Nat} (h:TW tb base T (N+1) M v vr S w):∃g cap,v=sL g (N+1) cap:=by
 obtain⟨m,b,_⟩:=h.o;rcases b.2 with ⟨h1,h2⟩|⟨g,cap,a,h1,_⟩
 ·omega
 exact⟨g,cap,h1⟩
theorem TW.letter (h:TW tb base (Yx T N 0 [] (λ_=>false)) (N+1) N (sL g (N+1) cap) vr S w) (aa:tb<base) (B:Nat) (Z:Yb B f w) (J:B<w.heap.size) (Y:B≠tb) (H:B≠g):
  TW tb base (Yx T N 0 [] f) (N+1) (N+1) (sL g (N+1) cap) vr (λk=>S k\/k=B) (w.setCell (a_ g (N*5+1)) (sL B 256 256)):=by
 have D:=(h.blk g rfl).1;obtain⟨m,C,u⟩:=h.o;obtain⟨w',l⟩:=nam (w.setCell (a_ g (N*5+1)) (sL B 256 256));have r:∀q,q≠g->w'.heap[q]?=w.heap[q]?:=λq b=>by rw[l];exact Zq w (a_ g (N*5+1)) _ q (λe=>b e)
 have p:w'.heap.size=w.heap.size:=by rw[l,Zz]
 have v:Wq S w w':=λq b=>r q (λe=>(h.s q b).2.2 (by rw[e];rfl))
 have n:∀i,i<N->Yx T N 0 [] f i=Yx T N 0 [] (λ_=>false) i:=λi d=>by rw[Xe d (by simp),Xe d (by simp)]
 rw[<-l];refine⟨h.c.block (r tb (by omega)),⟨⟨λi=>if i=N then sL B 256 256 else m.vin i,m.ka,m.kc⟩,?_,?_⟩,λq b=>?_⟩
 ·have:=(C.stored (N*5+1) (sL B 256 256)).1;rw[Mi (TX _ m) N 1 (by omega) (by omega),<-l]at this;rw[SV (E:=λi=>if i=N then (MT (Yx T N 0 [] (λ_=>false)) m N).set 1 (sL B 256 256) else MT (Yx T N 0 [] (λ_=>false)) m i) (λi d=>?_)]
  ·exact this
  by_cases e:i=N
  ·subst e;simp only[if_true,MT,YQ];rfl
  simp only[e,if_false,MT,n i (by omega)]
 ·refine⟨λi d=>?_,λi d w2 h2=>?_,λi d _ h0=>?_⟩
  ·by_cases e:i=N
   ·simp only[e,if_true];rfl
   simp only[e,if_false];exact u.o i d
  ·have e:(Yx T N 0 [] f i).kids=(Yx T N 0 [] (λ_=>false) i).kids:=by
    by_cases e:i=N
    ·subst e;rw[YQ,YQ]
    rw[n i (by omega)]
   rw[e];exact u.k i d w2 (v.trans (λk t=>h2 k (Or.inl t)))
  by_cases e:i=N
  ·subst e;refine⟨some (a_ B 0),256,by simp only[if_true],λw2 h2 j y=>⟨B,0,rfl,?_⟩⟩;rw[YQ,World.cell?_of_block (w:=w) (a:=(a_ B (0+j))) ((h2 B (Or.inr rfl)).trans (r B H)),Zn];exact(Z j y).1
  rw[n i (by omega)]at h0 ⊢;obtain⟨z,A,x,e2⟩:=u.i i d (by omega) h0;exact⟨z,A,by simp only[e,if_false];exact x,λw2 h2=>e2 w2 (v.trans (λk t=>h2 k (Or.inl t)))⟩
 rcases b with b|b
 ·exact⟨by rw[p];exact(h.s q b).1,(h.s q b).2⟩
 subst b;exact⟨by rw[p];exact J,Y,λe=>H (Zh e).symm⟩
theorem SW (J:V7 tb base T N v vr S 1 w) (H:TW tb base (Yx T N 0 [] (λ_=>false)) (N+1) N (sL g (N+1) cap) vr (λk=>S k\/False) w1) (tf:TF tb v (sL g (N+1) cap) S S w w1) (y:Bl w1 w2) {B:Nat} (Y:Yb B f w2) (z:B<w2.heap.size) (Z:w1.heap.size<=B) (hf:∀b,b<256->f b=F b):
  Yt tb base T N v vr S (.lit F) 1 w (.returned (I6 (N:Nat))) (w2.setCell (a_ g (N*5+1)) (sL B 256 256)):=by
 have l:=H.blk g rfl;have d:=J.b;have h:=tf.b.size;have j:=H.c.lt;refine⟨Yx T N 0 [] F,N,_,λk=>(S k\/False)\/k=B,rfl,(H.below y).letter d B (Y.congr hf) z (by omega) (by omega),(((tf.trans (TF.of _ S (by omega) y)).poke (by omega) (N*5+1) _).sub (λk a=>?_)),J.r.add (by simp) (by omega) (by simp),Kp T N F,λi e=>Xe e (by simp),Zg _⟩;rcases a with (a|a)|a
 ·exact Or.inl a
 ·exact a.elim
 exact Or.inr (by omega)
theorem KC {t:Tq} (y:UQ t) (z:t.t.kd=1):∃c w,t.t.w=c::w/\c≠40:=by
 obtain⟨c,w,b,_,_,a,_⟩:=Xb y.1;exact⟨c,w,b,λe=>by have:=a.1 e;omega⟩
theorem GC {t:Tq} (ht:UQ t) (aA:t.t.kd=1) (tb base:Nat) (s:ByteArray) (T:Nat->Nd) (N:Nat) (v vr:Value) (S:Nat->Prop) (w:World) (aB:s.data.toList=t.t.w) (hs:s.size<=40) (hp:V7 tb base T N v vr S 1 w):
  Cp 181 #[pT tb,.string s] w (Yt tb base T N v vr S (.lit t.f) 1 w):=by
 have L:=My;obtain⟨c,r0,hw,z⟩:=KC ht aA;have hd:s.data.toList.drop 0=c::r0:=by rw[Zw,aB,hw]
 obtain⟨ay,M,ap⟩:=YT hd;have aw:((s[0].toNat:Int)==40)=false:=by rw[M];exact Yn z
 have hN:=hp.n;have i:=MD tb base T N v vr S (λ_=>False) 0 (sN) [] w hp.t (K1.nil w) (λk hk=>hk.elim) (by simp) (by simp) hp.b hp.s (by omega) (by simp);have HN:=hyd i;have HP:=hyd hp;obtain⟨F,hF⟩:=nam t.f;have al:Hid (QJ (c::r0) F):=by show QJ _ _;rw[<-hw,hF];exact ht.2.1 aA
 rw[<-hF];have W:Hid (s.data.toList=c::r0):=by show _=_;rw[aB,hw]
 have d:=hyd M;clear i hp hF aB hd ap ht aA hw z M;go_enter Tryz.func181,Tryz.ntmps181;go_wp2_with fail;refine HN.out.mono ?_;rintro ee w1 ⟨v1,rfl,r,ai⟩;obtain⟨g,cap,rfl⟩:=r.form;have Q:=hyd2 r ai;have E:Hid (∀w2,Bl w1 w2->w2.cell? (a_ tb 0)=some (sL g (N+1) cap)/\(∃u,w2.cell? (a_ g (N*5+1))=some u)/\w2.frozen? (a_ g (N*5+1))=false):=λw2 h=>by
  have t2:=r.below h;obtain⟨m,o1,_⟩:=t2.o;refine⟨(t2.c 0 _ rfl).1,⟨m.vin N,?_⟩,o1.frozenAt _⟩;rw[o1.cellAt _ (by omega),U4 (TX _ _) N 1 (by omega) (by omega)];rfl
 clear r ai HN;have az:(N:Int)<N+1:=by omega
 rcases al with ⟨Y,hf⟩|⟨c',v',r',G,ag,ah,au,A,hf⟩|⟨e,G,C⟩
 ·have X:((s[0].toNat:Int)==46)=true:=by rw[d.out,(List.cons.inj Y).1];rfl
  have Hf:=hyd hf;clear Y hf;go_wp2;clear L
  go_loopw [7] (λx w'=>∃b:Nat,b<=256/\x=I6 b/\Yb w1.heap.size (λy=>decide (y<b)&&(y != 10)) w'/\Bl w1 w'/\w1.heap.size<w'.heap.size) (λx _=>256-(intOf x).toNat)
  ·exact⟨0,by omega,rfl,(Yb.blank w1 _).congr (λy _=>by simp),(Zk _ _).alloc (Zg _) _,by simp⟩
  obtain⟨b,hb,rfl,a,R,ae⟩:=hrel;by_cases ac:b<256
  ·have av:(b:Int)<256:=by omega
   obtain⟨j,ao⟩:=a b ac;have h:=a.set b ac (b != 10);have an:((b:Int) != 10)=(b != 10):=by
    by_cases e:b=10
    ·subst e;rfl
    rw[bne_iff_ne.2 e,bne_iff_ne.2 (show(b:Int)≠10 by omega)]
   obtain⟨V,hV⟩:=nam ((b != 10));rw[<-hV]at h an;have HV:=hyd hV;have aj:=hyd h;clear hV a h;go_wp2;go_roundw
   ·refine⟨b+1,by omega,by go_num,aj.out.congr (λy _=>?_),R.trans (Yp _ _ _ _),by rw[Zz];exact ae⟩;by_cases e1:y=b
    ·subst e1;simp[HV.out]
    by_cases e2:y<b
    ·simp[e1,e2,Nat.lt_succ_of_lt e2]
    simp[e1,e2,show ¬y<b+1 by omega]
   simp[intOf];omega
  have ax:¬(b:Int)<256:=by omega
  obtain⟨k0,⟨u1,k1⟩,k2⟩:=E.out wr R;have U:=hyd a;have ak:Hid (b=256):=by show _=_;omega
  clear a;go_wp2;go_ret;exact SW HP.out Q.out.1 Q.out.2 R U.out ae (Zg _) (λy hy=>by rw[Hf.out y hy,ak.out];simp[hy])
 ·have j:=(List.cons.inj G).1;have X:((s[0].toNat:Int)==46)=false:=by rw[d.out,j];exact Yn ag
  have am:((s[0].toNat:Int)==91)=false:=by rw[d.out,j];exact Yn ah
  have h1:=A [];rw[List.append_nil]at h1;obtain⟨v0,v1,_,_⟩:=Rf.one_bd h1;obtain⟨vn,rfl⟩:∃vn:Nat,v'=vn:=⟨v'.toNat,by omega⟩;have af:vn<256:=by omega
  have HO:Hid (∀w2,Cp 159 #[.string s,I6 (0:Nat)] w2 λe w'=>e=.returned (.tuple #[I6 (vn:Int),I6 ((0+(c::r0).length:Nat):Int)])/\∃q,w'=w2.drewN q):=λw2=>Iu s 0 vn _ w2 hs (by rw[Zw,W.out];exact h1)
  have Hf:=hyd hf;clear G ag ah au A hf h1 j;go_wp2_with fail;refine(HO _).mono ?_;rintro ee w2 ⟨rfl,q,rfl⟩;have l:Yb w1.heap.size (λ_=>false) ((w1.alloc (.cells blank 4)).drewN q):=(Yb.blank w1 _).drewN q;have ab:Bl w1 ((w1.alloc (.cells blank 4)).drewN q):=((Zk _ _).alloc (Zg _) _).trans (WL _ _ _);obtain⟨w3,P⟩:=nam ((w1.alloc (.cells blank 4)).drewN q);have aq:w1.heap.size<w3.heap.size:=by rw[P];simp
  rw[<-P]at l ab ⊢;obtain⟨j,ao⟩:=l vn af;have H:=l.set vn af true;have I:Bl w1 (w3.setCell (a_ w1.heap.size vn) (.bool true)):=ab.trans (Yp _ _ _ _);obtain⟨w4,p⟩:=nam (w3.setCell (a_ w1.heap.size vn) (.bool true));have ar:w1.heap.size<w4.heap.size:=by rw[p,Zz];exact aq
  rw[<-p]at H I;obtain⟨k0,⟨u1,k1⟩,k2⟩:=E.out w4 I;have U:=hyd H;have H4:=hyd p;clear l H P p L;go_wp2_with (first|(with_reducible refine gld 114 ?_;refine X9.out ?_));refine⟨?_⟩;rw[<-H4.out];go_wp2;go_ret;exact SW HP.out Q.out.1 Q.out.2 I U.out ar (Zg _) (λy hy=>by
   rw[Hf.out y hy];by_cases e:y=vn
   ·simp[e]
   have:¬(y:Int)=(vn:Int):=by omega
   simp[e,this])
 have X:((s[0].toNat:Int)==46)=false:=by rw[d.out,(List.cons.inj G).1];rfl
 have am:((s[0].toNat:Int)==91)=true:=by rw[d.out,(List.cons.inj G).1];rfl
 obtain⟨fa,O⟩:=C [] 0;rw[List.append_nil]at O;have HO:Hid (∀w2,Cp 160 #[.string s,I6 (0:Nat)] w2 λe' w'=>e'=.returned (.tuple #[.slice (some (a_ w2.heap.size 0)) 256 256,I6 ((0+(e.length+1):Nat):Int),I6 fa])/\Yb w2.heap.size F w'/\Bl w2 w'):=λw2=>Iy s 0 _ fa F w2 hs (by rw[W.out,G];exact O)
 clear G C O;go_wp2_with fail;refine(HO _).mono ?_;rintro ee w2 ⟨rfl,a,J⟩;have K:=box_bel w1 (.cells blank 4);have R:=K.trans (J.mono K.size);have hs2:=J.size;have D:(w1.alloc (.cells blank 4)).heap.size=w1.heap.size+1:=by simp
 obtain⟨B,Z⟩:=nam ((w1.alloc (.cells blank 4)).heap.size);rw[<-Z]at a hs2 D ⊢;obtain⟨k0,⟨u1,k1⟩,k2⟩:=E.out w2 R;have U:=hyd a;have aa:B<w2.heap.size:=Ze w2 _ (a 0 (by omega)).1;clear a Z J K L;go_wp2;go_ret;have a:=U.out;rw[D]at a aa;exact SW HP Q.out.1 Q.out.2 R a aa (by omega) (λy hy=>rfl)
theorem DS {f:Nat} (h:Pp f 0 ts e) (hz:e.sz=0):e=.eps:=by
 cases f with
 |zero=>exact absurd h (by simp[Pp])
 |succ f=>
  have c:∀x:Rx,x.nz.sz=0->x.nz=.eps:=λx d=>by
   rw[Rx.nz_sz]at d;unfold Rx.nz;rw[if_pos d]
  rcases h with ⟨q,_,_,_,rfl⟩|⟨a,inn,b,e0,_,_,_,_,_,_,rfl⟩|⟨q,t,e0,_,_,_,_,rfl⟩
  ·simp[Rx.sz]at hz
  ·exact c _ hz
  exact c _ hz
variable {ee:Ending}{e':Rx}
theorem Yt.eq (h:Yt tb base T N v vr S e K w ee w') (he:XZ e e') (hK:K<=K'):Yt tb base T N v vr S e' K' w ee w':=by
 obtain⟨T',n,v',S',h1,h2,h3,a,b,c,d⟩:=h;exact⟨T',n,v',S',h1,h2,h3,a,b.eq he,c,by omega⟩
theorem V7.less (h:V7 tb base T N v vr S K w) (hK:K'<=K):V7 tb base T N v vr S K' w:=⟨h.t,h.r,h.b,h.s,by have:=h.n;omega⟩
theorem V7.below (h:V7 tb base T N v vr S K w) (hW:Bl w w'):V7 tb base T N v vr S K w':=⟨h.t.below hW,h.r,h.b,by have:=hW.size;have:=h.s;omega,h.n⟩
theorem Yt.from (h:Yt tb base T N v vr S e K w1 ee w') (hW:Bl w w1) (ht:tb<w.heap.size):Yt tb base T N v vr S e K w ee w':=by
 obtain⟨T',n,v',S',h1,h2,h3,a,b,c,d⟩:=h;exact⟨T',n,v',S',h1,h2,(TF.of v S (by omega) hW).trans h3,a,b,c,d⟩
theorem KS {f:Nat} (h:Pp f 0 ts e) (hz:e.sz=0):Nl ts e:=by
 intro tb base s T N v vr S w d hs g;obtain⟨G,j⟩:=LH h;have y:1<=s.size:=by
  have:=LG h;rw[<-d]at this;simpa using this
 have h3:=Lw (P:=e.sz) y;obtain⟨K,m⟩:=nam (WK s.size e.sz);rw[<-m]at g h3 ⊢;have u:=DS h hz;subst u;rw[<-d]at j;have HS:=hyd ((Pd G).2 s _ w hs j);have l:=hyd g;have A:=g.n;have z:=g.t.c.lt;clear h j d m hz g;go_enter Tryz.func147,Tryz.ntmps147;go_wp2_with fail;refine HS.out.mono ?_;rintro ee w1 ⟨rfl,o⟩;have a:=l.out.below o;have i:=hyd ((GS.first a).node (P:=λ_=>False) (K1.nil w1) (λk x=>x.elim) a.b a.s 1 (by omega) (by omega) (by simp) (by simp) (by omega) (by simp));have q:=hyd (JX T N a.r.w);clear a HS l;go_wp2_with fail;refine i.out.mono ?_;rintro ee w2 ⟨v2,rfl,p,_⟩;go_wp2;go_ret;exact(p.post q (by omega)).from o z
theorem EO {f:Nat}{inn:List Tq} (hPt:Dn inn e) (tb base:Nat) (s:ByteArray) (T:Nat->Nd) (N:Nat) (v vr:Value) (S:Nat->Prop) (w:World) (hts:s.data.toList=40::(tx inn++[41])) (hs:s.size<=40) (hp:V7 tb base T N v vr S (WK s.size e.sz) w) (_h:Pp f 2 inn e):
  Cp 181 #[pT tb,.string s] w (Yt tb base T N v vr S e (WK s.size e.sz) w):=by
 have k:s.data.toList.drop 0=40::(tx inn++[41]):=by rw[Zw,hts]
 obtain⟨p,d,i⟩:=YT k;have o:((s[0].toNat:Int)==40)=true:=by rw[d];rfl
 have a:s.size=(tx inn).length+2:=by
  have:s.data.toList.length=(tx inn).length+2:=by rw[hts];simp
  simpa using this
 have h2:1<=s.size-1:=by omega
 have j:(s.extract 1 (s.size-1)).data.toList=tx inn:=by
  rw[Uk,hts,a,show(tx inn).length+2-1=(tx inn).length+1 by omega,ZK,ZL,Zw,List.take_left]
 have c:(s.extract 1 (s.size-1)).size=s.size-2:=by
  have:(s.extract 1 (s.size-1)).data.toList.length=(tx inn).length:=by rw[j]
  have r:(s.extract 1 (s.size-1)).size=(tx inn).length:=by simpa using this
  omega
 have g:WK (s.size-2) e.sz+2<=WK s.size e.sz:=by
  have:=Pj (L:=s.size-2) (t:=2) (P:=e.sz) (by omega);rw[show s.size-2+2=s.size by omega]at this;exact this
 have l:Hid (Cp 91 #[pT tb,.string (s.extract 1 (s.size-1))] w (Yt tb base T N v vr S e (WK s.size e.sz) w)):=by
  refine(hPt tb base _ T N v vr S w j (by omega) (by rw[c];exact hp.less g)).mono ?_;intro ee w' h;rw[c]at h;exact h.eq (XZ.refl _) g
 generalize WK s.size e.sz=K at *;clear hPt hts k d i j c g hp a;go_enter Tryz.func181,Tryz.ntmps181;go_wp2_with fail;refine l.out.mono ?_;rintro ee w1 ⟨n,q,v5,m,rfl,b⟩;go_wp2;go_ret;exact⟨n,q,v5,m,rfl,b⟩
theorem P4 {f:Nat} (h:Pp f 0 ts e) (hz:e.sz≠0) (hsp:Rf.split (tx ts)=some (tx ts).length)
  (hA:∀(tb base:Nat) (s:ByteArray) (T:Nat->Nd) (N:Nat) (v vr:Value) (S:Nat->Prop) (w:World),s.data.toList=tx ts->s.size<=40->V7 tb base T N v vr S (WK s.size e.sz) w->Cp 181 #[pT tb,.string s] w (Yt tb base T N v vr S e (WK s.size e.sz) w)):Nl ts e:=by
 intro tb base s T N v vr S w b hs o;obtain⟨G,n⟩:=LH h;rw[<-b]at n hsp;have j:s.data.toList.length=s.size:=by simp
 rw[j]at hsp;have HS:=hyd ((Pd G).2 s _ w hs n);have p:Hid (∀w',Bl w w'->Cp 181 #[pT tb,.string s] w' (Yt tb base T N v vr S e (WK s.size e.sz) w')):=λw' d=>hA tb base s T N v vr S w' b hs (o.below d)
 have u:=o.t.c.lt;generalize WK s.size e.sz=K at *;obtain⟨z,k⟩:=nam e.sz;rw[<-k]at HS hz;have y:((z:Int)==0)=false:=by simp;omega
 have m:=hyd hsp;clear h n b o hA k hsp;go_enter Tryz.func147,Tryz.ntmps147;go_wp2_with fail;refine HS.out.mono ?_;rintro ee w1 ⟨rfl,d⟩;go_wp2_with fail;refine(Uu s _ _ hs m).mono ?_;rintro ee w2 ⟨rfl,g⟩;have i:=d.trans (g.mono d.size);have l:=hyd (p w2 i);clear p d g;go_wp2_with fail;refine l.out.mono ?_;rintro ee A ⟨r,x,v5,q,rfl,a⟩;go_wp2;go_ret;exact Yt.from ⟨r,x,v5,q,rfl,a⟩ i u
theorem Hk {t:Tq} (y:UQ t) (hs:Yc t.t):∃c r,t.t.w=c::r/\((c=42/\t.t.kd=5)\/(c=43/\t.t.kd=6)\/(c=63/\t.t.kd=7)\/(c=123/\t.t.kd=8)):=by
 unfold Yc at hs;rcases y.1 with h|h|h|h|h|h|h|h
 ·exact absurd h.1 (by omega)
 ·exact absurd h.1 (by omega)
 ·exact absurd h.1 (by omega)
 ·exact absurd h.1 (by omega)
 ·exact⟨42,[],h.2,Or.inl ⟨rfl,h.1⟩⟩
 ·exact⟨43,[],h.2,Or.inr (Or.inl ⟨rfl,h.1⟩)⟩
 ·exact⟨63,[],h.2,Or.inr (Or.inr (Or.inl ⟨rfl,h.1⟩))⟩
 rcases h.2 with ⟨x,a,_⟩|⟨x,z,a,_⟩
 ·exact⟨123,_,a,Or.inr (Or.inr (Or.inr ⟨rfl,h.1⟩))⟩
 exact⟨123,_,a,Or.inr (Or.inr (Or.inr ⟨rfl,h.1⟩))⟩
theorem IM {t:Tq} (z:UQ t) (y:t.t.kd=8):3<=t.t.w.length/\Rf.most t.t.w=some t.t.mo/\Cb t.t.w t.le/\0<=t.t.mo/\t.t.mo<=9/\0<=t.le/\t.le<=9:=by
 have e:=(NY z.1 y).2;have h1:=NZ e;obtain⟨a,b,c⟩:=Rf.most_bd h1;have d:=z.2.2 y;obtain⟨x,r,_,f,g,h⟩:=z.2.2 y;exact⟨c,h1,d,a,b,by omega,by omega⟩
variable {e0:Rx}
theorem Jm {f:Nat}{q:List Tq}{t:Tq} (hq:Pp f 0 q e0) (ht:UQ t) (az:Yc t.t) (ay:Nl q e0) (h:Pp (f+1) 0 (q++[t]) (Rx.suf t.t.kd t.le.toNat t.t.mo.toNat e0).nz) (hz:(Rx.suf t.t.kd t.le.toNat t.t.mo.toNat e0).nz.sz≠0):Nl (q++[t]) (Rx.suf t.t.kd t.le.toNat t.t.mo.toNat e0).nz:=by
 have ak:(Rx.suf t.t.kd t.le.toNat t.t.mo.toNat e0).nz=Rx.suf t.t.kd t.le.toNat t.t.mo.toNat e0:=by
  rw[Rx.nz_sz]at hz;unfold Rx.nz;rw[if_neg hz]
 intro tb base s T N v vr S w r hs hp;obtain⟨G,hG⟩:=LH h;rw[ak]at hG hz hp ⊢;have ab:tx (q++[t])=tx q++t.t.w:=by rw[Vk,SE,L7,List.append_nil]
 rw[ab]at r;have M:=Fm hq ht az;rw[<-r]at M;obtain⟨a,l⟩:=nam ((tx q).length);rw[<-l]at M;obtain⟨c,us,V,ap⟩:=Hk ht az;have hx:(s.extract 0 a).data.toList=tx q:=by rw[EE,r,l,List.take_left]
 have hu:(s.extract a s.size).data.toList=t.t.w:=by rw[SU,r,l,List.drop_left]
 have al:s.size=a+t.t.w.length:=by
  have:s.data.toList.length=a+t.t.w.length:=by rw[r,Zl,l]
  simpa using this
 have ao:(s.extract 0 a).size=a:=by
  have:(s.extract 0 a).data.toList.length=a:=by rw[hx,l]
  simpa using this
 have p:Hid (∀w',Cp 164 #[.string s] w' λe w''=>e=.returned (.tuple #[.string (s.extract 0 a),.string (s.extract a s.size)])/\Bl w' w''):=λw'=>Uu s a w' hs M
 have aq:0<(s.extract a s.size).size:=by
  have:(s.extract a s.size).data.toList.length=us.length+1:=by rw[hu,V];rfl
  simp at this;simp;omega
 have i:(s.extract a s.size)[0]=c:=by
  have:=NO (s.extract a s.size) 0 aq;rw[this,hu,V];rfl
 have ax:(s.extract a s.size).toList.isEmpty=false:=by rw[ByteArray.toList_eq,hu,V];rfl
 have an:(s.extract a s.size).size<=40:=WM s _ _ hs;have B:(s.extract 0 a).size<=40:=WM s _ _ hs;rw[<-ab]at r;rw[<-r]at hG;have HS:=hyd ((Pd G).2 s _ w hs hG);have O:=hp.t.c.lt;have D:=hyd hp;generalize s.extract a s.size=ub at *;generalize s.extract 0 a=xb at *;obtain⟨z,ae⟩:=nam ((Rx.suf t.t.kd t.le.toNat t.t.mo.toNat e0).sz);rw[<-ae]at HS D hz ⊢;have aw:((z:Int)==0)=false:=by simp;omega
 have C:=hyd ae;obtain⟨K,hK⟩:=nam (WK s.size z);have R:=hyd hK;rw[<-hK]at D ⊢;have x:=hyd3 hx ao al;have Hu:=hyd hu;have ac:1<=t.t.w.length:=by rw[V];simp
 have ag:=D.out.n;have am:=D.out.b;clear h hG r hp M hx hu al ao ab ak hK ae l;rcases ap with ⟨rfl,y⟩|⟨rfl,y⟩|⟨rfl,y⟩|⟨rfl,y⟩
 ·have b1:((ub[0].toNat:Int)==42)=true:=by rw[i];rfl
  have b2:((ub[0].toNat:Int)==43)=false:=by rw[i];rfl
  have U:Rx.suf t.t.kd t.le.toNat t.t.mo.toNat e0=.star e0:=by unfold Rx.suf;rw[if_pos y]
  rw[U]at C ⊢;have o:WK xb.size e0.sz+1<=K:=by
   have:=Pj (L:=xb.size) (P:=e0.sz) ac;rw[R.out,C.out,x.out.2.2,<-x.out.2.1];show _<=WK _ e0.sz;omega
  have E:Hid (∀w',Bl w w'->Cp 147 #[pT tb,.string xb] w' (Yt tb base T N v vr S e0 (WK xb.size e0.sz) w')):=λw' j=>ay tb base xb T N v vr S w' x.out.1 B ((D.out.below j).less (by omega))
  generalize WK xb.size e0.sz=Kx at *;clear i R C x Hu V ay hq ht az;go_enter Tryz.func147,Tryz.ntmps147;go_wp2_with fail;refine HS.out.mono ?_;rintro ee w1 ⟨rfl,j⟩;go_wp2_with fail;refine(p _).mono ?_;rintro ee w2 ⟨rfl,k⟩;have d:=j.trans (k.mono j.size);have m:=hyd (E w2 d);clear E HS p j k;go_wp2_with fail;refine m.out.mono ?_;rintro ee w4 ⟨T4,n4,v4,S4,rfl,J,H,I,Y,u,av⟩;have HL:Hid (Cp 182 #[pT tb,I6 3,I6 n4] w4 (Yt tb base T N v vr S (.star e0) K w2)):=
   KQ tb base T N v vr S w2 T4 n4 v4 S4 w4 e0 K ((GS.first (D.out.below d)).made J H I Y u) Y am (D.out.below d).s (by omega) ag true
  clear J H I Y u m;go_wp2_with fail;refine HL.out.mono ?_;rintro ee w5 ⟨X,n5,v5,W,rfl,g⟩;go_wp2;go_ret;exact Yt.from ⟨X,n5,v5,W,rfl,g⟩ d O
 ·have b1:((ub[0].toNat:Int)==42)=false:=by rw[i];rfl
  have b2:((ub[0].toNat:Int)==43)=true:=by rw[i];rfl
  have U:Rx.suf t.t.kd t.le.toNat t.t.mo.toNat e0=.plus e0:=by unfold Rx.suf;rw[g_,if_pos y]
  rw[U]at C ⊢;have o:WK xb.size e0.sz+1<=K:=by
   have:=Pj (L:=xb.size) (P:=e0.sz) ac;rw[R.out,C.out,x.out.2.2,<-x.out.2.1];show _<=WK _ e0.sz;omega
  have E:Hid (∀w',Bl w w'->Cp 147 #[pT tb,.string xb] w' (Yt tb base T N v vr S e0 (WK xb.size e0.sz) w')):=λw' j=>ay tb base xb T N v vr S w' x.out.1 B ((D.out.below j).less (by omega))
  generalize WK xb.size e0.sz=Kx at *;clear i R C x Hu V ay hq ht az;go_enter Tryz.func147,Tryz.ntmps147;go_wp2_with fail;refine HS.out.mono ?_;rintro ee w1 ⟨rfl,j⟩;go_wp2_with fail;refine(p _).mono ?_;rintro ee w2 ⟨rfl,k⟩;have d:=j.trans (k.mono j.size);have m:=hyd (E w2 d);clear E HS p j k;go_wp2_with fail;refine m.out.mono ?_;rintro ee w4 ⟨T4,n4,v4,S4,rfl,J,H,I,Y,u,av⟩;have HL:Hid (Cp 182 #[pT tb,I6 4,I6 n4] w4 (Yt tb base T N v vr S (.plus e0) K w2)):=
   KQ tb base T N v vr S w2 T4 n4 v4 S4 w4 e0 K ((GS.first (D.out.below d)).made J H I Y u) Y am (D.out.below d).s (by omega) ag false
  clear J H I Y u m;go_wp2_with fail;refine HL.out.mono ?_;rintro ee w5 ⟨X,n5,v5,W,rfl,g⟩;go_wp2;go_ret;exact Yt.from ⟨X,n5,v5,W,rfl,g⟩ d O
 ·have b1:((ub[0].toNat:Int)==42)=false:=by rw[i];rfl
  have b2:((ub[0].toNat:Int)==43)=false:=by rw[i];rfl
  have b3:((ub[0].toNat:Int)==63)=true:=by rw[i];rfl
  have U:Rx.suf t.t.kd t.le.toNat t.t.mo.toNat e0=.opt e0:=by unfold Rx.suf;rw[g_,g_,if_pos y]
  rw[U]at C ⊢;have o:WK xb.size e0.sz+2<=K:=by
   have:=Pj (L:=xb.size) (P:=e0.sz) ac;rw[R.out,C.out,x.out.2.2,<-x.out.2.1];exact this
  have E:Hid (∀w',Bl w w'->Cp 183 #[pT tb,.string xb] w' (Yt tb base T N v vr S (.opt e0) K w')):=λw' j=>(Ku ay tb base xb T N v vr S w' x.out.1 B ((D.out.below j).less o)).mono (λee w'' h=>h.eq (XZ.refl _) o)
  clear i R C x Hu V ay hq ht az o;go_enter Tryz.func147,Tryz.ntmps147;go_wp2_with fail;refine HS.out.mono ?_;rintro ee w1 ⟨rfl,j⟩;go_wp2_with fail;refine(p _).mono ?_;rintro ee w2 ⟨rfl,k⟩;have d:=j.trans (k.mono j.size);have m:=hyd (E w2 d);clear E HS p j k;go_wp2_with fail;refine m.out.mono ?_;rintro ee w5 ⟨X,n5,v5,W,rfl,g⟩;go_wp2;go_ret;exact Yt.from ⟨X,n5,v5,W,rfl,g⟩ d O
 have b1:((ub[0].toNat:Int)==42)=false:=by rw[i];rfl
 have b2:((ub[0].toNat:Int)==43)=false:=by rw[i];rfl
 have b3:((ub[0].toNat:Int)==63)=false:=by rw[i];rfl
 have U:Rx.suf t.t.kd t.le.toNat t.t.mo.toNat e0=Rx.rowOf (Rx.copies e0 t.le.toNat t.t.mo.toNat):=by unfold Rx.suf;rw[g_,g_,g_]
 rw[U]at C ⊢;obtain⟨l3,A,F,m0,m9,ar,au⟩:=IM ht y;obtain⟨mo,aa⟩:∃mo:Nat,t.t.mo=mo:=⟨t.t.mo.toNat,by omega⟩;obtain⟨le,Z⟩:∃le:Nat,t.le=le:=⟨t.le.toNat,by omega⟩;rw[aa]at A m9 m0;rw[Z]at F au ar;rw[aa,Z,ZE,ZE]at C ⊢;have o:mo*(WK xb.size e0.sz+2)+1<=K:=by
  have Q:=C.out;rw[Rx.copies_sz]at Q;have aj:1<=mo/\1<=e0.sz:=by
   rcases Nat.eq_zero_or_pos mo with h0|h0
   ·rw[h0,Nat.zero_mul]at Q;omega
   rcases Nat.eq_zero_or_pos e0.sz with h1|h1
   ·rw[h1,Nat.mul_zero]at Q;omega
   exact⟨h0,h1⟩
  have:=GG (L:=xb.size) l3 aj.2 aj.1;rw[R.out,Q,x.out.2.2,<-x.out.2.1];exact this
 have E:Hid (∀w',Bl w w'->Cp 184 #[pT tb,.string xb,I6 le,I6 mo] w' (Yt tb base T N v vr S (Rx.rowOf (Rx.copies e0 le mo)) K w')):=λw' j=>(KH ay le mo (by omega) (by omega) tb base xb T N v vr S w' x.out.1 B ((D.out.below j).less o)).mono (λee w'' h=>h.eq (XZ.refl _) o)
 have af:Hid (∀w',Cp 165 #[.string ub] w' λe w''=>e=.returned (.tuple #[I6 le,I6 mo])/\Bl w' w''):=λw'=>JQ ub mo le w' an (by rw[Hu.out];exact A) (by rw[Hu.out];exact F)
 clear i R C x Hu V ay hq ht az o A F aa Z U;go_enter Tryz.func147,Tryz.ntmps147;go_wp2_with fail;refine HS.out.mono ?_;rintro ee w1 ⟨rfl,j⟩;go_wp2_with fail;refine(p _).mono ?_;rintro ee w2 ⟨rfl,k⟩;have d:=j.trans (k.mono j.size);clear HS p j k;go_wp2_with fail;refine(af _).mono ?_;rintro ee w3 ⟨rfl,ah⟩;have ai:=d.trans (ah.mono d.size);have m:=hyd (E w3 ai);clear E af d ah;go_wp2_with fail;refine m.out.mono ?_;rintro ee w5 ⟨X,n5,v5,W,rfl,g⟩;go_wp2;go_ret;exact Yt.from ⟨X,n5,v5,W,rfl,g⟩ ai O
theorem Fl (h:Pp g 1 ts e):∃(y:Nat) (L:List (List Tq × Rx)),y<g/\ts=((L.map (·.1)).flatten)/\(∀x∈L,Pp y 0 x.1 x.2)/\e=Rx.rowOf (L.map (·.2)):=by
 cases g with
 |zero=>exact absurd h (by simp[Pp])
 |succ g=>
  obtain⟨L,h1,h2,h3⟩:=h;exact⟨g,L,by omega,h1,h2,h3⟩
theorem DR (h:Pp g 2 ts e):∃(y:Nat) (L:List (List Tq × Rx)) (rest:List UInt8),y<g/\tx ts=tx ((L.map (·.1)).flatten)++rest/\(∀x∈L,Pp y 0 x.1 x.2)/\((rest=[]/\e=Rx.rowOf (L.map (·.2)))\/∃q e2 g2,g2<g/\rest=124::tx q/\Pp g2 2 q e2/\e=.alt (Rx.rowOf (L.map (·.2))) e2):=by
 cases g with
 |zero=>exact absurd h (by simp[Pp])
 |succ g=>
  rcases h with h|⟨r,b,q,f,e2,rfl,h2,h3,c,d,rfl⟩
  ·obtain⟨y,L,k1,rfl,a,rfl⟩:=Fl h;exact⟨y,L,[],by omega,by simp,a,Or.inl ⟨rfl,rfl⟩⟩
  obtain⟨y,L,k1,rfl,a,rfl⟩:=Fl c;exact⟨y,L,124::tx q,by omega,by rw[Vk,SE,Ch h2 h3];rfl,a,Or.inr ⟨q,e2,g,by omega,rfl,d,rfl⟩⟩
theorem PL.keep (h:PL w0 v S vk ks w) (y:w.grownBy w5 row) (z:∀k,vk.ownBlock=some k->row≠some k):PL w0 v S vk ks w5:=⟨h.o.grown y z,h.s⟩
theorem PL.below (h:PL w0 v S vk ks w) (y:Bl w w5):PL w0 v S vk ks w5:=⟨h.o.below y,h.s⟩
theorem EL (l:List Rx) (e:Rx):(l.foldr .alt e).sz=(l.map Rx.sz).sum+e.sz:=by
 induction l with
 |nil=>simp
 |cons x l ih=>simp only[List.foldr_cons,Rx.sz,ih,List.map_cons,List.sum_cons];omega
def Cr:Value->Nat
 |.string b=>b.size
 |_=>0
structure BC (tb base:Nat) (T:Nat->Nd) (N:Nat) (v vr:Value) (S:Nat->Prop) (w:World) (f P Kt L:Nat) (e:Rx) (p:ByteArray) (vw:Value) (rs:List Nat) (es:List Rx) (T':Nat->Nd) (N':Nat) (v':Value) (S':Nat->Prop) (w':World):Prop where
 gs:GS tb base T N v vr S w T' N' v' S' w'
 pl:PL w v' S' vw rs w'
 ch:YE T' N' N rs es N'
 fi:YE.FineL T' rs es
 tk:∃g ts e',g<=f/\p.data.toList=tx ts/\Pp g 2 ts e'/\es.foldr .alt e'=e
 ln:p.size<=40
 bd:N'+WK p.size P<=N+Kt
 nr:rs.length+p.size<=L
structure C8 (tb base:Nat) (T:Nat->Nd) (N:Nat) (v vr:Value) (S:Nat->Prop) (w:World) (P i:Nat) (A:List (List Tq × Rx)) (T':Nat->Nd) (N':Nat) (vw:Value) (rs:List Nat) (vk:Value) (ks:List Nat) (T2:Nat->Nd) (N2:Nat) (v2:Value) (S2:Nat->Prop) (w2:World):Prop where
 gs:GS tb base T N v vr S w T2 N2 v2 S2 w2
 pk:PL w v2 S2 vk ks w2
 pr:PL w v2 S2 vw rs w2
 ds:∀k,vw.ownBlock=some k->vk.ownBlock≠some k
 ch:YE T2 N2 N' ks (A.map (·.2)) N2
 od:∀j,j<N'->T2 j=T' j
 ix:i=(tx ((A.map (·.1)).flatten)).length
 bd:N2<=N'+WK i P
 le:N'<=N2
variable {T':Nat->Nd}
theorem C8.first (P:Nat) (g:GS tb base T N v vr S w T' N' v' S' w') (p:PL w v' S' vw rs w'):C8 tb base T N v vr S w P 0 [] T' N' vw rs (sN) [] T' N' v' S' w':=
 ⟨g,PL.nil _ _ _ _,p,λk _ e=>(by cases e),YE.nil N',λ_ _=>rfl,rfl,by omega,Zg _⟩
theorem C8.more {tb base:Nat}{T:Nat->Nd}{N:Nat}{v vr:Value}{S:Nat->Prop}{w:World}{P i:Nat}{A:List (List Tq × Rx)}{T':Nat->Nd}{N':Nat}{vw:Value}{rs:List Nat}{vk:Value}{ks:List Nat}{T2:Nat->Nd}{H:Nat}{v2:Value}{S2:Nat->Prop}{w2:World} (h:C8 tb base T N v vr S w P i A T' N' vw rs vk ks T2 H v2 S2 w2) (y:tb<w.heap.size)
  {x:List Tq × Rx}{z:Nat->Nd}{n:Nat}{v3:Value}{J:Nat->Prop}{w3 w4 w5:World} (h1:TW tb base z (n+1) (n+1) v3 vr J w3) (h2:TF tb v2 v3 S2 J w2 w3) (h3:JE z (n+1)) (Y:TD z (n+1) H n x.2) (Z:∀i,i<H->z i=T2 i) (h6:n+1<=H+WK (tx x.1).length P) (hW:Bl w3 w4)
  {g len cap:Nat} (hg:w4.grownBy w5 vk.ownBlock) (ho:OwnL w.heap.size (sL g len cap) (ks.map (λx:Nat=>(x:Int))++[(n:Int)]) w5) (hb:vk.ownBlock=some g\/g=w4.heap.size):
  C8 tb base T N v vr S w P (i+(tx x.1).length) (A++[x]) T' N' vw rs (sL g len cap) (ks++[n]) z (n+1) v3 J w5:=by
 have d:=(h.gs.made h1 h2 h3 Y Z).below hW;have f:=(h.pk.tf y h2).below hW;have b:=(h.pr.tf y h2).below hW;obtain⟨G5,l⟩:=f.app d y hg ho hb;refine⟨G5,l,b.keep hg (λk a e=>h.ds k a e),λk a e=>?_,?_,λj m=>?_,?_,?_,?_⟩
 ·have e':g=k:=Zh e;rcases hb with c|c
  ·exact h.ds k a (e'▸c)
  have:=(b.o.blk k a).2;omega
 ·rw[List.map_append];exact h.ch.more h.gs.r.w Z Y
 ·rw[Z j (by have:=h.le;omega)];exact h.od j m
 ·rw[h.ix,List.map_append,List.flatten_append,Vk,Zl];simp
 ·have:=h.bd;rw[QX];omega
 have:=h.le;have:=Y.ge;omega
theorem ER {p:ByteArray}{L:List (List Tq × Rx)}{A B:List (List Tq × Rx)}{x:List Tq × Rx}{rest:List UInt8} (hp:p.data.toList=tx ((L.map (·.1)).flatten)++rest) (hL:L=A++x::B) {i n:Nat} (hi:i=(tx ((A.map (·.1)).flatten)).length) (hn:n=(tx ((L.map (·.1)).flatten)).length):
  (p.extract i n).data.toList=tx x.1++tx ((B.map (·.1)).flatten)/\(p.extract i (i+(tx x.1).length)).data.toList=tx x.1/\i+(tx x.1).length<=n/\n<=p.size:=by
 have e:tx ((L.map (·.1)).flatten)=tx ((A.map (·.1)).flatten)++(tx x.1++tx ((B.map (·.1)).flatten)):=by
  rw[hL,List.map_append,List.flatten_append,Vk,Rm]
 have a:n=i+((tx x.1).length+(tx ((B.map (·.1)).flatten)).length):=by rw[hn,e,hi];simp
 have b:p.size=n+rest.length:=by
  have:p.data.toList.length=n+rest.length:=by rw[hp,Zl,hn]
  simpa using this
 refine⟨?_,?_,by omega,by omega⟩
 ·rw[Uk,hp,hn,List.take_left,e,hi,List.drop_left]
 rw[Ik,hp,e,hi,Zs,List.drop_left,Zs,List.take_left]
theorem Jc {f:Nat} (ih:∀g,g<f->∀ts e,Pp g 0 ts e->Nl ts e) {ts:List Tq}{e:Rx} (h:Pp f 2 ts e):Dn ts e:=by
 intro tb base s T N v vr S w aY hs hp;obtain⟨P,hP⟩:=nam e.sz;rw[<-hP]at hp ⊢;have a5:=hyd hP;have ae:=hp.t.c.lt;have aG:=hp.b;have hb:=hp.s;have hN:=hp.n;have a3:=hyd ih;obtain⟨Kt,ay⟩:=nam (WK s.size P);obtain⟨sL,Uy⟩:=nam s.size;have aN:Hid (BC tb base T N v vr S w f P Kt sL e s (.slice none 0 0) [] [] T N v S w):=⟨GS.first hp,PL.nil _ _ _ _,YE.nil N,λj k x h=>by simp at h,⟨f,ts,e,Zg _,aY,h,rfl⟩,hs,by rw[ay];omega,by simp[Uy]⟩;rw[<-ay]at hN ⊢;have bp:sL<=40:=by omega
 clear ih h aY hp hP ay Uy;go_enter Tryz.func91,Tryz.ntmps91;go_wp2_with fail
 go_loopw [1,5] (λpv rv w'=>∃(p:ByteArray) (ra:Option Addr) (M rc:Nat) (rs:List Nat) (es:List Rx) (T':Nat->Nd) (N':Nat) (v':Value) (S':Nat->Prop),pv=.string p/\rv=.slice ra M rc/\Hid (M=rs.length)/\BC tb base T N v vr S w f P Kt sL e p (.slice ra M rc) rs es T' N' v' S' w') (λpv _ _=>Cr pv)
 ·exact⟨s,none,0,0,[],[],T,N,v,S,rfl,rfl,rfl,aN⟩
 clear aN;obtain⟨p,ra,M,rc,rs,es,T',N',v',S',rfl,rfl,aw,PS⟩:=hrel;obtain⟨g,ts,e',hg,Z,aV,aB⟩:=PS.tk;obtain⟨g',L,rest,bz,aZ,hL,D⟩:=DR aV;rw[aZ]at Z;have an:=PS.ln;obtain⟨n,hn⟩:=nam ((tx ((L.map (·.1)).flatten)).length);have aX:p.size=n+rest.length:=by
  have:p.data.toList.length=n+rest.length:=by rw[Z,Zl,hn]
  simpa using this
 have aa:∀c r',rest=c::r'->c=124:=λc r' e1=>by
  rcases D with ⟨h1,_⟩|⟨q,e2,g2,_,h1,_⟩
  ·rw[h1]at e1;cases e1
  rw[h1]at e1;exact(List.cons.inj e1).1.symm
 have ac:=C1 L hL p.data.toList 0 (L.length+1) rest (by rw[Zw];exact Z) aa (by omega);rw[Zn,<-hn]at ac;have HR:Hid (∀w',Cp 146 #[.string p] w' λe w''=>e=.returned (.int .i64 n)/\Bl w' w''):=λw'=>DZ p n _ w' an ac
 have C:=hyd PS;have bx:=PS.bd;have ap:∀x∈L,x.2.sz<=P:=λx hx=>by
  rw[a5.out,<-aB,EL];have h1:x.2.sz<=((L.map (·.2)).map Rx.sz).sum:=C6 (List.mem_map.2 ⟨x,hx,rfl⟩);have h2:=Rx.rowOf_sz (L.map (·.2));rcases D with ⟨_,h3⟩|⟨q,e2,g2,_,_,_,h3⟩
  ·rw[h3];omega
  rw[h3];simp only[Rx.sz];omega
 have HL:Hid (∀x∈L,Nl x.1 x.2/\Pp g' 0 x.1 x.2/\x.2.sz<=P):=λx hx=>⟨a3 g' (by omega) _ _ (hL x hx),hL x hx,ap x hx⟩
 have R:=hyd2 Z hn;have av:=hyd D;have aO:=hyd aB;have bq:n<=40:=by omega
 have be:WK p.size P=WK n P+WK rest.length P:=by rw[aX,QX]
 have ao:(p.size:Int)=(n:Int)+(rest.length:Int):=by omega
 obtain⟨rL,aF⟩:=nam rest.length;rw[<-aF]at aX be ao;have aQ:=hyd aF;clear PS Z aV aB hL D hn ac aa aZ ap aF;go_wp2_with fail;refine(HR _).mono ?_;rintro ee w1 ⟨rfl,aA⟩;have aI:=hyd (C8.first P (C.out.gs.below aA) (C.out.pl.below aA));clear HR;go_wp2_with fail
 go_loopw [7,8] (λkv iv w2=>∃(i:Nat) (ka:Option Addr) (kl kc:Nat) (A B:List (List Tq × Rx)) (ks:List Nat) (T2:Nat->Nd) (d:Nat) (v2:Value) (S2:Nat->Prop),iv=.int .i64 i/\kv=.slice ka kl kc/\Hid ((ks.map (λx:Nat=>(x:Int))).length=kl)/\Hid (L=A++B)/\C8 tb base T N v vr S w P i A T' N' (.slice ra M rc) rs (.slice ka kl kc) ks T2 d v2 S2 w2) (λ_ iv _=>41-(intOf iv).toNat)
 ·exact⟨0,none,0,0,[],L,[],T',N',v',S',rfl,rfl,rfl,rfl,aI⟩
 clear aI aA;obtain⟨i,ka,kl,kc,A,B,ks,T2,d,v2,S2,rfl,rfl,Q,z,RS⟩:=hrel;rcases B with _|⟨x,B⟩
 ·have ax:L=A:=by have:=z.out;simpa using this
  have bb:i=n:=by rw[RS.ix,R.out.2,ax]
  subst bb;have bB:¬(i:Int)<i:=by omega
  have ak:=RS.ch.le;have bw:=C.out.gs.l;have ab:=C.out.ch.le;have bi:=RS.bd;have a8:d<=1000000:=by omega
  have aT:ks.length<=1000:=by
   rw[ak.2.1,Zy];have h2:=Qj (f:=g') (L:=A) (λy hy=>(HL.out y (by rw[z.out];simp[hy])).2.1);rw[<-RS.ix]at h2;omega
  have aJ:Hid (Cp 148 #[.pointer (some (a_ tb 0)),.int .i64 (1:Nat),.slice ka kl kc] wr λe w'=>∃v3,e=.returned (.int .i64 (d:Int))/\GS tb base T N v vr S w (Yx T2 d 1 ks (λ_=>false)) (d+1) v3 (λk=>S2 k\/(Value.slice ka kl kc).ownBlock=some k) w'/\TF tb v2 v3 S2 S2 wr w'):=
   RS.gs.node (K1.of RS.pk.o) (λk I=>⟨(RS.pk.o.blk k I).1,(RS.pk.o.blk k I).2,(RS.pk.s k I).1⟩) aG hb 1 (by omega) (by omega) (λk I=>by have:=ak.2.2.1 k I;omega) RS.ch.nodup a8 aT
  have hF:=Oq RS.gs.r.w RS.ch;have Y:∀j,j<N'->Yx T2 d 1 ks (λ_=>false) j=T' j:=λj hj=>by
   rw[Xe (by have:=RS.le;omega) (λhm=>by have:=(ak.2.2.1 j hm).1;omega)];exact RS.od j hj
  obtain⟨er,aC⟩:=nam (Rx.rowOf (A.map (·.2)));rw[<-aC]at hF;have ag:=hyd (C.out.ch.more C.out.gs.r.w Y hF);have aH:=hyd (NJ (λk I=>(ab.2.2.1 k I).2) ab.2.1 C.out.fi Y hF);have au:=hyd2 RS.pr RS.ds;have aj:Hid ((rs.map (λx:Nat=>(x:Int))).length=M):=by show _=_;rw[Zy,aw.out]
  have aU:=C.out.nr;have bm:M<=40:=by rw[aw.out];omega
  have aP:Hid (er=Rx.rowOf (L.map (·.2))):=by show _=_;rw[aC,ax]
  have aK:=hyd aU;clear RS ak hF Y aC aT ab aU Q z ax C;go_wp2_with fail;refine aJ.out.mono ?_;rintro ee O ⟨v4,rfl,G4,af⟩;have E:=box_bel O (.cells #[.int .i64 (d:Int)] 3);have G5:=G4.below E;have P5:=((au.out.1.tf ae af).add (λk I=>au.out.2 k I)).below E;have U:=P5.o;have X:(O.alloc (.cells #[.int .i64 (d:Int)] 3)).cell? (a_ O.heap.size 0)=some (.int .i64 (d:Int)):=by rw[Zm];rfl
  have V:=G5.f.b.size;have ah:=hyd2 G5 P5;clear aJ G4 af G5 P5 E au;rcases av with ⟨J,W⟩|⟨q,e2,g2,bA,J,aW,W⟩
  ·have bf:rL=0:=by rw[aQ.out,J];rfl
   subst bf;have He:Hid (es.foldr .alt er=e):=by show _=_;rw[<-aO.out,W,aP.out]
   clear J W ao;go_wp2_with (first|(at_builtin;refine Bm.wpList_append_int (by rfl) _ _ (by rfl) w.heap.size (.slice ra M rc) _ (by rfl) U (by rw[aj.out];omega) O.heap.size (d:Int) (by rfl) X V _ rfl ?_;rw[aj.out];intro g cap w5 G u H aD;refine X9.out ?_));refine⟨?_⟩;obtain⟨G6,P6⟩:=ah.out.2.app ah.out.1 ae u G H;have bn:=aK.out;have a4:Hid (Cp 148 #[.pointer (some (a_ tb 0)),.int .i64 (2:Nat),.slice (some (a_ g 0)) (M+1) cap] w5 λe w'=>∃v3,e=.returned (.int .i64 ((d+1:Nat):Int))/\GS tb base T N v vr S w (Yx (Yx T2 d 1 ks (λ_=>false)) (d+1) 2 (rs++[d]) (λ_=>false)) (d+1+1) v3 (λk=>(S2 k\/(Value.slice ka kl kc).ownBlock=some k)\/(Value.slice (some (a_ g 0)) (M+1) cap).ownBlock=some k) w'/\TF tb v4 v3 (λk=>S2 k\/(Value.slice ka kl kc).ownBlock=some k) (λk=>S2 k\/(Value.slice ka kl kc).ownBlock=some k) w5 w'):=
    G6.node (K1.of P6.o) (λk I=>⟨(P6.o.blk k I).1,(P6.o.blk k I).2,(P6.s k I).1⟩) aG hb 2 (by omega) (by omega) ag.out.le.2.2.1 ag.out.nodup (by omega) (by simp;omega)
   have a2:Hid (TD (Yx (Yx T2 d 1 ks (λ_=>false)) (d+1) 2 (rs++[d]) (λ_=>false)) (d+1+1) N (d+1) e):=by
    show TD _ _ _ _ _;rw[<-He.out];exact(PH G6.r.w ag.out aH.out (by simp)).eq (JF es er)
   clear G6 P6 G u H aD U X V bn;go_wp2_with fail;refine a4.out.mono ?_;rintro ee w6 ⟨v6,rfl,G6,_⟩;go_wp2_with fail;go_ret;exact G6.post a2 (by omega)
  have bj:rL=(tx q).length+1:=by rw[aQ.out,J];simp
  have bF:WK rL P=WK (tx q).length P+WK 1 P:=by rw[bj,QX]
  have bG:=Lw (P:=P) (Zg 1);have hx:(p.extract (i+1) p.size).data.toList=tx q:=by
   rw[SU,R.out.1,J,R.out.2,<-List.drop_drop,List.drop_left];rfl
  have K:(p.extract (i+1) p.size).size=(tx q).length:=by simp;omega
  have HX:=hyd2 hx K;have He:Hid ((es++[er]).foldr .alt e2=e):=by
   show _=_;rw[List.foldr_append,<-aO.out,W,aP.out];rfl
  have a6:=hyd aW;clear J W aW hx K;go_wp2_with (first|(at_builtin;refine Bm.wpList_append_int (by rfl) _ _ (by rfl) w.heap.size (.slice ra M rc) _ (by rfl) U (by rw[aj.out];omega) O.heap.size (d:Int) (by rfl) X V _ rfl ?_;rw[aj.out];intro g cap w5 G u H aD));obtain⟨G6,P6⟩:=ah.out.2.app ah.out.1 ae u G H;go_roundw
  ·refine⟨p.extract (i+1) p.size,some (a_ g 0),M+1,cap,rs++[d],es++[er],Yx T2 d 1 ks (λ_=>false),d+1,v4,_,?_,rfl,by show _=_;have:=aw.out;simp[this],⟨G6,P6,ag.out,aH.out,⟨g2,q,e2,by omega,HX.out.1,a6.out,He.out⟩,by rw[HX.out.2];omega,by rw[HX.out.2];omega,by rw[HX.out.2];have:=aK.out;simp;omega⟩⟩
   first|rfl|(congr 2;omega)
  show(p.extract (i+1) _).size<p.size;simp;omega
 obtain⟨s1,s2,s3,s4⟩:=ER R.out.1 z.out RS.ix R.out.2;obtain⟨aR,az,am⟩:=HL.out x (by rw[z.out];simp);obtain⟨m,hm⟩:=nam ((tx x.1).length);have bc:=LG az;rw[<-hm]at s2 s3 bc;have bE:(i:Int)<n:=by omega
 have aE:=KG az (tx ((B.map (·.1)).flatten)) (by
  have:=NL (f:=g') (L:=B) (r:=[]) (λy hy=>(HL.out y (by rw[z.out];simp[hy])).2.1) (λc r' e=>by cases e);have h':Id (tx ((B.map (·.1)).flatten)):=by simpa using this
  exact h')
 rw[<-s1,<-hm]at aE;have aM:Hid (∀w',Cp 112 #[.string (p.extract i n)] w' λe w''=>e=.returned (.int .i64 m)/\Bl w' w''):=λw'=>Qu _ m w' (WM p _ _ an) aE
 have K:(p.extract i (i+m)).size=m:=by simp;omega
 have br:=QX i m P;have bt:WK (i+m) P<=WK n P:=by
  obtain⟨dd,a9⟩:∃dd,n=i+m+dd:=⟨n-(i+m),by omega⟩;have:=QX (i+m) dd P;rw[a9];omega
 have bu:=E6 (L:=m) am;have bi:=RS.bd;have aL:Hid (∀w',Bl wr w'->Cp 147 #[.pointer (some (a_ tb 0)),.string (p.extract i (i+m))] w' (Yt tb base T2 d v2 vr S2 x.2 (WK m x.2.sz) w')):=λw' hW=>by
  have:=aR tb base (p.extract i (i+m)) T2 d v2 vr S2 w' s2 (by omega) (by rw[K];exact(RS.gs.below hW).pre aG hb (by omega));rw[K]at this;exact this
 have ai:=hyd RS;have Hm:=hyd hm;have bv:(i:Int)+(m:Int)<=(p.size:Int):=by omega
 have bC:(i:Int)<=n:=by omega
 have bD:kl<=40:=by
  have h1:=Q.out;rw[Zy,RS.ch.le.2.1,Zy]at h1;have h2:=Qj (f:=g') (L:=A) (λy hy=>(HL.out y (by rw[z.out];simp[hy])).2.1);rw[<-RS.ix]at h2;omega
 generalize WK m x.2.sz=Kx at *;clear s1 s2 aR az am aE K RS hm;go_wp2_with fail;refine(aM _).mono ?_;rintro ee w3 ⟨rfl,aS⟩;have al:=hyd (aL w3 aS);clear aM aL;go_wp2_with fail;refine al.out.mono ?_;rintro ee O ⟨T3,a,v3,S3,rfl,a1,af,a0,f4,aq,bH⟩;have E:=box_bel O (.cells #[.int .i64 (a:Int)] 3);have F:=(TF.of v2 S2 (ZM ai.out.gs.t.c.lt) aS).trans af;have U:=(ai.out.pk.tf ae F).o.below E;have X:(O.alloc (.cells #[.int .i64 (a:Int)] 3)).cell? (a_ O.heap.size 0)=some (.int .i64 (a:Int)):=by rw[Zm];rfl
 have V:w.heap.size<=(O.alloc (.cells #[.int .i64 (a:Int)] 3)).heap.size:=by
  have h1:=ai.out.gs.f.b.size;have h2:=F.b.size;have h3:=E.size;omega
 have ar:Hid (∀g cap w5,OwnL w.heap.size (.slice (some (a_ g 0)) (kl+1) cap) (ks.map (λx:Nat=>(x:Int))++[(a:Int)]) w5->(O.alloc (.cells #[.int .i64 (a:Int)] 3)).grownBy w5 (Value.slice ka kl kc).ownBlock->((Value.slice ka kl kc).ownBlock=some g\/g=(O.alloc (.cells #[.int .i64 (a:Int)] 3)).heap.size) ->
   C8 tb base T N v vr S w P (i+m) (A++[x]) T' N' (.slice ra M rc) rs (.slice (some (a_ g 0)) (kl+1) cap) (ks++[a]) T3 (a+1) v3 S3 w5):=λg cap w5 h1 h2 h3=>by
  have:=ai.out.more ae a1 F a0 f4 aq (by rw[<-Hm.out];omega) E h2 h1 h3;rw[<-Hm.out]at this;exact this
 clear al a1 af a0 f4 aq F E;go_wp2_with (first|(at_builtin;refine Bm.wpList_append_int (by rfl) _ _ (by rfl) w.heap.size (.slice ka kl kc) _ (by rfl) U (by rw[Q.out];omega) O.heap.size (a:Int) (by rfl) X V _ rfl ?_;rw[Q.out];intro g cap w5 G u H aD));have a7:=ar.out g cap w5 G u H;go_roundw
 ·exact⟨i+m,some (a_ g 0),kl+1,cap,A++[x],B,ks++[a],T3,a+1,v3,S3,by go_num,rfl,by show _=_;have:=Q.out;simp at this;simp[this],by show _=_;rw[z.out];simp,a7⟩
 simp[intOf];omega
theorem GM {f:Nat} (ih:∀g,g<f->(∀ts e,Pp g 0 ts e->Nl ts e)/\(∀ts e,Pp g 2 ts e->Dn ts e)) {ts:List Tq}{e:Rx} (h:Pp f 0 ts e):Nl ts e:=by
 by_cases hz:e.sz=0
 ·exact KS h hz
 cases f with
 |zero=>exact absurd h (by simp[Pp])
 |succ f=>
  have h0:=h;rcases h with ⟨q,rfl,k,o,rfl⟩|⟨a,inn,b,e0,rfl,ha,l,p,m,i,rfl⟩|⟨q,t,e0,rfl,k,u,hs,rfl⟩
  ·have c:tx [q]=q.t.w:=by rw[SE,L7,List.append_nil]
   refine P4 h0 hz (by rw[c];exact Lu k o) (λtb base s T N v vr S w d hs i=>?_);have r:1<=s.size:=by
    have:=LG h0;rw[<-d]at this;simpa using this
   have h3:=Lw (P:=(Rx.lit q.f).sz) r;exact(GC k o tb base s T N v vr S w (by rw[d,c]) hs (i.less (by omega))).mono (λee w' h=>h.eq (XZ.refl _) (by omega))
  ·have n:e0.nz=e0:=by
    rw[Rx.nz_sz]at hz;unfold Rx.nz;rw[if_neg hz]
   have c:tx (a::(inn++[b]))=40::(tx inn++[41]):=by rw[SE,Vk,SE,L7,CT ha l,C3 p m];simp
   rw[n]at h0 hz ⊢;refine P4 h0 hz (by rw[c];exact J6 i) (λtb base s T N v vr S w d hs j=>?_);exact EO ((ih f (by omega)).2 _ _ i) tb base s T N v vr S w (by rw[d,c]) hs j i
  exact Jm k u hs ((ih f (by omega)).1 _ _ k) h0 hz
theorem EP:∀f,(∀ts e,Pp f 0 ts e->Nl ts e)/\(∀ts e,Pp f 2 ts e->Dn ts e):=by
 intro f
 induction f using Nat.strongRecOn with
 |ind f ih=>exact⟨λts e h=>GM ih h,λts e h=>Jc (λg a=>(ih g a).1) h⟩
theorem TW.root {M:Nat} (h:TW tb base T N M v vr S w) (z:tb<base) (y:Value):TW tb base T N M v y S (w.setCell (a_ tb 1) y):=by
 obtain⟨m,d,g⟩:=h.o;have b:∀q,q≠tb->(w.setCell (a_ tb 1) y).heap[q]?=w.heap[q]?:=λq f=>Zq w (a_ tb 1) _ q (λe=>f e)
 exact⟨h.c.set 1 (by simp) y,⟨m,XH d (λk a=>b k (by have:=(d.lt k a).1;omega)),g.move (λk a=>b k (h.s k a).2.1) (λ_ h=>h)⟩,λk a=>⟨by rw[Zz];exact(h.s k a).1,(h.s k a).2⟩⟩
structure CD (tb:Nat) (T:Nat->Nd) (N g cap:Nat) (m:Pa) (w:World):Prop where
 c:w.cell? ⟨tb,0,none⟩=some (.slice (some ⟨g,0,none⟩) N cap)
 r:w.cell? ⟨tb,1,none⟩=some (.int .i64 ((N:Int)-1))
 n:∀i,i<N->w.rangeAt g (i*5) (MT T m i)/\(m.vin i).oneCell'=true/\IL (m.ka i) (fun k=>(((T i).kids.getD k 0:Nat):Int)) (T i).kids.length w/\((T i).kind=0->∃ia ic,m.vin i=.slice ia 256 ic/\BR ia (T i).inn 256 w)
theorem CD.tr {m:Pa} (h:CD tb T N g cap m w):TR tb T N w:=
 ⟨_,cap,h.c,λi a=>⟨g,0,m.vin i,m.ka i,m.kc i,rfl,by rw[Zn];exact(h.n i a).1,(h.n i a).2.1,(h.n i a).2.2.1,(h.n i a).2.2.2⟩⟩
structure D7 (X:Nat->Prop) (tb:Nat) (T:Nat->Nd) (N g cap:Nat) (m:Pa) (w:World):Prop where
 s:∀k,X k->k<w.heap.size
 t:∀w',Wq X w w'->w.heap.size<=w'.heap.size->CD tb T N g cap m w'
theorem D7.keep {m:Pa} (h:D7 X tb T N g cap m w) (ha:Wq X w w') (hs:w.heap.size<=w'.heap.size):D7 X tb T N g cap m w':=
 ⟨λk a=>by have:=h.s k a;omega,λw2 h2 h3=>h.t w2 (ha.trans h2) (by omega)⟩
theorem G8 (w:World):(Instr.build 116 #[]).run Tryz.prog w=.ok (.agg #[sN,I6 0]) w:=by kernel_rfl
def K8 (w:World) (e:Rx) (ee:Ending) (w':World):Prop:=
 ∃T N X g cap m,ee=.returned (.pointer (some ⟨w.heap.size,0,none⟩))/\JE T N/\1<=N/\N<=20000/\Good T N 0 (N-1) e/\D7 X w.heap.size T N g cap m w'/\(∀k,X k->w.heap.size<=k)/\Below w.heap.size w w'/\w.heap.size<w'.heap.size
theorem EQ {f:Nat} (h:Pp f 2 ts e) (s:ByteArray) (aa:s.data.toList=tx ts) (hs:s.size<=40) (he:e.sz<=96) (w:World):
  Cp 39 #[.string s] w (K8 w e):=by
 have R:=G8;obtain⟨W,r⟩:=nam (w.alloc (.cells #[sN,.int .i64 0] 116));have J:=hyd r;have V:W.heap.size=w.heap.size+1:=by rw[r];simp
 have O:Bl w W:=by rw[r];exact box_bel _ _
 have q:TC w.heap.size [sN,.int .i64 0] W:=by rw[r];exact TC.boxed w [sN,.int .i64 0] _
 have Q:WK s.size e.sz+2<=20000:=by
  unfold WK;have h1:s.size*max e.sz 1<=40*96:=Nat.mul_le_mul hs (by omega);omega
 have G:=(EP f).2 ts e h w.heap.size (w.heap.size+1) s (λ_=>RH 0 []) 0 (sN) (.int .i64 0) (λ_=>False) W aa hs ⟨TW.new _ _ _ _ q _,JE.zero _,by omega,by omega,by omega⟩;generalize WK s.size e.sz+2=K at *;have D:Hid (Cp 91 #[.pointer (some ⟨w.heap.size,0,none⟩),.string s] W (Yt w.heap.size (w.heap.size+1) (λ_=>RH 0 []) 0 (sN) (.int .i64 0) (λ_=>False) e K W)):=G;clear G r aa h q;go_enter Tryz.func39,Tryz.ntmps39;go_wp2_with fail;rw[<-J.out];refine D.out.mono ?_;rintro ee w1 ⟨T,n,v,S,rfl,C,tf,tr,F,_,ln⟩;have c1:=C.c 1 _ rfl;have l:Hid (TW w.heap.size (w.heap.size+1) T (n+1) (n+1) v (.int .i64 (n:Int)) S (w1.setCell ⟨w.heap.size,1,none⟩ (.int .i64 (n:Int)))):=C.root (by omega) _;have E:Hid (JE T (n+1)/\Good T (n+1) 0 n e):=⟨tr,F.toGood⟩;have d:Hid (TF w.heap.size (sN) v (λ_=>False) S W w1):=tf;obtain⟨L,M⟩:=c1;clear C tf tr F D R;go_wp2_with fail;go_ret;have U:=d.out.b.size;have hs2:(w1.setCell ⟨w.heap.size,1,none⟩ (.int .i64 (n:Int))).heap.size=w1.heap.size:=Zz ..;obtain⟨g,cap,t⟩:=l.out.form;obtain⟨m,Z,B⟩:=l.out.o;refine⟨T,n+1,λk=>k=w.heap.size\/v.ownBlock=some k\/S k,g,cap,m,rfl,E.out.1,by omega,by omega,E.out.2,⟨λk a=>?_,λw' A y=>?_⟩,λk a=>?_,?_,by omega⟩
 ·rcases a with h|h|h
  ·omega
  ·exact(l.out.blk k h).2
  exact(l.out.s k h).1
 ·have H:=l.out.keep y (λk a=>A k a);have z:=XH Z (λk a=>A k (Or.inr (Or.inl a)));rw[t]at z;have c0:=(H.c 0 _ rfl).1;rw[t]at c0;refine⟨c0,?_,λi x=>⟨λj u I=>?_,B.o i x,B.k i x w' (λk a=>A k (Or.inr (Or.inr a))),λh0=>?_⟩⟩
  ·rw[(H.c 1 _ rfl).1];congr 2;omega
  ·have P:j<5:=(Zi.1 I).1;rw[z.cellAt (i*5+j) (by omega),U4 (TX T m) i j x P];exact I
  obtain⟨X,Y,N,e2⟩:=B.i i x x h0;exact⟨X,Y,N,e2 w' (λk a=>A k (Or.inr (Or.inr a)))⟩
 ·rcases a with h|h|h
  ·omega
  ·rcases d.out.o k h with h1|h1
   ·cases h1
   omega
  rcases d.out.s k h with h1|h1
  ·exact h1.elim
  omega
 exact(O.trans (d.out.b)).setCell (p:=⟨w.heap.size,1,none⟩) (Zg _) _
structure SF (sb:Nat) (w w':World):Prop where
 b:Below sb w w'
 k:∀k,k<w.heap.size->k≠sb->w'.heap[k]?=w.heap[k]?
theorem SF.of (y:sb<=w.heap.size) (h:Bl w w'):SF sb w w':=⟨h.mono y,λk a _=>h.block k a⟩
theorem SF.trans (a:SF sb w w1) (b:SF sb w1 w2):SF sb w w2:=
 ⟨a.b.trans b.b,λk d c=>by rw[b.k k (by have:=a.b.size;omega) c,a.k k d c]⟩
theorem SF.set (h:SF sb w w') (q:Nat) (u:Value):SF sb w (w'.setCell (a_ sb q) u):=
 ⟨h.b.setCell (p:=(a_ sb q)) (Zg _) u,λk c a=>by
  rw[Zq w' (a_ sb q) _ k (λe=>a e)];exact h.k k c a⟩
def Cw (es:Nat->Rx) (Ts:Nat->Nat->Nd) (r m:Nat):Int:=if (Ts r m).kind=0 then (TU es Ts r m:Int) else 0
structure GX (X:Nat->Prop) (gb P R:Nat) (tr ad cp:Nat->Nat) (ms:Nat->Pa) (Ts:Nat->Nat->Nd) (Ns:Nat->Nat) (es:Nat->Rx) (w:World):Prop where
 s:∀k,X k->k<w.heap.size
 t:∀w',Wq X w w'->w.heap.size<=w'.heap.size->∃a c,w'.cell? ⟨gb,0,none⟩=some (.slice a R c)/\∀r,r<R->∃b o,a=some ⟨b,o,none⟩/\w'.cell? ⟨b,o+r,none⟩=some (.pointer (some ⟨tr r,0,none⟩))/\CD (tr r) (Ts r) (Ns r) (ad r) (cp r) (ms r) w'
 p:∀w',Wq X w w'->w.heap.size<=w'.heap.size->∃a c,w'.cell? ⟨gb,1,none⟩=some (.slice a P c)
 i:∀w',Wq X w w'->w.heap.size<=w'.heap.size->∃a c,w'.cell? ⟨gb,3,none⟩=some (.slice a R c)/\∀r,r<R->∃b o ra rc,a=some ⟨b,o,none⟩/\w'.cell? ⟨b,o+r,none⟩=some (.slice ra (Ns r) rc)/\IL ra (Cw es Ts r) (Ns r) w'
variable {ms:Nat->Pa}{tr:Nat->Nat}{Ts:Nat->Nat->Nd}{es:Nat->Rx}
theorem GX.keep {ad:Nat->Nat} (h:GX X gb P R tr ad cp ms Ts Ns es w) (ha:Wq X w w') (hs:w.heap.size<=w'.heap.size):GX X gb P R tr ad cp ms Ts Ns es w':=
 ⟨λk a=>by have:=h.s k a;omega,λw2 h2 h3=>h.t w2 (ha.trans h2) (by omega),λw2 h2 h3=>h.p w2 (ha.trans h2) (by omega),λw2 h2 h3=>h.i w2 (ha.trans h2) (by omega)⟩
theorem GX.below {ad:Nat->Nat} (h:GX X gb P R tr ad cp ms Ts Ns es w) (y:Bl w w'):GX X gb P R tr ad cp ms Ts Ns es w':=
 h.keep (λk a=>y.block k (h.s k a)) y.size
theorem Lr (T:Nat->Nd) (N:Nat) (ix:Nat->Nat) (h k:N_) (q:Nat):(Uf T N ix h q || Uf T N ix k q)=Uf T N ix (λm=>h m || k m) q:=by
 rw[Bool.eq_iff_iff,Bool.or_eq_true,VP,VP,VP];constructor
 ·rintro (⟨m,a,b,c,d⟩|⟨m,a,b,c,d⟩)
  ·exact⟨m,a,b,by simp[c],d⟩
  exact⟨m,a,b,by simp[c],d⟩
 rintro ⟨m,a,b,c,d⟩;rcases (by simpa using c:h m=true\/k m=true)with c|c
 ·exact Or.inl ⟨m,a,b,c,d⟩
 exact Or.inr ⟨m,a,b,c,d⟩
theorem XG {h k:Nat->Bool} (e:∀m,h m=k m) (q:Nat):Uf T N ix h q=Uf T N ix k q:=by
 rw[show h=k from funext e]
theorem NS (q:Nat):Uf T N ix (λ_=>false) q=false:=by
 rw[Bool.eq_false_iff];intro h;obtain⟨m,_,_,c,_⟩:=VP.1 h;cases c
def QF (row:Bool) (b:Nat->Nat->Bool) (nl:Nat->Bool) (ks:List Nat) (m:Nat):Bool:=if row then Vt (λk=>b k m) nl ks else ks.any (λk=>b k m)
theorem Io (row:Bool) (b:Nat->N_) (nl:N_) (m:Nat):QF row b nl [] m=false:=by unfold QF;cases row<;>rfl
theorem Kg {row:Bool}{b:Nat->N_} (h:row=true->ks.all nl=true) (k m:Nat):QF row b nl (ks++[k]) m=(QF row b nl ks m || b k m):=by
 unfold QF;cases row
 ·simp
 simp only[if_true,Tl,Vt,h rfl,Bool.true_and,Bool.and_false,Bool.or_false]
theorem Kh {b:Nat->N_} (h:(ks.take i).all nl=false) (m:Nat):QF true b nl ks m=QF true b nl (ks.take i) m:=by
 unfold QF;have:=Tl (λk=>b k m) nl (ks.take i) (ks.drop i);rw[List.take_append_drop]at this;simp only[if_true];rw[this,h];simp
theorem Wh {g:N_} (h:∀q,f q=g q):bl f n=bl g n:=YU (λq _=>h q)
theorem Jt (h:TC sb (bl f n) w) {j:Nat} (y:j<n):TC sb (bl (λq=>f q || decide (q=j)) n) (w.setCell (a_ sb j) (.bool true)):=by
 have h1:=h.set j (by rw[Y9];exact y) (.bool true);have e:(bl f n).set j (.bool true)=bl (λq=>f q || decide (q=j)) n:=by
  refine List.ext_getElem? (λi=>?_);by_cases a:i<n
  ·rw[YO _ a];by_cases e:i=j
   ·subst e;rw[List.getElem?_set_self (by rw[Y9];exact a)];simp
   rw[List.getElem?_set_ne (λx=>e x.symm),YO _ a];simp[e]
  rw[ZB (by simp[Y9];omega),ZB (by rw[Y9];omega)]
 rw[e]at h1;exact h1
def WC (sb n:Nat) (f g:Nat->Bool) (w:World) (e:Ending) (w':World):Prop:=e=.returned (.tuple #[])/\TC sb (bl (λq=>f q || g q) n) w'/\SF sb w w'
theorem Rv (X:Nat->Prop) (gb R:Nat) (tr ad cp:Nat->Nat) (ms:Nat->Pa) (Ts:Nat->Nat->Nd) (Ns:Nat->Nat) (es:Nat->Rx) (ti nd:Nat->Nat) (a8:Gm R Ts Ns es ti nd) (hR:R<=1000) (hP:Y2 es R<=1000) (a9:∀r,r<R->Ns r<=20000) (r:Nat) (hr:r<R) (sb sc:Nat) (bb:¬X sb):
  ∀(fu n:Nat) (f:N_) (w:World),n<fu->n<Ns r->GX X gb (Y2 es R) R tr ad cp ms Ts Ns es w->TC sb (bl f (Y2 es R+R)) w->Cp 114 #[pT gb,I6 r,I6 n,sL sb (Y2 es R+R) sc] w (WC sb (Y2 es R+R) f (Uf (Ts r) (Ns r) (TU es Ts r) (UR (Ts r) n)) w)
 |0,n,f,w,W,_,_,_=>by omega
 |fu+1,n,f,w,W,hn,hG,hS=>by
  have hz:=Vl;have a:=(a8.t r hr).1;have U:=Vo a.w a.u;obtain⟨P,ac⟩:=nam (Y2 es R);have HI:Hid (∀(k:Nat) (f':N_) (w':World),k∈(Ts r n).kids->GX X gb P R tr ad cp ms Ts Ns es w'->TC sb (bl f' (P+R)) w'->Cp 114 #[pT gb,I6 r,I6 k,sL sb (P+R) sc] w' (WC sb (P+R) f' (Uf (Ts r) (Ns r) (TU es Ts r) (UR (Ts r) k)) w')):=λk f' w' z h1 h2=>by
   have aP:=a.w n hn k z;rw[ac]at h1 h2 ⊢;exact Rv X gb R tr ad cp ms Ts Ns es ti nd a8 hR hP a9 r hr sb sc bb fu k f' w' (by omega) (by omega) h1 h2
  have K:Hid (∀(k:Nat) (w':World),k∈(Ts r n).kids->TR (tr r) (Ts r) (Ns r) w'->Cp 115 #[.pointer (some (a_ (tr r) 0)),I6 k] w' λe w''=>e=.returned (.bool (Wp (Ts r) k))/\Bl w' w''):=λk w' z h1=>by
   have aP:=a.w n hn k z;exact Vu (tr r) (Ts r) (Ns r) (by have:=a9 r hr;omega) a.w (λi hi=>(a.k i hi).1) (Wp (Ts r)) U.nl0 U.nl1 U.nl2 U.nl3 (k+1) k w' (by omega) (by omega) h1 (λi hi=>by have:=(a.k i hi).2;omega)
  have M:(Ts r n).kind=0->TU es Ts r n<Y2 es R:=λh0=>by
   have h1:=(a8.ixlt hr hn h0).2;have h2:=XY es (show r+1<=R from hr);omega
  rw[<-ac]at hG hS hP M ⊢;obtain⟨N,hN⟩:=nam (Ns r);have aM:=a9 r hr;have g0:=λm=>U.bg0 n m hn
  have g1:=λm=>U.bg1 n m hn
  have g2:=λm=>U.bg2 n m hn
  obtain⟨d,hd⟩:=nam (Ts r n);have aQ:=(a.k n hn).1;have aO:=(a.k n hn).2;have am:=hyd hG;have HS:=hyd hS;obtain⟨ta,tc,ct,aD⟩:=hG.t w (Wq.refl _ _) (Zg _);obtain⟨a6,a7,et,aw,af⟩:=aD r hr;subst et;have c0:=af.c;obtain⟨rr,o,il,_⟩:=af.n n hn;have v:Hid (∀w',Wq X w w'->w.heap.size<=w'.heap.size->IL ((ms r).ka n) (λk=>(((Ts r n).kids.getD k 0:Nat):Int)) (Ts r n).kids.length w'/\TR (tr r) (Ts r) (Ns r) w'):=λw' h1 h2=>by
   obtain⟨_,_,_,h3⟩:=am.out.t w' h1 h2;obtain⟨_,_,_,_,h4⟩:=h3 r hr;exact⟨(h4.n n hn).2.2.1,h4.tr⟩
  have aF:=hyd hG.s;unfold MT at rr;obtain⟨vin,H⟩:=nam ((ms r).vin n);obtain⟨ka,ai⟩:=nam ((ms r).ka n);obtain⟨kc,az⟩:=nam ((ms r).kc n);rw[<-H,<-ai,<-az]at rr;rw[<-H]at o;rw[<-ai]at il v;obtain⟨nb,aA⟩:=nam (ad r);obtain⟨nc,aB⟩:=nam (cp r);obtain⟨tp,aC⟩:=nam (tr r);rw[<-aA]at rr c0;rw[<-aB]at c0;rw[<-aC]at c0 aw K v;obtain⟨ia,ic,ci,ax⟩:=hG.i w (Wq.refl _ _) (Zg _);obtain⟨ib,io,ra,rc,ei,L,ay⟩:=ax r hr;subst ei;obtain⟨ix,j⟩:=nam (TU es Ts r n);have ah:d.kind=0->∃xb Z,ra=some (a_ xb Z)/\w.cell? (a_ xb (Z+n))=some (I6 (ix:Int)):=λh0=>by
   obtain⟨xb,Z,e1,e2⟩:=ay n hn;refine⟨xb,Z,e1,?_⟩;rw[e2];unfold Cw;rw[if_pos (by rw[<-hd];exact h0),j]
  rw[<-hd]at rr il HI K v g0 g1 g2 aQ aO M;rw[<-hN]at c0 L hn aM v K;have a3:=hS;have a2:(r:Int)<R:=by omega
  have⟨hR',hP'⟩:(R:Int)<=1000/\(P:Int)<=1000:=by omega
  have⟨hn',hN'⟩:(n:Int)<N/\(N:Int)<=20000:=by omega
  obtain⟨m,hm⟩:=nam d.kids.length;have a1:(m:Int)<=1000:=by omega
  have Hm:=hyd hm;have G:sb<w.heap.size:=by
   have:=(hS 0 (.bool (f 0)) (YO _ (by omega))).1;exact Ze w _ this
  have Hg:=hyd3 g0 g1 g2;have aW:Hid (∀w',Bl w w'->IL ka (λk=>((d.kids.getD k 0:Nat):Int)) d.kids.length w'):=λw' h=>il.below h
  have Hd:Hid (d=Ts r n/\N=Ns r/\ix=TU es Ts r n/\n<Ns r):=⟨hd,hN,j,by omega⟩;have aH:Hid (d.kind=0->ix<P):=by rw[j];exact M
  clear hG hS a8 a U aD af ax ay g0 g1 g2 il a9 hd j ac M hN H ai az aA aB aC;go_enter Tryz.func114,Tryz.ntmps114;go_wp2_with (first|(with_reducible refine gld 118 ?_;refine X9.out ?_));refine⟨?_⟩;refine Zb rfl 118 _ rfl nb (n*5) rfl (Vq d vin ka kc) _ rr u_p rfl Wx ?_
  (try simp only[psm])
  go_wp2_with (first|(with_reducible refine gst 118 ?_;refine X9.out ?_));refine⟨?_⟩;obtain⟨w2,O⟩:=nam ((w.alloc (.cells Q1.toArray 118)).setCells w.heap.size 0 (Vq d vin ka kc));have ag:=WW w Q1 (Vq d vin ka kc) 118 rfl;have C:TC w.heap.size (Vq d vin ka kc) w2:=by rw[O];exact Rl ag.2.2.2
  rw[<-O]at ag;obtain⟨Q,_,s2,t2⟩:=ag;refine Za rfl 118 _ _ rfl w.heap.size 0 (Vq d vin ka kc).toArray rfl rfl t2 Wx (by simp only[Vq,List.all_toArray,List.all_cons,o];rfl) ?_;rw[Zc];have Y:w2=(w.alloc (.cells #[I6 0,sN,sN,I6 0,I6 0] 118)).setCells w.heap.size 0 (Vq d vin ka kc):=O;rw[<-Y];have ck:=(C 0 _ rfl).1;clear O Y t2 rr;by_cases e0:d.kind=0
  ·have q0:((d.kind:Int)==0)=true:=by simp[e0]
   obtain⟨xb,Z,ex,cx⟩:=ah e0;subst ex;have aU:=aH.out e0;have aX:w2.cell? (a_ gb 3)=some (.slice (some (a_ ib io)) R ic):=by rw[Q.cell (p:=(a_ gb 3)) (Ze w _ ci)];exact ci
   have aT:w2.cell? (a_ ib (io+r))=some (.slice (some (a_ xb Z)) N rc):=by rw[Q.cell (p:=(a_ ib (io+r))) (Ze w _ L)];exact L
   have aZ:w2.cell? (a_ xb (Z+n))=some (I6 (ix:Int)):=by rw[Q.cell (p:=(a_ xb (Z+n))) (Ze w _ cx)];exact cx
   have ae:=HS.out.block (Q.block sb G);obtain⟨k1,k2⟩:=ae ix _ (YO _ (by omega));have aN:(ix:Int)<P+(R:Int):=by omega
   have HR:Hid (WC sb (P+R) f (Uf (Ts r) (Ns r) (TU es Ts r) (UR (Ts r) n)) w (.returned (.tuple #[])) (w2.setCell (a_ sb ix) (.bool true))):=by
    refine⟨rfl,?_,(SF.of (by omega) Q).set _ _⟩;have h1:=Jt ae (show ix<P+R by omega);rw[Wh (g:=λq=>f q || decide (q=ix)) (λq=>?_)]
    ·exact h1
    congr 1;rw[Bool.eq_iff_iff,VP];simp only[decide_eq_true_eq];obtain⟨d1,d2,d3,d4⟩:=Hd.out;constructor
    ·rintro ⟨m,m1,m2,m3,m4⟩;rw[Hg.out.1 m e0]at m3;rw[m4,d3,(beq_iff_eq.1 m3)]
    intro e;exact⟨n,d4,by rw[<-d1];exact e0,by rw[Hg.out.1 n e0];simp,by rw[e,d3]⟩
   clear C ah ae;go_wp2
   ((try simp only[Exit.inBlock,Exit.then]);refine Zr (results_none rfl _ _ _) rfl ?_)
   exact HR.out
  have q0:((d.kind:Int)==0)=false:=by simp;omega
  obtain⟨row,l⟩:=nam (decide (d.kind=1));have q1:((d.kind:Int)==1)=row:=by
   rw[l];by_cases e:d.kind=1
   ·simp[e]
   have:¬(d.kind:Int)=1:=by omega
   simp[e,this]
  have ao:Hid (∀y,UR (Ts r) n y=QF row (UR (Ts r)) (Wp (Ts r)) d.kids y):=λy=>by
   unfold QF;by_cases e:d.kind=1
   ·rw[Hg.out.2.1 y e,l];simp[e]
   rw[Hg.out.2.2 y (by omega),l];simp[e]
  have J:Hid (SF sb w w2/\TC w.heap.size (Vq d vin ka kc) w2/\TC sb (bl f (P+R)) w2):=⟨SF.of (by omega) Q,C,HS.out.block (Q.block sb G)⟩;have cK:=(C 2 _ rfl).1;rw[<-Hm.out]at cK;have B:=hyd G;have ab:Hid (∀w',SF sb w w'->IL ka (λk=>((d.kids.getD k 0:Nat):Int)) d.kids.length w'/\TR tp (Ts r) N w'/\GX X gb P R tr ad cp ms Ts Ns es w'):=λw' W=>by
   have hA:Wq X w w':=λk z=>W.k k (aF k z) (λe=>bb (e▸z))
   exact⟨(v w' hA W.b.size).1,(v w' hA W.b.size).2,am.out.keep hA W.b.size⟩
  clear C ah l Q ci L ct aw c0;have A:Hid (row=true->((d.kids.take 0).all (Wp (Ts r)))=true):=λ_=>by simp
  go_wp2
  go_loopw [10] (λx w'=>∃i:Nat,i<=m/\x=I6 i/\Hid (row=true->((d.kids.take i).all (Wp (Ts r)))=true)/\SF sb w w'/\TC w.heap.size (Vq d vin ka kc) w'/\TC sb (bl (λq=>f q || Uf (Ts r) (Ns r) (TU es Ts r) (QF row (UR (Ts r)) (Wp (Ts r)) (d.kids.take i)) q) (P+R)) w'/\w.heap.size+1<=w'.heap.size) (λx _=>m-(intOf x).toNat)
  ·refine⟨0,by omega,rfl,A,J.out.1,J.out.2.1,?_,s2⟩;rw[Wh (g:=f) (λq=>?_)]
   ·exact J.out.2.2
   rw[XG (k:=λ_=>false) (λy=>by rw[List.take_zero,Io]),NS,Bool.or_false]
  clear ck cK J s2 A;obtain⟨i,hi,rfl,ap,F,C,TS,sz⟩:=hrel;have ck:=(C 0 _ rfl).1;have cK:=(C 2 _ rfl).1;rw[<-Hm.out]at cK;by_cases a0:i<m
  ·have aV:(i:Int)<m:=by omega
   obtain⟨k,z⟩:∃k,d.kids[i]?=some k:=⟨d.kids[i]'(by have:=Hm.out;omega),Zd _⟩;obtain⟨il,aS,gx⟩:=ab.out wr F;obtain⟨g,og,eg,cg⟩:=il i (by have:=Hm.out;omega);subst eg;simp only[Zf,z,Option.getD_some]at cg;have E:=List.mem_of_getElem? z;have ak:d.kids.take (i+1)=d.kids.take i++[k]:=by rw[List.take_add_one,z];rfl
   have al:=hyd (HI k _ wr E gx TS);have aq:Hid (∀q,((f q || Uf (Ts r) (Ns r) (TU es Ts r) (QF row (UR (Ts r)) (Wp (Ts r)) (d.kids.take i)) q) || Uf (Ts r) (Ns r) (TU es Ts r) (UR (Ts r) k) q)=(f q || Uf (Ts r) (Ns r) (TU es Ts r) (QF row (UR (Ts r)) (Wp (Ts r)) (d.kids.take (i+1))) q)):=λq=>by
    rw[Bool.or_assoc,Lr,ak,XG (λy=>(Kg ap.out k y).symm)]
   have HF:=hyd2 F C;have aa:Hid (∀w',TR tp (Ts r) N w'->Cp 115 #[pT tp,I6 k] w' λe w''=>e=.returned (.bool (Wp (Ts r) k))/\Bl w' w''):=λw' h1=>K.out k w' E h1
   have aI:=hyd ak;obtain⟨V,hV⟩:=nam (Wp (Ts r) k);rw[<-hV]at aa;have HV:=hyd hV;have aG:Hid (∀w',SF sb w w'->w'.cell? (a_ g (og+i))=some (I6 (k:Int))):=λw' W=>by
    obtain⟨aR,_,_⟩:=ab.out w' W;obtain⟨g',a4,aL,av⟩:=aR i (by have:=Hm.out;omega);cases aL;simp only[Zf,z,Option.getD_some]at av;exact av
   clear F C TS il aS gx z E ak hV;go_wp2_with fail;refine al.out.mono ?_;rintro e w3 ⟨rfl,D,F3⟩;have I:=HF.out.1.trans F3;have T3:TC w.heap.size (Vq d vin (some (a_ g og)) kc) w3:=HF.out.2.block (F3.k _ (by omega) (by have:=B.out;omega));have a5:w.heap.size+1<=w3.heap.size:=by have:=F3.b.size;omega
   have aK:=(T3 0 _ rfl).1;have au:=(T3 2 _ rfl).1;rw[<-Hm.out]at au;have aJ:=aG.out w3 I;have an:=hyd (aa.out w3 (ab.out w3 I).2.1);have H3:Hid (SF sb w w3/\TC w.heap.size (Vq d vin (some (a_ g og)) kc) w3/\TC sb (bl (λq=>f q || Uf (Ts r) (Ns r) (TU es Ts r) (QF row (UR (Ts r)) (Wp (Ts r)) (d.kids.take (i+1))) q) (P+R)) w3):=⟨I,T3,by rw[<-Wh aq.out];exact D⟩;clear al F3 D T3 ck cK cg aa I HF;go_wp2_with fail;refine an.out.mono ?_;rintro e w4 ⟨rfl,B4⟩;obtain⟨F3,T3,D⟩:=H3.out;have F4:SF sb w w4:=F3.trans (SF.of (by have:=B.out;omega) B4);have T4:TC w.heap.size (Vq d vin (some (a_ g og)) kc) w4:=T3.block (B4.block _ (by omega));have ar:TC sb (bl (λq=>f q || Uf (Ts r) (Ns r) (TU es Ts r) (QF row (UR (Ts r)) (Wp (Ts r)) (d.kids.take (i+1))) q) (P+R)) w4:=D.block (B4.block _ (by have:=B.out;omega));have aY:=(T4 0 _ rfl).1;have aE:w.heap.size+1<=w4.heap.size:=by have:=B4.size;omega
   have S:=hyd3 F4 T4 ar;have T:Hid ((d.kids.take (i+1)).all (Wp (Ts r))=((d.kids.take i).all (Wp (Ts r))&&V)):=by
    show _=_;rw[aI.out,HV.out];simp
   clear F3 T3 D F4 T4 ar H3 an aK au aJ B4;cases row
   ·have aj:Hid (false=true->((d.kids.take (i+1)).all (Wp (Ts r)))=true):=λh=>by cases h
    cases V<;>(go_wp2;go_roundw;(case rel=>exact⟨i+1,by omega,by go_num,aj,S.out.1,S.out.2.1,S.out.2.2,aE⟩);(case measure=>simp[intOf];omega))
   cases V
   ·have HR:Hid (WC sb (P+R) f (Uf (Ts r) (Ns r) (TU es Ts r) (UR (Ts r) n)) w (.returned (.tuple #[])) w4):=by
     refine⟨rfl,?_,S.out.1⟩;rw[Wh (g:=λq=>f q || Uf (Ts r) (Ns r) (TU es Ts r) (QF true (UR (Ts r)) (Wp (Ts r)) (d.kids.take (i+1))) q) (λq=>?_)]
     ·exact S.out.2.2
     congr 1;refine XG (λy=>?_) q;rw[ao.out y];exact Kh (by rw[T.out,Bool.and_false]) y
    go_wp2
    ((try simp only[Exit.inBlock,Exit.then]);refine Zr (results_none rfl _ _ _) rfl ?_)
    exact HR.out
   have aj:Hid (true=true->((d.kids.take (i+1)).all (Wp (Ts r)))=true):=λ_=>by rw[T.out,ap.out rfl];rfl
   go_wp2;go_roundw
   ·exact⟨i+1,by omega,by go_num,aj,S.out.1,S.out.2.1,S.out.2.2,aE⟩
   simp[intOf];omega
  have⟨hge,him⟩:¬(i:Int)<m/\i=m:=by omega
  subst him;have ht:d.kids.take i=d.kids:=by rw[Hm.out,List.take_length]
  rw[ht]at TS;have HR:Hid (WC sb (P+R) f (Uf (Ts r) (Ns r) (TU es Ts r) (UR (Ts r) n)) w (.returned (.tuple #[])) wr):=by
   refine⟨rfl,?_,F⟩;rw[Wh (λq=>by rw[XG (λy=>ao.out y)])];exact TS
  clear TS C ht F;go_wp2;go_end0;exact HR.out
theorem Md (y:If T N) {n u:Nat} (z:n<N) (h:(T n).up=(u:Int)) (h1:(T u).kind≠1) (h3:(T u).kind≠3) (H:(T u).kind≠4) (q:Option Nat):MG T N n q=MG T N u q:=by
 have a:=y n z;have e:Ih T (N-n-1) u q=MG T N u q:=En y q N u _ _ (by omega) (by omega) (by omega) (by omega);unfold MG;rw[show N-n=(N-n-1)+1 by omega];simp only[Ih];rw[g_,h,ZE,if_neg h1,g_,e];rfl
section
variable {T:Nat->Nd} {N:Nat} {ix:Nat->Nat} {P r n u:Nat}
theorem Ep (H:Wf T N) (z:If T N) (y:n<N) (h:(T n).up<0) (q:Nat):Rs T N ix P r n q=decide (q=P+r):=by
 have a:=Vo H z;unfold Rs;rw[XG (k:=λ_=>false) (λm=>by rw[a.bhR n _ y h];rfl),NS,a.bhR n _ y h];simp
theorem Dr (H:Wf T N) (z:If T N) (y:n<N) (h:(T n).up=(u:Int)) (h1:(T u).kind=1) (ha:((T u).kids.drop ((T n).at_+1)).all (Wp T)=true) (q:Nat):Rs T N ix P r n q=(Uf T N ix (QF true (UR T) (Wp T) ((T u).kids.drop ((T n).at_+1))) q || Rs T N ix P r u q):=by
 have a:=Vo H z;unfold Rs;rw[<-Bool.or_assoc,Lr,XG (λm=>by rw[a.bh1 n u _ y h h1,ha])];congr 1;rw[a.bh1 n u none y h h1,ha];simp
theorem Lh (H:Wf T N) (z:If T N) (y:n<N) (h:(T n).up=(u:Int)) (h1:(T u).kind=1) (ha:((T u).kids.drop ((T n).at_+1)).all (Wp T)=false) (q:Nat):Rs T N ix P r n q=Uf T N ix (QF true (UR T) (Wp T) ((T u).kids.drop ((T n).at_+1))) q:=by
 have a:=Vo H z;unfold Rs;rw[XG (k:=QF true (UR T) (Wp T) ((T u).kids.drop ((T n).at_+1))) (λm=>by rw[a.bh1 n u _ y h h1,ha];simp[QF]),a.bh1 n u none y h h1,ha];simp
theorem Eo (H:Wf T N) (z:If T N) (y:n<N) (h:(T n).up=(u:Int)) (h1:(T u).kind=3\/(T u).kind=4) (q:Nat):Rs T N ix P r n q=(Uf T N ix (UR T n) q || Rs T N ix P r u q):=by
 have a:=Vo H z;unfold Rs;rw[<-Bool.or_assoc,Lr,XG (λm=>by rw[a.bh3 n u _ y h h1])];congr 1;rw[a.bh3 n u none y h h1];simp
theorem F8 (H:If T N) (z:n<N) (h:(T n).up=(u:Int)) (h1:(T u).kind≠1) (h3:(T u).kind≠3) (y:(T u).kind≠4) (q:Nat):Rs T N ix P r n q=Rs T N ix P r u q:=by
 unfold Rs;rw[XG (λm=>Md H z h h1 h3 y _),Md H z h h1 h3 y none]
end
theorem Nx (X:Nat->Prop) (gb R:Nat) (tr ad cp:Nat->Nat) (ms:Nat->Pa) (Ts:Nat->Nat->Nd) (Ns:Nat->Nat) (es:Nat->Rx) (ti nd:Nat->Nat) (bp:Gm R Ts Ns es ti nd) (hR:R<=1000) (hP:Y2 es R<=1000) (bn:∀r,r<R->Ns r<=20000) (r:Nat) (hr:r<R) (sb sc:Nat) (bq:¬X sb):
  ∀(fu n:Nat) (f:N_) (w:World),Ns r<fu+n->n<Ns r->GX X gb (Y2 es R) R tr ad cp ms Ts Ns es w->TC sb (bl f (Y2 es R+R)) w->Cp 53 #[pT gb,I6 r,I6 n,sL sb (Y2 es R+R) sc] w (WC sb (Y2 es R+R) f (Rs (Ts r) (Ns r) (TU es Ts r) (Y2 es R) r n) w)
 |0,n,f,w,hf,_,_,_=>by omega
 |fu+1,n,f,w,hf,hn,hG,hS=>by
  have hz:=Vl;have y:=(bp.t r hr).1;have hE:=Vo y.w y.u;obtain⟨P,O⟩:=nam (Y2 es R);have HI:Hid (∀(k:Nat) (f':N_) (w':World),n<k->k<Ns r->GX X gb P R tr ad cp ms Ts Ns es w'->TC sb (bl f' (P+R)) w'->Cp 53 #[pT gb,I6 r,I6 k,sL sb (P+R) sc] w' (WC sb (P+R) f' (Rs (Ts r) (Ns r) (TU es Ts r) P r k) w')):=λk f' w' a9 a0 h1 h2=>by
   rw[O]at h1 h2 ⊢;exact Nx X gb R tr ad cp ms Ts Ns es ti nd bp hR hP bn r hr sb sc bq fu k f' w' (by omega) a0 h1 h2
  have ai:Hid (∀(k:Nat) (f':N_) (w':World),k<Ns r->GX X gb P R tr ad cp ms Ts Ns es w'->TC sb (bl f' (P+R)) w'->Cp 114 #[pT gb,I6 r,I6 k,sL sb (P+R) sc] w' (WC sb (P+R) f' (Uf (Ts r) (Ns r) (TU es Ts r) (UR (Ts r) k)) w')):=λk f' w' E h1 h2=>by
   rw[O]at h1 h2 ⊢;exact Rv X gb R tr ad cp ms Ts Ns es ti nd bp hR hP bn r hr sb sc bq (k+1) k f' w' (by omega) E h1 h2
  have ax:Hid (∀(k:Nat) (w':World),k<Ns r->TR (tr r) (Ts r) (Ns r) w'->Cp 115 #[.pointer (some (a_ (tr r) 0)),I6 k] w' λe w''=>e=.returned (.bool (Wp (Ts r) k))/\Bl w' w''):=λk w' E h1=>by
   exact Vu (tr r) (Ts r) (Ns r) (by have:=bn r hr;omega) y.w (λi hi=>(y.k i hi).1) (Wp (Ts r)) hE.nl0 hE.nl1 hE.nl2 hE.nl3 (k+1) k w' (by omega) E h1 (λi hi=>by have:=(y.k i hi).2;omega)
  have aY:=bn r hr;have H:=y.u n hn;have ac:=y.a n hn;have aP:Hid (GX X gb P R tr ad cp ms Ts Ns es w):=by rw[O];exact hG
  have ak:Hid (∀w',SF sb w w'->CD (tr r) (Ts r) (Ns r) (ad r) (cp r) (ms r) w'/\GX X gb P R tr ad cp ms Ts Ns es w'):=λw' hf=>by
   have hA:Wq X w w':=λk E=>hf.k k (hG.s k E) (λe=>bq (e▸E))
   obtain⟨_,_,_,h3⟩:=hG.t w' hA hf.b.size;obtain⟨_,_,_,_,h4⟩:=h3 r hr;exact⟨h4,aP.out.keep hA hf.b.size⟩
  obtain⟨ta,tc,ct,aM⟩:=hG.t w (Wq.refl _ _) (Zg _);obtain⟨bj,bm,et,aE,am⟩:=aM r hr;subst et;obtain⟨pa,pc,cP⟩:=hG.p w (Wq.refl _ _) (Zg _);have c0:=am.c;have rn:=(am.n n hn).1;have cU:=rn 3 _ rfl;have cA:=rn 4 _ rfl;rw[<-O]at hG hS hP cP ⊢;have ag:sb<w.heap.size:=by
   have:=(hS 0 (.bool (f 0)) (YO _ (by omega))).1;exact Ze w _ this
  obtain⟨N,hN⟩:=nam (Ns r);obtain⟨nb,aJ⟩:=nam (ad r);obtain⟨nc,aK⟩:=nam (cp r);obtain⟨tp,aL⟩:=nam (tr r);obtain⟨T,an⟩:=nam (Ts r);obtain⟨mr,aI⟩:=nam (ms r);obtain⟨ix,ae⟩:=nam (TU es Ts r);have h:Hid (Wf T N/\If T N/\n<N/\∀i,i<N->(T i).kind<=4/\(T i).kids.length<=1000):=by rw[an,hN];exact⟨y.w,y.u,hn,y.k⟩
  simp only[<-hN,<-an,<-ae,<-aL,<-aJ,<-aK,<-aI]at HI ai ax aY H ac ak aE c0 cU cA hn ⊢;have HS:=hyd hS;have bd:(r:Int)<R:=by omega
  have⟨hR',hP'⟩:(R:Int)<=1000/\(P:Int)<=1000:=by omega
  have⟨hn',hN'⟩:(n:Int)<N/\(N:Int)<=20000:=by omega
  have M:=hyd ag;clear hG bp y hE aM am bn O aJ aK aL an aI ae hN rn;by_cases G:(T n).up<0
  ·have aN:(T n).up=-1:=by omega
   obtain⟨k1,k2⟩:=hS (P+r) _ (YO _ (by omega));rw[aN]at cU;have hq:(P:Int)+(r:Int)<P+(R:Int):=by omega
   have HR:Hid (WC sb (P+R) f (Rs T N ix P r n) w (.returned (.tuple #[])) (w.setCell (a_ sb (P+r)) (.bool true))):=by
    refine⟨rfl,?_,(SF.of (by omega) (Zk _ _)).set _ _⟩;rw[Wh (λq=>by rw[Ep h.out.1 h.out.2.1 h.out.2.2.1 G])];exact Jt HS.out (show P+r<P+R by omega)
   clear hS aN H G;go_enter Tryz.func53,Tryz.ntmps53;go_wp2
   ((try simp only[Exit.inBlock,Exit.then]);refine Zr (results_none rfl _ _ _) rfl ?_)
   exact HR.out
  obtain⟨u,hu⟩:∃u:Nat,(T n).up=u:=⟨(T n).up.toNat,by omega⟩;rw[hu]at cU H;have a1:n<u:=by omega
  have⟨huN,huN'⟩:u<N/\(u:Int)<N:=by omega
  have be:¬(u:Int)<0:=by omega
  obtain⟨aO,_⟩:=ak.out w (SF.of (by omega) (Zk _ _));obtain⟨rr,o,il,_⟩:=aO.n u huN;unfold MT at rr;obtain⟨d,hd⟩:=nam (T u);obtain⟨D,ao⟩:=nam ((T n).at_);obtain⟨vin,Q⟩:=nam (mr.vin u);obtain⟨ka,aq⟩:=nam (mr.ka u);obtain⟨kc,aH⟩:=nam (mr.kc u);have K:Hid (∀w',SF sb w w'->IL ka (λk=>((d.kids.getD k 0:Nat):Int)) d.kids.length w'/\TR tp T N w'/\GX X gb P R tr ad cp ms Ts Ns es w'):=λw' hf=>by
   obtain⟨tm,gx⟩:=ak.out w' hf;rw[aq,hd];exact⟨(tm.n u huN).2.2.1,tm.tr,gx⟩
  rw[<-hd,<-Q,<-aq,<-aH]at rr;rw[<-Q]at o;rw[<-ao]at cA ac;have ar:=h.out.2.2.2 u huN;rw[<-hd]at ar;obtain⟨m,hm⟩:=nam d.kids.length;have Hm:=hyd hm;have bc:(m:Int)<=1000:=by omega
  have a5:(D:Int)<=1000:=by omega
  have U:Hid ((T n).up=(u:Int)/\d=T u/\D=(T n).at_/\u<N/\∀k∈d.kids,k<N):=⟨hu,hd,ao,huN,λk E=>by
   rw[hd]at E;have:=h.out.1 u huN k E;omega⟩
  have a6:=ar.1;clear hS hu hd ao Q aq aH aO il G H ar hm;go_enter Tryz.func53,Tryz.ntmps53;go_wp2_with (first|(with_reducible refine gld 118 ?_;refine X9.out ?_));refine⟨?_⟩;refine Zb rfl 118 _ rfl nb (u*5) rfl (Vq d vin ka kc) _ rr u_p rfl Wx ?_
  (try simp only[psm])
  go_wp2_with (first|(with_reducible refine gst 118 ?_;refine X9.out ?_));refine⟨?_⟩;obtain⟨w2,ab⟩:=nam ((w.alloc (.cells Q1.toArray 118)).setCells w.heap.size 0 (Vq d vin ka kc));have ap:=WW w Q1 (Vq d vin ka kc) 118 rfl;have W:TC w.heap.size (Vq d vin ka kc) w2:=by rw[ab];exact Rl ap.2.2.2
  rw[<-ab]at ap;obtain⟨B2,_,s2,t2⟩:=ap;refine Za rfl 118 _ _ rfl w.heap.size 0 (Vq d vin ka kc).toArray rfl rfl t2 Wx (by simp only[Vq,List.all_toArray,List.all_cons,o];rfl) ?_;rw[Zc];have ah:w2=(w.alloc (.cells #[I6 0,sN,sN,I6 0,I6 0] 118)).setCells w.heap.size 0 (Vq d vin ka kc):=ab;rw[<-ah];have ck:=(W 0 _ rfl).1;have cK:=(W 2 _ rfl).1;rw[<-Hm.out]at cK;have aA:TC sb (bl f (P+R)) w2:=HS.out.block (B2.block sb ag);have F2:SF sb w w2:=SF.of (by omega) B2;have aU:w2.cell? (a_ nb (n*5+4))=some (I6 (D:Int)):=by rw[B2.cell (p:=(a_ nb (n*5+4))) (Ze w _ cA)];exact cA
  have aT:w2.cell? (a_ tp 0)=some (sL nb N nc):=by rw[B2.cell (p:=(a_ tp 0)) (Ze w _ c0)];exact c0
  have S:=hyd3 F2 W aA;clear ab ah t2 rr W aA F2 B2 c0 cA cU ct aE cP;have C:Hid (∀(g:N_) (w':World),SF sb w w'->TC sb (bl (λq=>f q || g q) (P+R)) w'->(∀q,Rs T N ix P r n q=(g q || Rs T N ix P r u q))->Cp 53 #[pT gb,I6 r,I6 u,sL sb (P+R) sc] w' (WC sb (P+R) f (Rs T N ix P r n) w)):=λg w' h1 h2 h3=>by
   refine(HI u _ w' a1 (U.out.2.2.2.1) (K w' h1).2.2 h2).mono ?_;rintro e w'' ⟨h4,h5,h6⟩;refine⟨h4,?_,h1.trans h6⟩;rw[Wh (g:=λq=>(f q || g q) || Rs T N ix P r u q) (λq=>by rw[h3 q,Bool.or_assoc])];exact h5
  clear HI;by_cases e1:d.kind=1
  ·have q1:((d.kind:Int)==1)=true:=by simp[e1]
   obtain⟨A,J⟩:=nam (d.kids.drop (D+1));have ay:=hyd J;have al:Hid (A.all (Wp T)=false->∀q,Rs T N ix P r n q=Uf T N ix (QF true (UR T) (Wp T) A) q):=λha q=>by
    obtain⟨u1,u2,u3,u4,_⟩:=U.out;have:=Lh (ix:=ix) (P:=P) (r:=r) h.out.1 h.out.2.1 h.out.2.2.1 u1 (by rw[<-u2];exact e1) (by rw[<-u2,<-u3,<-J];exact ha) q;rw[<-u2,<-u3,<-J]at this;exact this
   have aR:Hid (A.all (Wp T)=true->∀q,Rs T N ix P r n q=(Uf T N ix (QF true (UR T) (Wp T) A) q || Rs T N ix P r u q)):=λha q=>by
    obtain⟨u1,u2,u3,u4,_⟩:=U.out;have:=Dr (ix:=ix) (P:=P) (r:=r) h.out.1 h.out.2.1 h.out.2.2.1 u1 (by rw[<-u2];exact e1) (by rw[<-u2,<-u3,<-J];exact ha) q;rw[<-u2,<-u3,<-J]at this;exact this
   clear J e1;go_wp2
   go_loopw [11] (λx w'=>∃j:Nat,(j=0\/D+1+j<=m)/\x=I6 ((D+1+j:Nat):Int)/\Hid ((A.take j).all (Wp T)=true)/\SF sb w w'/\TC w.heap.size (Vq d vin ka kc) w'/\TC sb (bl (λq=>f q || Uf T N ix (QF true (UR T) (Wp T) (A.take j)) q) (P+R)) w'/\w.heap.size+1<=w'.heap.size) (λx _=>m-(intOf x).toNat)
   ·refine⟨0,Or.inl rfl,by go_num,by show _=_;simp,S.out.1,S.out.2.1,?_,s2⟩;rw[Wh (g:=f) (λq=>?_)]
    ·exact S.out.2.2
    rw[XG (k:=λ_=>false) (λmm=>by rw[List.take_zero,Io]),NS,Bool.or_false]
   clear ck cK S s2 aU aT;obtain⟨j,hj,rfl,Z,F,W,TS,sz⟩:=hrel;have ck:=(W 0 _ rfl).1;have cK:=(W 2 _ rfl).1;rw[<-Hm.out]at cK;obtain⟨i,hi⟩:=nam (D+1+j);rw[<-hi]at hj ⊢;have Hi:=hyd hi;clear hi;by_cases bb:i<m
   ·have a7:(i:Int)<m:=by omega
    obtain⟨k,E⟩:∃k,d.kids[i]?=some k:=⟨d.kids[i]'(by have:=Hm.out;omega),Zd _⟩;obtain⟨il,a4,gx⟩:=K.out wr F;obtain⟨g,og,eg,cg⟩:=il i (by have:=Hm.out;omega);subst eg;simp only[Zf,E,Option.getD_some]at cg;have af:=List.mem_of_getElem? E;have aG:=U.out.2.2.2.2 k af;have aF:A[j]?=some k:=by rw[ay.out,List.getElem?_drop,<-Hi.out];exact E
    have au:A.take (j+1)=A.take j++[k]:=by rw[List.take_add_one,aF];rfl
    have av:=hyd (ai k _ wr aG gx TS);have az:Hid (∀q,((f q || Uf T N ix (QF true (UR T) (Wp T) (A.take j)) q) || Uf T N ix (UR T k) q)=(f q || Uf T N ix (QF true (UR T) (Wp T) (A.take (j+1))) q)):=λq=>by
     rw[Bool.or_assoc,Lr,au,XG (λmm=>(Kg (λ_=>Z.out) k mm).symm)]
    have HF:=hyd2 F W;have aj:Hid (∀w',TR tp T N w'->Cp 115 #[pT tp,I6 k] w' λe w''=>e=.returned (.bool (Wp T k))/\Bl w' w''):=λw' h1=>ax.out k w' aG h1
    have aS:=hyd au;obtain⟨V,hV⟩:=nam (Wp T k);rw[<-hV]at aj;have HV:=hyd hV;have aQ:Hid (∀w',SF sb w w'->w'.cell? (a_ g (og+i))=some (I6 (k:Int))):=λw' hf=>by
     obtain⟨a2,_,_⟩:=K.out w' hf;obtain⟨g',bf,aX,aD⟩:=a2 i (by have:=Hm.out;omega);cases aX;simp only[Zf,E,Option.getD_some]at aD;exact aD
    clear F W TS il a4 gx E af au hV aF;go_wp2_with fail;refine av.out.mono ?_;rintro e w3 ⟨rfl,v,I⟩;have z:=HF.out.1.trans I;have T3:TC w.heap.size (Vq d vin (some (a_ g og)) kc) w3:=HF.out.2.block (I.k _ (by omega) (by have:=M.out;omega));have bi:w.heap.size+1<=w3.heap.size:=by have:=I.b.size;omega
    have aW:=(T3 0 _ rfl).1;have aC:=(T3 2 _ rfl).1;rw[<-Hm.out]at aC;have aV:=aQ.out w3 z;have aw:=hyd (aj.out w3 (K.out w3 z).2.1);have H3:Hid (SF sb w w3/\TC w.heap.size (Vq d vin (some (a_ g og)) kc) w3/\TC sb (bl (λq=>f q || Uf T N ix (QF true (UR T) (Wp T) (A.take (j+1))) q) (P+R)) w3):=⟨z,T3,by rw[<-Wh az.out];exact v⟩;clear av I v T3 ck cK cg aj z HF;go_wp2_with fail;refine aw.out.mono ?_;rintro e w4 ⟨rfl,B4⟩;obtain⟨I,T3,v⟩:=H3.out;have F4:SF sb w w4:=I.trans (SF.of (by have:=M.out;omega) B4);have T4:TC w.heap.size (Vq d vin (some (a_ g og)) kc) w4:=T3.block (B4.block _ (by omega));have aB:TC sb (bl (λq=>f q || Uf T N ix (QF true (UR T) (Wp T) (A.take (j+1))) q) (P+R)) w4:=v.block (B4.block _ (by have:=M.out;omega));have a3:w.heap.size+1<=w4.heap.size:=by have:=B4.size;omega
    have H4:=hyd3 F4 T4 aB;have L:Hid ((A.take (j+1)).all (Wp T)=V):=by
     show _=_;rw[aS.out,List.all_append,Z.out,HV.out];simp
    clear I T3 v F4 T4 aB H3 aw aW aC aV B4;cases V
    ·have HR:Hid (WC sb (P+R) f (Rs T N ix P r n) w (.returned (.tuple #[])) w4):=by
      refine⟨rfl,?_,H4.out.1⟩;have aZ:A.all (Wp T)=false:=by
       have h1:=L.out;have h2:A.all (Wp T)=((A.take (j+1)).all (Wp T)&&(A.drop (j+1)).all (Wp T)):=by rw[<-List.all_append,List.take_append_drop]
       rw[h2,h1];rfl
      rw[Wh (g:=λq=>f q || Uf T N ix (QF true (UR T) (Wp T) (A.take (j+1))) q) (λq=>?_)]
      ·exact H4.out.2.2
      congr 1;rw[al.out aZ q];exact XG (λmm=>Kh L.out mm) q
     go_wp2
     ((try simp only[Exit.inBlock,Exit.then]);refine Zr (results_none rfl _ _ _) rfl ?_)
     exact HR.out
    go_wp2;go_roundw
    ·exact⟨j+1,Or.inr (by have:=Hi.out;omega),by have:=Hi.out;go_num,L,H4.out.1,H4.out.2.1,H4.out.2.2,a3⟩
    simp[intOf];omega
   have a8:¬(i:Int)<m:=by omega
   have ht:A.take j=A:=by
    refine List.take_of_length_le ?_;have h1:=Hi.out;have h2:=Hm.out;rw[ay.out,List.length_drop];omega
   rw[ht]at TS Z;have B:=hyd (C _ wr F TS (aR Z));clear TS W ht F C;go_wp2_with fail;refine B.out.mono ?_;rintro e w4 ⟨rfl,l⟩;go_wp2;go_end0;exact⟨rfl,l⟩
  have q1:((d.kind:Int)==1)=false:=by simp;omega
  by_cases aa:d.kind=3\/d.kind=4
  ·have HC:=hyd (ai.out n f w2 hn (K.out w2 S.out.1).2.2 S.out.2.2);have Y:Hid (∀(w':World),SF sb w w'->TC sb (bl (λq=>f q || Uf T N ix (UR T n) q) (P+R)) w'->Cp 53 #[pT gb,I6 r,I6 u,sL sb (P+R) sc] w' (WC sb (P+R) f (Rs T N ix P r n) w)):=λw' h1 h2=>C.out _ w' h1 h2 (λq=>Eo h.out.1 h.out.2.1 h.out.2.2.1 U.out.1 (by rw[<-U.out.2.1];exact aa) q)
   by_cases e3:d.kind=3
   ·have q3:((d.kind:Int)==3)=true:=by simp[e3]
    clear C aa e3;go_wp2_with fail;refine HC.out.mono ?_;rintro e w3 ⟨rfl,v,I⟩;have z:=S.out.1.trans I;have B:=hyd (Y w3 z v);clear v I z Y;go_wp2_with fail;refine B.out.mono ?_;rintro e w4 ⟨rfl,l⟩;go_wp2;go_end0;exact⟨rfl,l⟩
   have q3:((d.kind:Int)==3)=false:=by simp;omega
   have q4:((d.kind:Int)==4)=true:=by simp;omega
   clear C aa e3;go_wp2_with fail;refine HC.out.mono ?_;rintro e w3 ⟨rfl,v,I⟩;have z:=S.out.1.trans I;have B:=hyd (Y w3 z v);clear v I z Y;go_wp2_with fail;refine B.out.mono ?_;rintro e w4 ⟨rfl,l⟩;go_wp2;go_end0;exact⟨rfl,l⟩
  have q3:((d.kind:Int)==3)=false:=by simp;omega
  have q4:((d.kind:Int)==4)=false:=by simp;omega
  have B:Hid (Cp 53 #[pT gb,I6 r,I6 u,sL sb (P+R) sc] w2 (WC sb (P+R) f (Rs T N ix P r n) w)):=C.out (λ_=>false) w2 S.out.1 (by rw[Wh (g:=f) (λq=>Bool.or_false _)];exact S.out.2.2) (λq=>by
   rw[Bool.false_or];exact F8 h.out.2.1 h.out.2.2.1 U.out.1 (by rw[<-U.out.2.1];exact e1) (by rw[<-U.out.2.1];omega) (by rw[<-U.out.2.1];omega) q)
  clear C aa;go_wp2_with fail;refine B.out.mono ?_;rintro e w4 ⟨rfl,l⟩;go_wp2;go_end0;exact⟨rfl,l⟩
end Go.Proofs.YtoaaklhpmhjhkaaGreat
