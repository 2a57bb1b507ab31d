import Derived.Test.YtoaaklhpmhjhkaaGreatC21
set_option maxRecDepth 100000
set_option maxHeartbeats 4000000
set_option linter.all false
namespace Go.Proofs.YtoaaklhpmhjhkaaGreat
open Go.RowKit
open Bm
variable {a:Act}{ops:Array Oper}{Q:Exit->Act->World->Prop}{x:Int}{l:List (N_)}{rest:List Oper}{L0 L3 lx:List Value}{N P R b base c cap g gb i ib k len n n0 nc tb tob:Nat}{ms:Nat->Pa}{ls:Nat->List Value}{Ns cp sk tr xb:Nat->Nat}{Ts:Nat->Nat->Nd}{X X':Nat->Prop}{es:Nat->Rx}{vs:Nat->Value}{o:Oper}{v:Value}{w w' w0 w1 w5:World}
theorem GX.gl {ad:Nat->Nat} (h:GX X gb P R tr ad cp ms Ts Ns es w):GL gb P R w:=by
 obtain⟨a,c,h0,_⟩:=h.t w (Wq.refl _ _) (Zg _);obtain⟨b,c1,h1⟩:=h.p w (Wq.refl _ _) (Zg _);exact⟨⟨a,c,h0⟩,b,c1,h1⟩
theorem El (es:Nat->Rx) (Ts:Nat->Nat->Nd) (Ns:Nat->Nat) (P r q:Nat):FL es Ts Ns P (r+1) q=(FL es Ts Ns P r q || (Uf (Ts r) (Ns r) (TU es Ts r) (UR (Ts r) (Ns r-1)) q || (decide (q=P+r)&&Wp (Ts r) (Ns r-1)))):=by
 unfold FL;rw[ZT,List.any_append];simp
theorem DD (X:Nat->Prop) (gb R:Nat) (tr ad cp:Nat->Nat) (ms:Nat->Pa) (Ts:Nat->Nat->Nd) (Ns:Nat->Nat) (es:Nat->Rx) (ti nd:Nat->Nat) (ar:Gm R Ts Ns es ti nd) (hR:R<=1000) (hP:Y2 es R<=1000) (au:∀r,r<R->Ns r<=20000) (w:World) (hG:GX X gb (Y2 es R) R tr ad cp ms Ts Ns es w):
  Cp 55 #[pT gb] w λe w'=>e=.returned (.slice (some (a_ w.heap.size 0)) (Y2 es R+R) (Y2 es R+R))/\TC w.heap.size (bl (FL es Ts Ns (Y2 es R) R) (Y2 es R+R)) w'/\Bl w w'/\w.heap.size+1<=w'.heap.size:=by
 obtain⟨P,v⟩:=nam (Y2 es R);have ag:¬X w.heap.size:=λh=>by have:=hG.s _ h;omega
 have Z:Hid (∀(r k:Nat) (f':N_) (w':World),r<R->k<Ns r->GX X gb P R tr ad cp ms Ts Ns es w'->TC w.heap.size (bl f' (P+R)) w'->Cp 114 #[pT gb,I6 r,I6 k,.slice (some (a_ w.heap.size 0)) (P+R) (P+R)] w' (WC w.heap.size (P+R) f' (Uf (Ts r) (Ns r) (TU es Ts r) (UR (Ts r) k)) w')):=λr k f' w' n hk h1 h2=>by
  rw[v]at h1 h2 ⊢;exact Rv X gb R tr ad cp ms Ts Ns es ti nd ar hR hP au r n w.heap.size _ ag (k+1) k f' w' (by omega) hk h1 h2
 have ab:Hid (∀(r k:Nat) (w':World),r<R->k<Ns r->TR (tr r) (Ts r) (Ns r) w'->Cp 115 #[.pointer (some (a_ (tr r) 0)),I6 k] w' λe w''=>e=.returned (.bool (Wp (Ts r) k))/\Bl w' w''):=λr k w' n hk h1=>by
  have f:=(ar.t r n).1;have Q:=Vo f.w f.u;exact Vu (tr r) (Ts r) (Ns r) (by have:=au r n;omega) f.w (λi hi=>(f.k i hi).1) (Wp (Ts r)) Q.nl0 Q.nl1 Q.nl2 Q.nl3 (k+1) k w' (by omega) hk h1 (λi hi=>by have:=(f.k i hi).2;omega)
 have aa:Hid (∀r,r<R->1<=Ns r/\Ns r<=20000):=λr n=>⟨(ar.t r n).2.1,au r n⟩
 rw[<-v]at hG hP ⊢;have m:=hyd (Ss gb P R w hP hR hG.gl);have A:Hid (∀w',Bl w w'->GX X gb P R tr ad cp ms Ts Ns es w'):=λw' h=>hG.below h
 have aj:(R:Int)<=1000:=by omega
 clear hG ar au v;go_enter Tryz.func55,Tryz.ntmps55;go_wp2_with fail;refine m.out.mono ?_;rintro e w1 ⟨rfl,T1,B1,s1⟩;clear m;go_wp2
 go_loopw [4] (λx w'=>∃r:Nat,r<=R/\x=I6 r/\TC w.heap.size (bl (FL es Ts Ns P r) (P+R)) w'/\Bl w w'/\w.heap.size+1<=w'.heap.size) (λx _=>R-(intOf x).toNat)
 ·exact⟨0,by omega,rfl,by rw[Wh (g:=λ_=>false) (λq=>by simp[FL])];exact T1,B1,s1⟩
 clear T1 B1 s1;obtain⟨r,n,rfl,O,B,sz⟩:=hrel;have gx:=A.out wr B;obtain⟨ta,tc,ct,y⟩:=gx.t wr (Wq.refl _ _) (Zg _);by_cases j:r<R
 ·have ah:(r:Int)<R:=by omega
  obtain⟨ap,aq,et,H,J⟩:=y r j;subst et;have c1:=J.r;obtain⟨n1,n2⟩:=aa.out r j;obtain⟨z,K⟩:=nam (Ns r-1);rw[show((Ns r:Int)-1)=(z:Int) by omega]at c1;obtain⟨S,l⟩:=nam (tr r);rw[<-l]at c1 H;have HC:=hyd (Z r z _ wr j (by omega) gx O);obtain⟨V,hV⟩:=nam (Wp (Ts r) z);have D:Hid (∀w',TR S (Ts r) (Ns r) w'->Cp 115 #[pT S,I6 z] w' λe w''=>e=.returned (.bool V)/\Bl w' w''):=λw' h1=>by
   rw[hV,l];rw[l]at h1;exact ab r z w' j (by omega) h1
  have E:Hid (∀q,FL es Ts Ns P (r+1) q=((FL es Ts Ns P r q || Uf (Ts r) (Ns r) (TU es Ts r) (UR (Ts r) z) q) || (decide (q=P+r)&&V))):=λq=>by rw[El,hV,K,Bool.or_assoc]
  have F:Hid (∀w',Bl w w'->TR S (Ts r) (Ns r) w'/\w'.cell? (a_ S 1)=some (I6 (z:Int))/\(∃a c,w'.cell? (a_ gb 1)=some (.slice a P c))):=λw' h=>by
   have I:=A.out w' h;obtain⟨_,_,_,h2⟩:=I.t w' (Wq.refl _ _) (Zg _);obtain⟨_,_,_,_,h3⟩:=h2 r j;rw[l];refine⟨h3.tr,?_,I.p w' (Wq.refl _ _) (Zg _)⟩;rw[h3.r];congr 2;omega
  have HB:=hyd B;clear gx y J O hV K l n1 n2 B;go_wp2_with fail;refine HC.out.mono ?_;rintro e w2 ⟨rfl,G,U⟩;have T:=HB.out.trans U.b;obtain⟨M,ae,ak,am,af⟩:=F.out w2 T;have C:=hyd (D w2 M);have ao:w.heap.size+1<=w2.heap.size:=by have:=U.b.size;omega
  have W:=hyd2 G T;clear HC G U T M D c1 H ct;go_wp2_with fail;refine C.out.mono ?_;rintro e w3 ⟨rfl,N⟩;have d:=W.out.1.block (N.block _ (by omega));have o:Bl w w3:=W.out.2.trans (N.mono (by omega));obtain⟨_,_,al,an,ai⟩:=F.out w3 o;have L:w.heap.size+1<=w3.heap.size:=by have:=N.size;omega
  clear C W N ae af;cases V
  ·have Y:Hid (TC w.heap.size (bl (FL es Ts Ns P (r+1)) (P+R)) w3):=by
    show TC _ _ _;rw[Wh (λq=>by rw[E.out q,Bool.and_false,Bool.or_false])];exact d
   clear d;go_wp2;go_roundw
   ·exact⟨r+1,by omega,by go_num,Y,o,L⟩
   simp[intOf];omega
  obtain⟨k1,k2⟩:=d (P+r) _ (YO _ (by omega));have Y:Hid (TC w.heap.size (bl (FL es Ts Ns P (r+1)) (P+R)) (w3.setCell (a_ w.heap.size (P+r)) (.bool true))):=by
   show TC _ _ _;rw[Wh (λq=>by rw[E.out q,Bool.and_true])];exact Jt d (by omega)
  clear d;go_wp2;go_roundw
  ·exact⟨r+1,by omega,by go_num,Y,o.setCell (p:=(a_ w.heap.size (P+r))) (Zg _) _,by rw[Zz];exact L⟩
  simp[intOf];omega
 have⟨hge,hrR⟩:¬(r:Int)<R/\r=R:=by omega
 subst hrR;have ac:=hyd O;clear O gx y;go_wp2;go_ret;exact⟨rfl,ac,B,sz⟩
theorem Gw:∃i,Tryz.prog.info? 94=some i/\i.zero=some (.pointer none)/\i.size=1/\i.bytes=8:=by
 have h1:(Tryz.prog.info? 94).isSome=true:=by kernel_rfl
 obtain⟨i,a⟩:=Zx.1 h1;refine⟨i,a,?_,?_,?_⟩
 ·have:((Tryz.prog.info? 94).bind (·.zero))=some (.pointer none):=by kernel_rfl
  rw[a]at this;exact this
 ·have:((Tryz.prog.info? 94).map (·.size))=some 1:=by kernel_rfl
  rw[a]at this;simpa using this
 have:((Tryz.prog.info? 94).map (·.bytes))=some 8:=by kernel_rfl
 rw[a]at this;simpa using this
theorem Qp:∃i,Tryz.prog.info? 23=some i/\i.zero=some (sN)/\i.size=1/\i.bytes=24:=by
 have h1:(Tryz.prog.info? 23).isSome=true:=by kernel_rfl
 obtain⟨i,a⟩:=Zx.1 h1;refine⟨i,a,?_,?_,?_⟩
 ·have:((Tryz.prog.info? 23).bind (·.zero))=some (sN):=by kernel_rfl
  rw[a]at this;exact this
 ·have:((Tryz.prog.info? 23).map (·.size))=some 1:=by kernel_rfl
  rw[a]at this;simpa using this
 have:((Tryz.prog.info? 23).map (·.bytes))=some 24:=by kernel_rfl
 rw[a]at this;simpa using this
def Wt (base:Nat) (te:TypeId) (v:Value) (l:List Value) (w:World):Prop:=w.ownsRow base te 1 v l.length l
theorem Wt.nil (base:Nat) (y:TypeId) (w:World):Wt base y (sN) [] w:=⟨rfl,Or.inl ⟨rfl,rfl⟩⟩
theorem Wt.form {y:TypeId}{l:List Value} (h:Wt base y v l w):∃ad cap,v=.slice ad l.length cap/\∀i u,l[i]?=some u->∃g,ad=some (a_ g 0)/\w.cell? (a_ g i)=some u:=by
 rcases h.2 with ⟨rfl,h0⟩|⟨g,cap,c,rfl,h1,h2,h3⟩
 ·refine⟨none,0,by rw[h0],λi u a=>?_⟩;have:=(Zi.1 a).1;omega
 refine⟨some (a_ g 0),cap,rfl,λi u a=>⟨g,rfl,?_⟩⟩;have b:=h.cells (g:=g) rfl i u a;rw[Addr.add_lit,Zn]at b;exact b
theorem Wt.il {y:TypeId}{l:List Nat} (h:Wt base y v (l.map λx:Nat=>.int .i64 (x:Int)) w):∃ad cap,v=.slice ad l.length cap/\IL ad (λi=>((l.getD i 0:Nat):Int)) l.length w:=by
 obtain⟨ad,cap,e,c⟩:=h.form;rw[Zy]at e;refine⟨ad,cap,e,λi d=>?_⟩;obtain⟨x,a⟩:∃x,l[i]?=some x:=⟨_,Zd d⟩;obtain⟨g,b,e2⟩:=c i (I6 (x:Int)) (by rw[List.getElem?_map,a];rfl);refine⟨g,0,b,?_⟩;rw[Zn,e2];simp only[Zf,a,Option.getD_some]
theorem YK (ts te:TypeId) {z:Value}{bs:Nat} (hund:Tryz.prog.underlying ts=some (.slice te)) (hinf:∃i,Tryz.prog.info? te=some i/\i.zero=some z/\i.size=1/\i.bytes=bs) (hz:z.cells.size=1) (hbs:bs<=24)
  (hgd:o.guard=none) (s x:Operand) (ho:o.op=.call { callee:=.builtin .append,args:=#[s,x],argTypes:=#[ts,ts] }) (base:Nat)
  (v:Value) (l:List Value) (hs:a.eval s=v) (hown:Wt base te v l w) (hn:l.length<=1000000)
  (B:Nat) (t:Value) (ht:t.oneCell'=true) (hx:a.eval x=sL B 1 1) (hnews:w.cell? (a_ B 0)=some t) (hbase:base<=w.heap.size) (H:Nat) (hH:w.heap.size=H)
  (h:∀g cap w',Wt base te (sL g (l.length+1) cap) (l++[t]) w'->w.grownBy w' v.ownBlock->(v.ownBlock=some g\/g=H)->g<w'.heap.size->wpList Tryz.prog ops Q rest (a.put o.dst (sL g (l.length+1) cap)) w'):wpList Tryz.prog ops Q (o::rest) a w:=by
 obtain⟨i,k,c,d,e⟩:=hinf;refine wpList_append_lies w hgd s x ts ho base te i z 1 bs hund k c d e hz (by omega) v l.length l hs hown (a_ B 0) 1 1 [t] hx rfl (λj u b=>?_) (by simp[ht]) (by omega) (by unfold maxLen;omega) (by have:(l.length+1)*bs<=1000001*24:=Nat.mul_le_mul (by omega) hbs;omega) hbase H hH ?_
 ·rw[Addr.add_lit,Zn];cases j with
  |zero=>simp at b;subst b;exact hnews
  |succ j=>simp at b
 intro g cap w' h1 h2 h3 f;refine h g cap w' ?_ h2 h3 f;unfold Wt;rw[Zl];exact h1
def DE:Nat->TypeId
 |0=>94
 |1=>3
 |2=>3
 |3=>23
 |_=>78
def Yk {α:Type} (f:Nat->α) (i:Nat) (x:α) (j:Nat):α:=if j=i then x else f j
theorem Y0 {α:Type} (f:Nat->α) (i:Nat) (x:α):Yk f i x i=x:=by simp[Yk]
theorem Y5 {α:Type} (f:Nat->α) {i j:Nat} (x:α) (h:j≠i):Yk f i x j=f j:=by simp[Yk,h]
structure G5 (gb base n:Nat) (ty:Nat->TypeId) (vs:Nat->Value) (ls:Nat->List Value) (X:Nat->Prop) (w:World):Prop where
 c:TC gb ((List.range n).map vs) w
 o:∀i,i<n->Wt base (ty i) (vs i) (ls i) w
 d:∀i j k,i<n->j<n->i≠j->(vs i).ownBlock=some k->(vs j).ownBlock≠some k
 x:∀k,X k->k<w.heap.size/\k≠gb/\∀i,i<n->(vs i).ownBlock≠some k
 g:gb<base
theorem G5.cell {z:Nat->TypeId} (h:G5 gb base n z vs ls X w) {i:Nat} (y:i<n):w.cell? (a_ gb i)=some (vs i)/\w.frozen? (a_ gb i)=false:=h.c i (vs i) (by simp[y])
theorem G5.lt {z:Nat->TypeId} (h:G5 gb base n z vs ls X w) (y:0<n):gb<w.heap.size:=Ze w _ (h.cell y).1
theorem G5.keep {y:Nat->TypeId} (h:G5 gb base n y vs ls X w) (h0:w'.heap[gb]?=w.heap[gb]?) (z:∀i k,i<n->(vs i).ownBlock=some k->w'.heap[k]?=w.heap[k]?) (H:∀k,X' k->k<w'.heap.size/\k≠gb/\∀i,i<n->(vs i).ownBlock≠some k):G5 gb base n y vs ls X' w':=
 ⟨h.c.block h0,λi b=>XH (h.o i b) (λk a=>z i k b a),h.d,H,h.g⟩
theorem G5.below {z:Nat->TypeId} (h:G5 gb base n z vs ls X w) (H:0<n) (y:Bl w w'):G5 gb base n z vs ls X w':=
 h.keep (y.block _ (h.lt H)) (λi k b a=>y.block k ((h.o i b).lt k a).2) (λk a=>⟨by have:=(h.x k a).1;have:=y.size;omega,(h.x k a).2⟩)
theorem G5.more {y:Nat->TypeId} (h:G5 gb base n y vs ls X w) (z:∀k,X' k->X k\/(k<w.heap.size/\k≠gb/\∀i,i<n->(vs i).ownBlock≠some k)):G5 gb base n y vs ls X' w:=
 ⟨h.c,h.o,h.d,λk a=>by
  rcases z k a with h1|h1
  ·exact h.x k h1
  exact h1,h.g⟩
theorem MB (y:i<n) (v:Value):((List.range n).map vs).set i v=(List.range n).map (Yk vs i v):=by
 refine List.ext_getElem? (λj=>?_);by_cases a:j<n
 ·by_cases e:j=i
  ·subst e;rw[List.getElem?_set_self (by simpa using a)];simp[a,Y0]
  rw[List.getElem?_set_ne (λq=>e q.symm)];simp[a,Y5 vs v e]
 rw[ZB (by simp;omega),ZB (by simp;omega)]
theorem G5.app {gb base n:Nat}{Z:Nat->TypeId}{vs:Nat->Value}{ls:Nat->List Value}{X:Nat->Prop}{w w5:World} (h:G5 gb base n Z vs ls X w) {i:Nat} (H:i<n) {t:Value}{g len cap:Nat} (Y:w.grownBy w5 (vs i).ownBlock) (ho:Wt base (Z i) (.slice (some ⟨g,0,none⟩) len cap) (ls i++[t]) w5) (J:(vs i).ownBlock=some g\/g=w.heap.size):
  G5 gb base n Z (Yk vs i (.slice (some ⟨g,0,none⟩) len cap)) (Yk ls i (ls i++[t])) X (w5.setCell ⟨gb,i,none⟩ (.slice (some ⟨g,0,none⟩) len cap))/\Wq X w (w5.setCell ⟨gb,i,none⟩ (.slice (some ⟨g,0,none⟩) len cap))/\w.heap.size<=(w5.setCell ⟨gb,i,none⟩ (.slice (some ⟨g,0,none⟩) len cap)).heap.size /\
  (∀k,k<w.heap.size->k≠gb->(vs i).ownBlock≠some k->(w5.setCell ⟨gb,i,none⟩ (.slice (some ⟨g,0,none⟩) len cap)).heap[k]?=w.heap[k]?):=by
 have B:=h.lt (by omega);have A:=h.g;have D:=(ho.lt g rfl).1;obtain⟨u,v⟩:∃u,u=w5.setCell (a_ gb i) (sL g len cap):=⟨_,rfl⟩;have r:∀k,k≠gb->u.heap[k]?=w5.heap[k]?:=λk a=>by rw[v];exact Zq w5 (a_ gb i) _ k (λe=>a e)
 have F:u.heap.size=w5.heap.size:=by rw[v,Zz]
 have E:=Y.size;have b:∀k,k<w.heap.size->k≠gb->(vs i).ownBlock≠some k->u.heap[k]?=w.heap[k]?:=λk h1 h2 h3=>by rw[r k h2,Y.block k h1 (λe=>h3 e.symm)]
 have q:∀j,j<n->∀k,(vs j).ownBlock=some k->k≠gb:=λj f k a=>by have:=((h.o j f).lt k a).1;omega
 have s:w5.heap[gb]?=w.heap[gb]?:=Y.block gb B (λe=>q i H gb e.symm rfl);rw[<-v];refine⟨⟨?_,λj f=>?_,λj l k f y p a=>?_,λk a=>?_,A⟩,λk a=>b k (h.x k a).1 (h.x k a).2.1 ((h.x k a).2.2 i H),by omega,b⟩
 ·rw[v,<-MB H];exact(h.c.block s).set i (by simpa using H) _
 ·by_cases e:j=i
  ·subst e;rw[Y0,Y0];exact XH ho (λk a=>r k (by
     have m:g=k:=Zh a;omega))
  rw[Y5 _ _ e,Y5 _ _ e];exact XH (h.o j f) (λk a=>b k ((h.o j f).lt k a).2 (q j f k a) (λe2=>h.d j i k f H e a e2))
 ·by_cases C:j=i
  ·subst C;rw[Y0]at a;have m:g=k:=Zh a;rw[Y5 _ _ (λe=>p e.symm)];intro e2;rcases J with h1|h1
   ·exact h.d j l k f y p (m▸h1) e2
   have:=((h.o l y).lt k e2).2;omega
  rw[Y5 _ _ C]at a;by_cases e2:l=i
  ·subst e2;rw[Y0];intro z;have m:g=k:=Zh z;rcases J with h1|h1
   ·exact h.d j l k f y p a (m▸h1)
   have:=((h.o j f).lt k a).2;omega
  rw[Y5 _ _ e2];exact h.d j l k f y p a
 refine⟨by have:=(h.x k a).1;omega,(h.x k a).2.1,λj f=>?_⟩;by_cases e:j=i
 ·subst e;rw[Y0];intro z;have m:g=k:=Zh z;rcases J with h1|h1
  ·exact(h.x k a).2.2 j f (m▸h1)
  have:=(h.x k a).1;omega
 rw[Y5 _ _ e];exact(h.x k a).2.2 j f
variable {T:Nat->Nd}
theorem D7.mono {m:Pa} (h:D7 X tb T N g cap m w) (hs:∀k,X' k->k<w.heap.size) (y:∀k,X k->X' k):D7 X' tb T N g cap m w:=
 ⟨hs,λw' h1 h2=>h.t w' (λk a=>h1 k (y k a)) h2⟩
def VD (x:Nat):Value:=.int .i64 (x:Int)
structure Ed (Ts:Nat->Nat->Nd) (Ns:Nat->Nat) (es:Nat->Rx) (ti nd:List Nat) (c L:Nat):Prop where
 a:ti.length=L
 b:nd.length=L
 p:∀p,p<L->ti.getD p 0<c/\nd.getD p 0<Ns (ti.getD p 0)/\(Ts (ti.getD p 0) (nd.getD p 0)).kind=0/\p=Y2 es (ti.getD p 0)+YG (Ts (ti.getD p 0)) (nd.getD p 0)
theorem Ed.nil (Ts:Nat->Nat->Nd) (Ns:Nat->Nat) (es:Nat->Rx):Ed Ts Ns es [] [] 0 0:=⟨rfl,rfl,λp a=>by omega⟩
theorem Ed.tree {ti nd:List Nat}{L:Nat} (h:Ed Ts Ns es ti nd c L) (T:Nat->Nd) (N:Nat):Ed (Yk Ts c T) (Yk Ns c N) es ti nd (c+1) L:=
 ⟨h.a,h.b,λp f=>by
  obtain⟨h1,h2,h3,d⟩:=h.p p f;have e:ti.getD p 0≠c:=by omega
  rw[Y5 _ _ e,Y5 _ _ e];exact⟨by omega,h2,h3,d⟩⟩
theorem Sa {l:List Nat}{p:Nat} (h:p<l.length) (x:Nat):(l++[x]).getD p 0=l.getD p 0:=by
 simp only[Zf,Zv h]
theorem R8 (l:List Nat) (x:Nat):(l++[x]).getD l.length 0=x:=by
 simp[Zf]
theorem Ed.letter {ti nd:List Nat}{L:Nat} (h:Ed Ts Ns es ti nd (c+1) L) (z:k<Ns c) (h0:(Ts c k).kind=0) (y:L=Y2 es c+YG (Ts c) k):Ed Ts Ns es (ti++[c]) (nd++[k]) (c+1) (L+1):=
 ⟨by simp[h.a],by simp[h.b],λp g=>by
  by_cases e:p<L
  ·rw[Sa (by rw[h.a];exact e),Sa (by rw[h.b];exact e)];exact h.p p e
  have d:p=L:=by omega
  subst d;have f:(ti++[c]).getD p 0=c:=by rw[<-h.a];exact R8 ti c
  have e2:(nd++[k]).getD p 0=k:=by rw[<-h.b];exact R8 nd k
  rw[f,e2];exact⟨by omega,z,h0,y⟩⟩
def XN (n:Nat):List Value:=(List.range n).map λ_=>.int .i64 0
theorem VJ (w:World) (n:Nat) (y:n<=1000000):(Instr.makeSlice 23 (I6 (n:Int)) (I6 (n:Int))).run Tryz.prog w=.ok (.slice (some (a_ w.heap.size 0)) n n) (w.alloc (.cells (XN n).toArray 3)):=by
 obtain⟨i,b,hz,hs,a⟩:=Wi;have h:=run_make (P:=Tryz.prog) w 23 3 i (I6 0) u_f b hz .i64 .i64 n n (by omega) (by omega) (by rw[a];omega) (by omega);rw[hs]at h;simp only[ZE,Nat.mul_one]at h;rw[show(Value.int .i64 0).cells=#[I6 0] from rfl,SX]at h;exact h
def inl (f:Nat->Int) (n:Nat):List Value:=(List.range n).map λi=>.int .i64 (f i)
theorem XA (f:Nat->Int) (n:Nat):(inl f n).length=n:=by simp[inl]
theorem Xk (f:Nat->Int) {n i:Nat} (h:i<n):(inl f n)[i]?=some (I6 (f i)):=by simp[inl,h]
theorem Yr {f g:Nat->Int} (h:∀i,i<n->f i=g i):inl f n=inl g n:=by
 unfold inl;exact ZO (λi a=>by rw[h i (by simpa using a)])
theorem WJ (f:Nat->Int) (n i:Nat) (x:Int):(inl f n).set i (I6 x)=inl (λj=>if j=i then x else f j) n:=by
 refine List.ext_getElem? (λj=>?_);by_cases a:j<n
 ·rw[Xk _ a];by_cases e:j=i
  ·subst e;rw[List.getElem?_set_self (by rw[XA];exact a)];simp
  rw[List.getElem?_set_ne (λq=>e q.symm),Xk _ a];simp[e]
 rw[ZB (by simp[XA];omega),ZB (by rw[XA];omega)]
theorem FE {f:Nat->Int} (h:TC b (inl f n) w):IL (some (a_ b 0)) f n w:=λi a=>⟨b,0,rfl,by rw[Zn];exact(h i _ (Xk f a)).1⟩
def EW (T:Nat->Nd) (n0 k m:Nat):Int:=if m<k/\(T m).kind=0 then ((n0+YG T m:Nat):Int) else 0
structure GW (gb base:Nat) (i:Nat) (es:Nat->Rx) (tr ad cp xb:Nat->Nat) (ms:Nat->Pa) (Ts:Nat->Nat->Nd) (Ns:Nat->Nat) (ti nd:List Nat) (vs:Nat->Value) (ls:Nat->List Value) (X:Nat->Prop) (w0 w:World):Prop where
 g:G5 gb base 5 DE vs ls X w
 l0:ls 0=(List.range i).map fun r=>.pointer (some ⟨tr r,0,none⟩)
 l1:ls 1=ti.map VD
 l2:ls 2=nd.map VD
 l3:ls 3=(List.range i).map fun r=>.slice (some ⟨xb r,0,none⟩) (Ns r) (Ns r)
 l4:ls 4=[]
 t:∀r,r<i->JE (Ts r) (Ns r)/\1<=Ns r/\Ns r<=20000/\Good (Ts r) (Ns r) 0 (Ns r-1) (es r)/\D7 X (tr r) (Ts r) (Ns r) (ad r) (cp r) (ms r) w
 x:∀r,r<i->∀w',Wq X w w'->w.heap.size<=w'.heap.size->IL (some ⟨xb r,0,none⟩) (Cw es Ts r) (Ns r) w'
 p:Ed Ts Ns es ti nd i (Y2 es i)
 b:Below w0.heap.size w0 w
 s:w0.heap.size<=gb
structure IS (gb base ib:Nat) (lx:List Value) (vs:Nat->Value) (ls:Nat->List Value) (X:Nat->Prop) (w0 w1 w:World):Prop where
 g:G5 gb base 5 DE vs ls X w
 x:TC ib lx w
 l:ib<w.heap.size
 d:∀j,j<5->(vs j).ownBlock≠some ib
 n:¬X ib/\ib≠gb
 a:Wq X w1 w
 z:w1.heap.size<=w.heap.size
 b:Below w0.heap.size w0 w
 s:w0.heap.size<=gb/\w0.heap.size<=ib
theorem IS.below (h:IS gb base ib lx vs ls X w0 w1 w) (y:Bl w w'):IS gb base ib lx vs ls X w0 w1 w':=
 ⟨h.g.below (by omega) y,h.x.block (y.block ib h.l),by have:=y.size;have:=h.l;omega,h.d,h.n,h.a.trans (λk c=>y.block k (h.g.x k c).1),by have:=y.size;have:=h.z;omega,h.b.trans (y.mono h.b.size),h.s⟩
theorem IS.put {gb base ib:Nat}{lx:List Value}{vs:Nat->Value}{ls:Nat->List Value}{X:Nat->Prop}{w0 w1 w:World} (h:IS gb base ib lx vs ls X w0 w1 w) {k:Nat} (y:k<lx.length) (u:Value):IS gb base ib (lx.set k u) vs ls X w0 w1 (w.setCell (a_ ib k) u):=by
 have f:∀q,q≠ib->(w.setCell (a_ ib k) u).heap[q]?=w.heap[q]?:=λq c=>Zq w (a_ ib k) _ q (λe=>c e)
 have hs:(w.setCell (a_ ib k) u).heap.size=w.heap.size:=Zz ..;refine⟨h.g.keep (f gb (λe=>h.n.2 e.symm)) (λi q j c=>f q (λe=>h.d i j (e▸c))) (λq c=>⟨by rw[hs];exact(h.g.x q c).1,(h.g.x q c).2⟩),h.x.set k y u,by rw[hs];exact h.l,h.d,h.n,h.a.trans (λq c=>f q (λe=>h.n.1 (e▸c))),by rw[hs];exact h.z,h.b.setCell (p:=(a_ ib k)) h.s.2 u,h.s⟩
theorem IS.app {gb base ib:Nat}{lx:List Value}{vs:Nat->Value}{ls:Nat->List Value}{X:Nat->Prop}{w0 w1 w w5:World} (h:IS gb base ib lx vs ls X w0 w1 w) {i:Nat} (H:i<5) {t:Value}{g len cap:Nat} (Y:w.grownBy w5 (vs i).ownBlock) (Z:Wt base (DE i) (.slice (some ⟨g,0,none⟩) len cap) (ls i++[t]) w5) (J:(vs i).ownBlock=some g\/g=w.heap.size):
  IS gb base ib lx (Yk vs i (.slice (some ⟨g,0,none⟩) len cap)) (Yk ls i (ls i++[t])) X w0 w1 (w5.setCell ⟨gb,i,none⟩ (.slice (some ⟨g,0,none⟩) len cap)):=by
 obtain⟨m,f,A,y⟩:=h.g.app H Y Z J;have u:=h.g.g;have hs:=h.s;refine⟨m,h.x.block (y ib h.l h.n.2 (h.d i H)),by have:=h.l;omega,λj c=>?_,h.n,h.a.trans f,by have:=h.z;omega,?_,h.s⟩
 ·by_cases e:j=i
  ·subst e;rw[Y0];intro e2;have r:g=ib:=Zh e2;rcases J with h1|h1
   ·exact h.d j c (r▸h1)
   have:=h.l;omega
  rw[Y5 _ _ e];exact h.d j c
 have k:Bl w0 w5:=h.b.grown Y (by have:=h.l;omega) (λq v=>by have:=((h.g.o i H).lt q v).1;omega);exact k.setCell (p:=⟨gb,i,none⟩) hs.1 _
structure GI (gb base i:Nat) (es:Nat->Rx) (ib k:Nat) (L0 L3:List Value) (Ts:Nat->Nat->Nd) (Ns:Nat->Nat) (ti nd:List Nat) (vs:Nat->Value) (ls:Nat->List Value) (X:Nat->Prop) (w0 w1 w:World):Prop where
 st:IS gb base ib (inl (EW (Ts i) (Y2 es i) k) (Ns i)) vs ls X w0 w1 w
 l0:ls 0=L0
 l1:ls 1=ti.map VD
 l2:ls 2=nd.map VD
 l3:ls 3=L3
 l4:ls 4=[]
 p:Ed Ts Ns es ti nd (i+1) (Y2 es i+YG (Ts i) k)
theorem EY (y:(T k).kind≠0) (m:Nat):EW T n0 (k+1) m=EW T n0 k m:=by
 unfold EW;by_cases e:m=k
 ·subst e;rw[if_neg (λq=>y q.2),if_neg (λq=>y q.2)]
 by_cases e2:m<k
 ·simp only[e2,show m<k+1 by omega]
 simp only[e2,show ¬m<k+1 by omega]
theorem DH (y:(T k).kind=0) (m:Nat):EW T n0 (k+1) m=if m=k then ((n0+YG T k:Nat):Int) else EW T n0 k m:=by
 unfold EW;by_cases e:m=k
 ·subst e;rw[if_pos ⟨by omega,y⟩,if_pos rfl]
 rw[if_neg e];by_cases e2:m<k
 ·simp only[e2,show m<k+1 by omega]
 simp only[e2,show ¬m<k+1 by omega]
theorem GI.skip {ti nd:List Nat} (h:GI gb base i es ib k L0 L3 Ts Ns ti nd vs ls X w0 w1 w) (y:(Ts i k).kind≠0):GI gb base i es ib (k+1) L0 L3 Ts Ns ti nd vs ls X w0 w1 w:=
 ⟨by rw[Yr (λm _=>EY y m)];exact h.st,h.l0,h.l1,h.l2,h.l3,h.l4,by simp only[YG,if_neg y,Nat.add_zero];exact h.p⟩
theorem GI.letter {ti nd:List Nat}{y:Nat->Value} (h:GI gb base i es ib k L0 L3 Ts Ns ti nd vs ls X w0 w1 w) (z:(Ts i k).kind=0) (H:k<Ns i)
  (J:IS gb base ib ((inl (EW (Ts i) (Y2 es i) k) (Ns i)).set k (I6 ((Y2 es i+YG (Ts i) k:Nat):Int))) y (Yk (Yk ls 1 (ls 1++[VD i])) 2 (ls 2++[VD k])) X w0 w1 w'):GI gb base i es ib (k+1) L0 L3 Ts Ns (ti++[i]) (nd++[k]) y (Yk (Yk ls 1 (ls 1++[VD i])) 2 (ls 2++[VD k])) X w0 w1 w':=by
 refine⟨?_,?_,?_,?_,?_,?_,?_⟩
 ·rw[WJ]at J;rw[Yr (λm _=>DH z m)];exact J
 ·rw[Y5 _ _ (by omega),Y5 _ _ (by omega)];exact h.l0
 ·rw[Y5 _ _ (by omega),Y0,h.l1,List.map_append];rfl
 ·rw[Y0,h.l2,List.map_append];rfl
 ·rw[Y5 _ _ (by omega),Y5 _ _ (by omega)];exact h.l3
 ·rw[Y5 _ _ (by omega),Y5 _ _ (by omega)];exact h.l4
 simp only[YG,if_pos z];rw[<-ZN];exact h.p.letter H z rfl
theorem GW.next {ad:Nat->Nat}{ti nd:List Nat} (h:GW gb base i es tr ad cp xb ms Ts Ns ti nd vs ls X w0 w)
  {tb g cap N:Nat}{m:Pa}{T:Nat->Nd}{X1 X2:Nat->Prop}{ib:Nat}{ac ab:List Nat}{af:Nat->Value}{aa:Nat->List Value}{w1 w2:World} (h1:JE T N) (h2:1<=N) (h3:N<=20000) (h4:Good T N 0 (N-1) (es i)) (h5:D7 X1 tb T N g cap m w1) (hX:∀k,X k->X1 k) (hA:Wq X w w1) (hs:w.heap.size<=w1.heap.size)
  (hG:GI gb base i es ib N ((List.range (i+1)).map λr=>.pointer (some (a_ (Yk tr i tb r) 0))) (ls 3) (Yk Ts i T) (Yk Ns i N) ac ab af aa X1 w0 w1 w2)
  {ae:Nat->Value}{w3:World} (Z:∀k,X2 k<->X1 k\/k=ib) (Y:IS gb base ib (inl (EW (Yk Ts i T i) (Y2 es i) N) (Yk Ns i N i)) ae (Yk aa 3 (aa 3++[sL ib N N])) X1 w0 w1 w3):
  GW gb base (i+1) es (Yk tr i tb) (Yk ad i g) (Yk cp i cap) (Yk xb i ib) (Yk ms i m) (Yk Ts i T) (Yk Ns i N) ac ab ae (Yk aa 3 (aa 3++[sL ib N N])) X2 w0 w3:=by
 have u:=hA.trans (λk c=>Y.a k (hX k c));have hz:w.heap.size<=w3.heap.size:=by have:=Y.z;omega
 have f:∀k,X2 k->k<w3.heap.size:=λk c=>by
  rcases (Z k).1 c with h|h
  ·exact(Y.g.x k h).1
  rw[h];exact Y.l
 refine⟨Y.g.more (λk c=>?_),?_,?_,?_,?_,?_,λr C=>?_,λr C w' ha E=>?_,?_,Y.b,Y.s.1⟩
 ·rcases (Z k).1 c with h|h
  ·exact Or.inl h
  subst h;exact Or.inr ⟨Y.l,Y.n.2,λj D=>Y.d j D⟩
 ·rw[Y5 _ _ (by omega)];exact hG.l0
 ·rw[Y5 _ _ (by omega)];exact hG.l1
 ·rw[Y5 _ _ (by omega)];exact hG.l2
 ·rw[Y0,hG.l3,h.l3,ZT,List.map_append];congr 1
  ·refine ZO (λr C=>?_);have v:r≠i:=by have:=ZI.1 C;omega
   rw[Y5 _ _ v,Y5 _ _ v]
  simp[Y0]
 ·rw[Y5 _ _ (by omega)];exact hG.l4
 ·by_cases e:r=i
  ·subst e;simp only[Y0];exact⟨h1,h2,h3,h4,(h5.keep Y.a Y.z).mono f (λk c=>(Z k).2 (Or.inl c))⟩
  obtain⟨G,H,I,J,K⟩:=h.t r (by omega);simp only[Y5 _ _ e];exact⟨G,H,I,J,(K.keep u hz).mono f (λk c=>(Z k).2 (Or.inl (hX k c)))⟩
 ·by_cases e:r=i
  ·subst e;rw[Y0,Y0];have F:=Y.x.block (ha ib ((Z ib).2 (Or.inr rfl)));have:=FE F;rw[Y0,Y0]at this;intro q y;obtain⟨b,o,A,e2⟩:=this q y;refine⟨b,o,A,?_⟩;rw[e2];unfold EW Cw TU;rw[Y0];simp only[y,true_and]
  rw[Y5 _ _ e,Y5 _ _ e];have:=h.x r (by omega) w' (u.trans (λk c=>ha k ((Z k).2 (Or.inl (hX k c))))) (by omega);intro q y;obtain⟨b,o,A,e2⟩:=this q y;refine⟨b,o,A,?_⟩;rw[e2];unfold Cw TU;rw[Y5 _ _ e]
 have:=hG.p;rw[Y0]at this;have B:=h4.cl;rw[Nat.sub_add_cancel h2]at B;simp only[YG,Zn]at B;rw[B]at this;exact this
structure D6 (gb base R P:Nat) (es:Nat->Rx) (tr ad cp xb sk:Nat->Nat) (ms:Nat->Pa) (Ts:Nat->Nat->Nd) (Ns:Nat->Nat) (ti nd:List Nat) (p:Nat) (vs:Nat->Value) (ls:Nat->List Value) (X:Nat->Prop) (w0 w:World):Prop where
 g:G5 gb base 5 DE vs ls X w
 l0:ls 0=(List.range R).map fun r=>.pointer (some ⟨tr r,0,none⟩)
 l1:ls 1=ti.map VD
 l2:ls 2=nd.map VD
 l3:ls 3=(List.range R).map fun r=>.slice (some ⟨xb r,0,none⟩) (Ns r) (Ns r)
 l4:ls 4=(List.range p).map fun q=>.slice (some ⟨sk q,0,none⟩) (P+R) (P+R)
 t:∀r,r<R->D7 X (tr r) (Ts r) (Ns r) (ad r) (cp r) (ms r) w
 x:∀r,r<R->∀w',Wq X w w'->w.heap.size<=w'.heap.size->IL (some ⟨xb r,0,none⟩) (Cw es Ts r) (Ns r) w'
 n:∀q,q<p->∀w',Wq X w w'->w.heap.size<=w'.heap.size->BR (some ⟨sk q,0,none⟩) (DO es Ts Ns (fun i=>ti.getD i 0) (fun i=>nd.getD i 0) P q) (P+R) w'
 b:Below w0.heap.size w0 w
 s:w0.heap.size<=gb
def Ck (gb:Nat) (vs:Nat->Value) (X:Nat->Prop) (k:Nat):Prop:=k=gb\/(∃j,j<5/\(vs j).ownBlock=some k)\/X k
theorem D6.gx {ad:Nat->Nat}{ti nd:List Nat}{p:Nat} (h:D6 gb base R P es tr ad cp xb sk ms Ts Ns ti nd p vs ls X w0 w) (y:ti.length=P):GX (Ck gb vs X) gb P R tr ad cp ms Ts Ns es w:=by
 have m:∀w',Wq (Ck gb vs X) w w'->w.heap.size<=w'.heap.size->G5 gb base 5 DE vs ls X w':=λw' ha hs=>h.g.keep (ha gb (Or.inl rfl)) (λi k q b=>ha k (Or.inr (Or.inl ⟨i,q,b⟩))) (λk b=>⟨by have:=(h.g.x k b).1;omega,(h.g.x k b).2⟩)
 have n:∀w',Wq (Ck gb vs X) w w'->Wq X w w':=λw' ha k b=>ha k (Or.inr (Or.inr b))
 refine⟨λk b=>?_,λw' ha hs=>?_,λw' ha hs=>?_,λw' ha hs=>?_⟩
 ·rcases b with h1|⟨j,s,h1⟩|h1
  ·rw[h1];exact h.g.lt (by omega)
  ·exact((h.g.o j s).lt k h1).2
  exact(h.g.x k h1).1
 ·have G:=m w' ha hs;obtain⟨a,c,e,d⟩:=(G.o 0 (by omega)).form;rw[h.l0]at e d;simp only[Zy,List.length_range]at e;refine⟨a,c,by rw[(G.cell (i:=0) (by omega)).1,e],λr f=>?_⟩;obtain⟨g,l,e2⟩:=d r (.pointer (some (a_ (tr r) 0))) (by simp[f]);exact⟨g,0,l,by rw[Zn];exact e2,(h.t r f).t w' (n w' ha) hs⟩
 ·have G:=m w' ha hs;obtain⟨a,c,e,d⟩:=(G.o 1 (by omega)).form;rw[h.l1]at e;simp only[Zy,y]at e;exact⟨a,c,by rw[(G.cell (i:=1) (by omega)).1,e]⟩
 have G:=m w' ha hs;obtain⟨a,c,e,d⟩:=(G.o 3 (by omega)).form;rw[h.l3]at e d;simp only[Zy,List.length_range]at e;refine⟨a,c,by rw[(G.cell (i:=3) (by omega)).1,e],λr f=>?_⟩;obtain⟨g,l,e2⟩:=d r (.slice (some (a_ (xb r) 0)) (Ns r) (Ns r)) (by simp[f]);exact⟨g,0,_,_,l,by rw[Zn];exact e2,h.x r f w' (n w' ha) hs⟩
theorem D6.next {ad:Nat->Nat}{ti nd:List Nat}{p:Nat} (h:D6 gb base R P es tr ad cp xb sk ms Ts Ns ti nd p vs ls X w0 w)
  {w2 w3 w5:World}{F:N_} (J:Bl w w2) (hT:TC w.heap.size (bl F (P+R)) w2) (hs2:w.heap.size<w2.heap.size) (Z:∀q,q<P+R->F q=DO es Ts Ns (λi=>ti.getD i 0) (λi=>nd.getD i 0) P p q) (H:Bl w2 w3)
  {g len cap:Nat} (Y:w3.grownBy w5 (vs 4).ownBlock) (ho:Wt base (DE 4) (.slice (some ⟨g,0,none⟩) len cap) (ls 4++[.slice (some ⟨w.heap.size,0,none⟩) (P+R) (P+R)]) w5) (hb:(vs 4).ownBlock=some g\/g=w3.heap.size):
  D6 gb base R P es tr ad cp xb (Yk sk p w.heap.size) ms Ts Ns ti nd (p+1) (Yk vs 4 (.slice (some ⟨g,0,none⟩) len cap)) (Yk ls 4 (ls 4++[.slice (some ⟨w.heap.size,0,none⟩) (P+R) (P+R)])) (λk=>X k\/k=w.heap.size) w0 (w5.setCell ⟨gb,4,none⟩ (.slice (some ⟨g,0,none⟩) len cap)):=by
 have z:G5 gb base 5 DE vs ls (λk=>X k\/k=w.heap.size) w2:=(h.g.below (by omega) J).more (λk a=>by
  rcases a with h1|h1
  ·exact Or.inl h1
  subst h1;exact Or.inr ⟨hs2,by have:=h.g.lt (by omega);omega,λj f e=>by have:=((h.g.o j f).lt _ e).2;omega⟩)
 obtain⟨A,C,G,_⟩:=(z.below (by omega) H).app (i:=4) (by omega) Y ho hb;have E:=H.size;have c:=Wq.trans (λk a=>H.block k (z.x k a).1) C;have l:=Wq.trans (λk a=>J.block k (h.g.x k a).1) (λk a=>c k (Or.inl a));have m:∀k,X k\/k=w.heap.size->k<(w5.setCell ⟨gb,4,none⟩ (.slice (some ⟨g,0,none⟩) len cap)).heap.size:=λk a=>(A.x k a).1
 have u:=h.b.size;have y:Bl w0 w3:=h.b.trans ((J.mono u).trans (H.mono (by omega)));have D:Bl w0 w5:=y.grown Y y.size (λq B=>by have:=((h.g.o 4 (by omega)).lt q B).1;have:=h.g.g;have:=h.s;omega);refine⟨A,?_,?_,?_,?_,?_,λr d=>((h.t r d).keep l (by omega)).mono m (λk a=>Or.inl a),λr d w' ha v=>h.x r d w' (l.trans (λk a=>ha k (Or.inl a))) (by omega),λq B w' ha v=>?_,D.setCell (p:=⟨gb,4,none⟩) h.s _,h.s⟩
 ·rw[Y5 _ _ (by omega)];exact h.l0
 ·rw[Y5 _ _ (by omega)];exact h.l1
 ·rw[Y5 _ _ (by omega)];exact h.l2
 ·rw[Y5 _ _ (by omega)];exact h.l3
 ·rw[Y0,h.l4,ZT,List.map_append];congr 1
  ·refine ZO (λr d=>?_);rw[Y5 _ _ (by have:=ZI.1 d;omega)]
  simp[Y0]
 by_cases e:q=p
 ·subst e;rw[Y0];intro j f;refine⟨w.heap.size,0,rfl,?_⟩;rw[Zn,<-Z j f];exact((hT.block ((ha _ (Or.inr rfl)).trans (c _ (Or.inr rfl)))) j _ (YO _ f)).1
 rw[Y5 _ _ e];exact h.n q (by omega) w' (l.trans (λk a=>ha k (Or.inl a))) (by omega)
def IC (es:Nat->Rx) (R:Nat) (w:World) (ee:Ending) (w':World):Prop:=
 ∃X tr ad cp ms Ts Ns ti nd,ee=.returned (.pointer (some ⟨w.heap.size,0,none⟩))/\Gm R Ts Ns es ti nd/\(∀r,r<R->Ns r<=20000)/\GX X w.heap.size (Y2 es R) R tr ad cp ms Ts Ns es w'/\GR w.heap.size (Y2 es R) R tr Ts Ns ti nd w'/\NX w.heap.size (Y2 es R) R (DO es Ts Ns ti nd (Y2 es R)) w'/\Below w.heap.size w w'/\w.heap.size<w'.heap.size
theorem D6.post {ad:Nat->Nat}{ti nd:List Nat} (h:D6 gb base R P es tr ad cp xb sk ms Ts Ns ti nd P vs ls X w0 w) (hP:P=Y2 es R) (J:gb=w0.heap.size) (z:Gm R Ts Ns es (λi=>ti.getD i 0) (λi=>nd.getD i 0)) (Z:∀r,r<R->Ns r<=20000) (H:ti.length=P) (Y:nd.length=P):IC es R w0 (.returned (pT gb)) w:=by
 have gx:=h.gx H;subst hP;subst J;refine⟨_,tr,ad,cp,ms,Ts,Ns,_,_,rfl,z,Z,gx,⟨?_,?_,?_,λp j=>?_⟩,?_,h.b,h.g.lt (by omega)⟩
 ·obtain⟨a,c,k,e2⟩:=gx.t w (Wq.refl _ _) (Zg _);refine⟨a,c,k,λr y=>?_⟩;obtain⟨b,o,u,v,x⟩:=e2 r y;exact⟨b,o,u,v,x.tr⟩
 ·have q:=h.g.o 1 (by omega);rw[h.l1]at q;obtain⟨f,d,e,il⟩:=Wt.il (l:=ti) q;rw[H]at e il;exact⟨f,d,by rw[(h.g.cell (i:=1) (by omega)).1,e],il⟩
 ·have s:=h.g.o 2 (by omega);rw[h.l2]at s;obtain⟨f,d,e,il⟩:=Wt.il (l:=nd) s;rw[Y]at e il;exact⟨f,d,by rw[(h.g.cell (i:=2) (by omega)).1,e],il⟩
 ·obtain⟨h1,h2,h3,_⟩:=z.p p j;exact⟨h1,h2,h3⟩
 obtain⟨a,c,e,m⟩:=(h.g.o 4 (by omega)).form;rw[h.l4]at e m;simp only[Zy,List.length_range]at e;refine⟨a,c,by rw[(h.g.cell (i:=4) (by omega)).1,e],λp j=>?_⟩;obtain⟨g,k,e2⟩:=m p (.slice (some (a_ (sk p) 0)) (Y2 es R+R) (Y2 es R+R)) (by simp[j]);exact⟨g,0,_,_,k,by rw[Zn];exact e2,h.n p j w (Wq.refl _ _) (Zg _)⟩
theorem G0 (w:World):(Instr.build 113 #[]).run Tryz.prog w=.ok (.agg #[sN,sN,sN,sN,sN]) w:=by kernel_rfl
theorem GW.first (w:World) (es:Nat->Rx) (y:TypeId):GW w.heap.size (w.heap.size+1) 0 es (λ_=>0) (λ_=>0) (λ_=>0) (λ_=>0) (λ_=>⟨λ_=>.int .i64 0,λ_=>none,λ_=>0⟩) (λ_ _=>RH 0 []) (λ_=>0) [] [] (λ_=>sN) (λ_=>[]) (λ_=>False) w (w.alloc (.cells #[sN,sN,sN,sN,sN] y)):=
 ⟨⟨TC.boxed w [sN,sN,sN,sN,sN] y,λi _=>Wt.nil _ _ _,λi j k _ _ _ h=>(by cases h),λk h=>h.elim,by omega⟩,rfl,rfl,rfl,rfl,rfl,λr a=>by omega,λr a=>by omega,Ed.nil _ _ _,box_bel _ _,Zg _⟩
theorem CD.nod {m:Pa} (h:CD tb T N g cap m w) {k:Nat} (y:k<N):w.cell? (a_ g (k*5))=some (I6 (T k).kind):=by
 have:=(h.n k y).1 0 _ rfl;rw[Nat.add_zero]at this;exact this
theorem J5 (b cx cap R:Nat) (f:Nat->ByteArray) (es:Nat->Rx) (w:World) (h8:R<=8) (hb:b<w.heap.size) (hr:Sg b cx f R w) (cy:∀i,i<R->∀w',Cp 39 #[.string (f i)] w' (K8 w' (es i))) (hP:Y2 es R<=96)
  : Cp 27 #[.slice (some (a_ b cx)) R cap] w (IC es R w):=by
 have hz:=G0;have bQ:∀(w':World) (n:Nat),n<=1000000->(Instr.makeSlice 23 (I6 (n:Int)) (I6 (n:Int))).run Tryz.prog w'=.ok (.slice (some (a_ w'.heap.size 0)) n n) (w'.alloc (.cells (XN n).toArray 3)):=VJ;have bD:Hid (∀(w':World) (n:Nat),n<=1000000->(Instr.makeSlice 23 (I6 (n:Int)) (I6 (n:Int))).run Tryz.prog w'=.ok (.slice (some (a_ w'.heap.size 0)) n n) (w'.alloc (.cells (XN n).toArray 3))):=bQ;have aX:Hid (GW w.heap.size (w.heap.size+1) 0 es (λ_=>0) (λ_=>0) (λ_=>0) (λ_=>0) (λ_=>⟨λ_=>.int .i64 0,λ_=>none,λ_=>0⟩) (λ_ _=>RH 0 []) (λ_=>0) [] [] (λ_=>sN) (λ_=>[]) (λ_=>False) w (w.alloc (.cells #[sN,sN,sN,sN,sN] 113))):=GW.first w es _;have bx:Hid (∀i,i<R->∀w',Cp 39 #[.string (f i)] w' (K8 w' (es i))):=cy;have bC:Hid (Sg b cx f R w):=hr;have cu:(R:Int)<=8:=by omega
 obtain⟨gb,bd⟩:=nam w.heap.size;rw[<-bd]at aX;have aq:=hyd bd;clear cy hr bQ bd;go_enter Tryz.func27,Tryz.ntmps27;go_wp2;clear hz;rw[<-aq.out]
 go_loopw [4] (λx w'=>∃(i:Nat) (tr ad cp xb:Nat->Nat) (ms:Nat->Pa) (Ts:Nat->Nat->Nd) (Ns:Nat->Nat) (ti nd:List Nat) (vs:Nat->Value) (ls:Nat->List Value) (X:Nat->Prop),i<=R/\x=I6 i/\GW gb (gb+1) i es tr ad cp xb ms Ts Ns ti nd vs ls X w w') (λx _=>R-(intOf x).toNat)
 ·exact⟨0,_,_,_,_,_,_,_,_,_,_,_,_,by omega,rfl,aX⟩
 clear aX;obtain⟨i,tr,ad,cp,xb,ms,Ts,Ns,ti,nd,vs,ls,X,hi,rfl,G⟩:=hrel;by_cases be:i<R
 ·have cm:(i:Int)<R:=by omega
  have cs:=bC.out.below hb G.b i be;have HC:=bx.out i be wr;have aW:Hid (Cp 39 #[.string (f i)] wr (K8 wr (es i))):=HC;have I:=hyd G;obtain⟨si,bS⟩:=nam (f i);rw[<-bS]at cs aW;clear G HC bS;go_wp2_with fail;refine aW.out.mono ?_;rintro ee w1 ⟨T,N,Xt,g,bF,m,rfl,aS,bH,b9,az,ai,bK,ak,cd⟩;obtain⟨X1,aA⟩:∃X1:Nat->Prop,X1=λk=>X k\/Xt k:=⟨_,rfl⟩
  have bc:∀k,X1 k->k<w1.heap.size:=λk hk=>by
   rw[aA]at hk;rcases hk with h|h
   ·have:=(I.out.g.x k h).1;omega
   exact ai.s k h
  have bb:=ai.mono bc (λk hk=>by rw[aA];exact Or.inr hk);have bP:∀j,j<5->∀k,(vs j).ownBlock=some k->gb+1<=k/\k<wr.heap.size:=λj hj k hk=>(I.out.g.o j hj).lt k hk
  have cc:=I.out.g.lt (by omega);have G1:G5 gb (gb+1) 5 DE vs ls X1 w1:=(I.out.g.below (by omega) ak).more (λk hk=>by
   rw[aA]at hk;rcases hk with h|h
   ·exact Or.inl h
   have:=bK k h;exact Or.inr ⟨ai.s k h,by omega,λj hj e=>by have:=bP j hj k e;omega⟩)
  obtain⟨tb,bj⟩:=nam wr.heap.size;rw[<-bj]at bb ⊢;obtain⟨a0,c0,e0,_⟩:=(G1.o 0 (by omega)).form;rw[I.out.l0]at e0;simp only[Zy,List.length_range]at e0;have bL:=(G1.cell (i:=0) (by omega)).1;have aN:=box_bel w1 (.cells #[pT tb] 94);have a7:=(G1.below (by omega) aN).o 0 (by omega);rw[e0,I.out.l0]at a7;rw[e0]at bL;have C:(w1.alloc (.cells #[pT tb] 94)).cell? (a_ w1.heap.size 0)=some (pT tb):=by rw[Zm];rfl
  have B:gb+1<=(w1.alloc (.cells #[pT tb] 94)).heap.size:=by have:=aN.size;have:=ak.size;omega
  have aj:=hyd (G1.below (by omega) aN);have aZ:=hyd bb;have J:=hyd6 aS az bj aA ak bc;have ap:=hyd e0;have ar:Hid (((List.range i).map λr=>Value.pointer (some (a_ (tr r) 0))).length=i):=by show _=_;simp
  have cv:i<8:=by omega
  clear aS az ai bK aA bc bb bP G1 e0 aN ak bj cd cs aW;go_wp2_with (first|(with_reducible show wpList _ _ _ (⟨_,Op.call { callee:=Callee.builtin Builtin.append,args:=_,argTypes:=_ },_,_,_,_⟩::_) _ _;refine X9.out ?_));refine⟨?_⟩;refine YK 93 94 Tryz.underlying93 Gw rfl (by omega) (by rfl) _ _ (by rfl) (gb+1) (.slice a0 i c0) _ (by rfl) a7 (by rw[ar.out];omega) w1.heap.size (pT tb) rfl (by rfl) C B _ rfl ?_;rw[ar.out];intro g0 ah w5 A d v _;have ac:w5.cell? (a_ gb 0)=some (.slice a0 i c0)/\w5.frozen? (a_ gb 0)=false:=by
   have:=(aj.out.c.block (d.block gb (aj.out.lt (by omega)) (λe=>by have:=((aj.out.o 0 (by omega)).lt gb (by rw[ap.out];exact e.symm)).1;omega))) 0 (vs 0) rfl;rw[ap.out]at this;exact this
  obtain⟨V,W⟩:=ac;obtain⟨G6,A6,s6,_⟩:=aj.out.app (i:=0) (by omega) (t:=pT tb) (g:=g0) (len:=i+1) (cap:=ah) (by rw[ap.out];exact d) (by rw[I.out.l0];exact A) (by rw[ap.out];exact v);obtain⟨O,h6⟩:=nam (w5.setCell (a_ gb 0) (sL g0 (i+1) ah));have H6:=hyd h6;rw[<-h6]at G6 A6 s6;have ce:=(box_bel w1 (.cells #[pT tb] 94)).size;have al:Wq X1 w1 O:=Wq.trans (λk hk=>(box_bel w1 (.cells #[pT tb] 94)).block k (J.out.2.2.2.2.2 k hk)) A6;have bT:=aZ.out.t O al (by omega);have cT:=bT.c;have B6:Bl w O:=by
   have ak:=J.out.2.2.2.2.1;have x1:=I.out.b.trans (ak.mono I.out.b.size);have x2:=x1.trans ((box_bel w1 (.cells #[pT tb] 94)).mono x1.size);have x3:Bl w w5:=x2.grown d x2.size (λq hq=>by
    have:=((aj.out.o 0 (by omega)).lt q (by rw[ap.out];exact hq)).1;have:=aq.out;omega)
   rw[h6];exact x3.setCell (p:=(a_ gb 0)) (by have:=aq.out;show _<=gb;omega) _
  have bz:Hid (G5 gb (gb+1) 5 DE (Yk vs 0 (sL g0 (i+1) ah)) (Yk ls 0 (ls 0++[pT tb])) X1 O/\Wq X1 w1 O/\w1.heap.size<=O.heap.size/\Bl w O):=⟨G6,al,by omega,B6⟩;have bR:=bD.out O N (by omega);have cr:(N:Int)<=20000:=by omega
  clear G6 A6 s6 h6 A d v a7 C B al bT B6 ce;go_wp2_with (first|(with_reducible refine gld 114 ?_;refine X9.out ?_));refine⟨?_⟩;rw[<-H6.out];clear V W bL;go_wp2;obtain⟨ib,aC⟩:=nam O.heap.size;rw[<-aC];have aB:=box_bel O (.cells (XN N).toArray 3);obtain⟨L0,a6⟩:=nam ((List.range (i+1)).map λr=>Value.pointer (some (a_ (Yk tr i tb r) 0)));have bW:=hyd a6;have bw:Hid (GI gb (gb+1) i es ib 0 L0 (ls 3) (Yk Ts i T) (Yk Ns i N) ti nd (Yk vs 0 (sL g0 (i+1) ah)) (Yk ls 0 (ls 0++[pT tb])) X1 w w1 (O.alloc (.cells (XN N).toArray 3))):=by
   obtain⟨G6,al,cw,B6⟩:=bz.out;refine⟨⟨G6.below (by omega) aB,?_,by rw[aC];simp,λj hj e=>?_,⟨λe=>?_,?_⟩,al.trans (λk hk=>aB.block k (G6.x k hk).1),by have:=aB.size;omega,B6.trans (aB.mono B6.size),by have:=aq.out;exact⟨by omega,by rw[aC];exact B6.size⟩⟩,?_,?_,?_,?_,?_,?_⟩
   ·have h1:=TC.boxed O (XN N) 3;rw[<-aC]at h1;rw[Y0,Y0,Yr (g:=λ_=>0) (λq _=>by unfold EW;rw[g_])];exact h1
   ·have:=((G6.o j hj).lt ib e).2;omega
   ·have:=(G6.x ib e).1;omega
   ·have:=G6.lt (by omega);omega
   ·rw[Y0,I.out.l0,a6,ZT,List.map_append];congr 1
    ·refine ZO (λr hr=>?_);rw[Y5 _ _ (by have:=ZI.1 hr;omega)]
    simp[Y0]
   ·rw[Y5 _ _ (by omega)];exact I.out.l1
   ·rw[Y5 _ _ (by omega)];exact I.out.l2
   ·rw[Y5 _ _ (by omega)]
   ·rw[Y5 _ _ (by omega)];exact I.out.l4
   rw[Y0];exact I.out.p.tree T N
  clear bz aB aC bR a6 cT aj cc
  go_loopw [7] (λx w'=>∃(k:Nat) (ag af:List Nat) (Z:Nat->Value) (D:Nat->List Value),k<=N/\x=I6 k/\GI gb (gb+1) i es ib k L0 (ls 3) (Yk Ts i T) (Yk Ns i N) ag af Z D X1 w w1 w') (λx _=>N-(intOf x).toNat)
  ·exact⟨0,ti,nd,_,_,by omega,rfl,bw⟩
  clear bw;obtain⟨k,ag,af,Z,D,hk,rfl,u⟩:=hrel;have tm:=aZ.out.t wr u.st.a u.st.z;have cT:=tm.c;obtain⟨L,hL⟩:=nam (Y2 es i+YG T k);have cf:L<=96:=by
   have h1:=VF T hk;have h2:=J.out.2.1.cl;rw[Nat.sub_add_cancel bH]at h2;simp only[YG,Zn]at h2;have h3:=XY es (show i+1<=R from be);simp only[Y2]at h3;omega
  have H:=u.p;rw[Y0,<-hL]at H;have HL:=hyd hL;by_cases aM:k<N
  ·have cj:(k:Int)<N:=by omega
   have ck:=tm.nod aM;obtain⟨kd,aD⟩:=nam ((T k).kind);rw[<-aD]at ck;have bY:=hyd aD;have Q:=hyd u;by_cases h0:kd=0
   ·have q0:((kd:Int)==0)=true:=by simp[h0]
    obtain⟨a1,c1,e1,_⟩:=(u.st.g.o 1 (by omega)).form;rw[u.l1,Zy,H.a]at e1;have aa:=(u.st.g.cell (i:=1) (by omega)).1;rw[e1]at aa;obtain⟨a2,c2,e2,_⟩:=(u.st.g.o 2 (by omega)).form;rw[u.l2,Zy,H.b]at e2;have S0:=u.st;rw[Y0,Y0]at S0;obtain⟨x1,x2⟩:=S0.x k _ (Xk _ aM);have S2:=S0.put (k:=k) (by rw[XA];exact aM) (I6 (L:Int));have aO:=box_bel (wr.setCell (a_ ib k) (I6 (L:Int))) (.cells #[I6 (i:Int)] 3);have S3:=S2.below aO;have aK:=S3.g.o 1 (by omega);rw[e1,u.l1]at aK;have U:=(S2.g.cell (i:=1) (by omega)).1;rw[e1]at U;obtain⟨w2,bn⟩:=nam (wr.setCell (a_ ib k) (I6 (L:Int)));have b3:=hyd bn;rw[<-bn]at S2 aO S3 aK U;have C:(w2.alloc (.cells #[I6 (i:Int)] 3)).cell? (a_ w2.heap.size 0)=some (I6 (i:Int)):=by rw[Zm];rfl
    have B:gb+1<=(w2.alloc (.cells #[I6 (i:Int)] 3)).heap.size:=by have:=aO.size;have:=S2.g.lt (by omega);omega
    have au:Hid ((ag.map VD).length=L):=by show _=_;rw[Zy,H.a]
    have av:Hid ((af.map VD).length=L):=by show _=_;rw[Zy,H.b]
    have F:=hyd S3;have aF:=hyd e1;have a5:=hyd e2;have Hl:=hyd2 u.l1 u.l2;clear u S0 S2 S3 aO e1 e2 bn H tm hL aD h0;go_wp2_with (first|(with_reducible refine gst 3 ?_;refine X9.out ?_));refine⟨?_⟩;go_wp2_with (first|(with_reducible refine gld 23 ?_;refine X9.out ?_));refine⟨?_⟩;rw[<-b3.out];clear aa x1 x2 ck cT;go_wp2_with (first|(with_reducible show wpList _ _ _ (⟨_,Op.call { callee:=Callee.builtin Builtin.append,args:=_,argTypes:=_ },_,_,_,_⟩::_) _ _;refine X9.out ?_));refine⟨?_⟩;refine YK 23 3 u_f Wi rfl (by omega) (by rfl) _ _ (by rfl) (gb+1) (.slice a1 L c1) _ (by rfl) aK (by rw[au.out];omega) w2.heap.size (I6 (i:Int)) rfl (by rfl) C B _ rfl ?_;rw[au.out];intro g1 y w5 A d v _;have ac:w5.cell? (a_ gb 1)=some (.slice a1 L c1)/\w5.frozen? (a_ gb 1)=false:=by
     have:=(F.out.g.c.block (d.block gb (F.out.g.lt (by omega)) (λe=>by have:=((F.out.g.o 1 (by omega)).lt gb (by rw[aF.out];exact e.symm)).1;omega))) 1 (Z 1) rfl;rw[aF.out]at this;exact this
    obtain⟨V,W⟩:=ac;have S6:=F.out.app (i:=1) (by omega) (t:=I6 (i:Int)) (g:=g1) (len:=L+1) (cap:=y) (by rw[aF.out];exact d) (by rw[Hl.out.1];exact A) (by rw[aF.out];exact v);obtain⟨O,h6⟩:=nam (w5.setCell (a_ gb 1) (sL g1 (L+1) y));have H6:=hyd h6;rw[<-h6]at S6;have ab:=(S6.g.cell (i:=2) (by omega)).1;rw[Y5 _ _ (by omega),a5.out]at ab;have bq:=box_bel O (.cells #[I6 (k:Int)] 3);have S7:=S6.below bq;have a8:=S7.g.o 2 (by omega);rw[Y5 _ _ (by omega),Y5 _ _ (by omega),a5.out,Hl.out.2]at a8;have aV:(O.alloc (.cells #[I6 (k:Int)] 3)).cell? (a_ O.heap.size 0)=some (I6 (k:Int)):=by rw[Zm];rfl
    have aT:gb+1<=(O.alloc (.cells #[I6 (k:Int)] 3)).heap.size:=by have:=bq.size;have:=S6.g.lt (by omega);omega
    have ao:=hyd S7;clear S6 S7 h6 A d v aK C B bq U F;go_wp2_with (first|(with_reducible refine gld 23 ?_;refine X9.out ?_));refine⟨?_⟩;rw[<-H6.out];clear V W;go_wp2_with (first|(with_reducible show wpList _ _ _ (⟨_,Op.call { callee:=Callee.builtin Builtin.append,args:=_,argTypes:=_ },_,_,_,_⟩::_) _ _;refine X9.out ?_));refine⟨?_⟩;refine YK 23 3 u_f Wi rfl (by omega) (by rfl) _ _ (by rfl) (gb+1) (.slice a2 L c2) _ (by rfl) a8 (by rw[av.out];omega) O.heap.size (I6 (k:Int)) rfl (by rfl) aV aT _ rfl ?_;rw[av.out];intro g2 ay w8 bI M aU _;have aI:Yk Z 1 (sL g1 (L+1) y) 2=.slice a2 L c2:=by rw[Y5 _ _ (by omega),a5.out]
    have ca:w8.cell? (a_ gb 2)=some (.slice a2 L c2)/\w8.frozen? (a_ gb 2)=false:=by
     have:=(ao.out.g.c.block (M.block gb (ao.out.g.lt (by omega)) (λe=>by have:=((ao.out.g.o 2 (by omega)).lt gb (by rw[aI];exact e.symm)).1;omega))) 2 _ rfl;rw[aI]at this;exact this
    obtain⟨ch,ci⟩:=ca;have S9:=ao.out.app (i:=2) (by omega) (t:=I6 (k:Int)) (g:=g2) (len:=L+1) (cap:=ay) (by rw[aI];exact M) (by rw[Y5 _ _ (by omega),Hl.out.2];exact bI) (by rw[aI];exact aU);have aY:Hid (GI gb (gb+1) i es ib (k+1) L0 (ls 3) (Yk Ts i T) (Yk Ns i N) (ag++[i]) (af++[k]) (Yk (Yk Z 1 (sL g1 (L+1) y)) 2 (sL g2 (L+1) ay)) (Yk (Yk D 1 (D 1++[VD i])) 2 (D 2++[VD k])) X1 w w1 (w8.setCell (a_ gb 2) (sL g2 (L+1) ay))):=by
     refine Q.out.letter (by rw[Y0,<-bY.out];simpa using q0) (by rw[Y0];exact aM) ?_;rw[Y0,Y0,<-HL.out];have e3:Yk D 1 (D 1++[Value.int .i64 (i:Int)]) 2=D 2:=Y5 _ _ (by omega);rw[e3]at S9;exact S9
    clear S9 bI M aU a8 aV aT ao Q ab;go_wp2;go_roundw
    ·exact⟨k+1,ag++[i],af++[k],_,_,by omega,by go_num,aY⟩
    simp[intOf];omega
   have q0:((kd:Int)==0)=false:=by simp;omega
   have aY:=hyd (u.skip (by rw[Y0,<-aD];exact h0));clear u tm aD hL H;go_wp2;go_roundw
   ·exact⟨k+1,ag,af,Z,D,by omega,by go_num,aY⟩
   simp[intOf];omega
  have⟨hge,hkN⟩:¬(k:Int)<N/\k=N:=by omega
  subst hkN;obtain⟨a3,c3,e3,_⟩:=(u.st.g.o 3 (by omega)).form;rw[u.l3,I.out.l3,Zy,List.length_range]at e3;have bN:=(u.st.g.cell (i:=3) (by omega)).1;rw[e3]at bN;have bp:=box_bel wr (.cells #[sL ib k k] 23);have S3:=u.st.below bp;have a9:=S3.g.o 3 (by omega);rw[e3,u.l3,I.out.l3]at a9;have C:(wr.alloc (.cells #[sL ib k k] 23)).cell? (a_ wr.heap.size 0)=some (sL ib k k):=by rw[Zm];rfl
  have B:gb+1<=(wr.alloc (.cells #[sL ib k k] 23)).heap.size:=by have:=bp.size;have:=u.st.g.lt (by omega);omega
  have aw:Hid (((List.range i).map λr=>Value.slice (some (a_ (xb r) 0)) (Ns r) (Ns r)).length=i):=by show _=_;simp
  have aG:=hyd e3;have bZ:Hid (D 3=(List.range i).map λr=>Value.slice (some (a_ (xb r) 0)) (Ns r) (Ns r)):=by show _=_;rw[u.l3,I.out.l3]
  have F:=hyd S3;have Q:=hyd u;clear u S3 bp e3 tm hL H;go_wp2_with (first|(with_reducible show wpList _ _ _ (⟨_,Op.call { callee:=Callee.builtin Builtin.append,args:=_,argTypes:=_ },_,_,_,_⟩::_) _ _;refine X9.out ?_));refine⟨?_⟩;refine YK 53 23 u_s Qp rfl (by omega) (by rfl) _ _ (by rfl) (gb+1) (.slice a3 i c3) _ (by rfl) a9 (by rw[aw.out];omega) wr.heap.size (sL ib k k) rfl (by rfl) C B _ rfl ?_;rw[aw.out];intro g1 y w5 A d v _;have ac:w5.cell? (a_ gb 3)=some (.slice a3 i c3)/\w5.frozen? (a_ gb 3)=false:=by
   have:=(F.out.g.c.block (d.block gb (F.out.g.lt (by omega)) (λe=>by have:=((F.out.g.o 3 (by omega)).lt gb (by rw[aG.out];exact e.symm)).1;omega))) 3 (Z 3) rfl;rw[aG.out]at this;exact this
  obtain⟨V,W⟩:=ac;have S6:=F.out.app (i:=3) (by omega) (t:=sL ib k k) (g:=g1) (len:=i+1) (cap:=y) (by rw[aG.out];exact d) (by rw[bZ.out];exact A) (by rw[aG.out];exact v);have bU:Hid (GW gb (gb+1) (i+1) es (Yk tr i tb) (Yk ad i g) (Yk cp i bF) (Yk xb i ib) (Yk ms i m) (Yk Ts i T) (Yk Ns i k) ag af (Yk Z 3 (sL g1 (i+1) y)) (Yk D 3 (D 3++[sL ib k k])) (λq=>X1 q\/q=ib) w (w5.setCell (a_ gb 3) (sL g1 (i+1) y))):=by
   obtain⟨b6,b7,co,b8,bG,cq⟩:=J.out;refine I.out.next b6 bH b9 b7 aZ.out (λq hq=>by rw[b8];exact Or.inl hq) (λq hq=>bG.block q (I.out.g.x q hq).1) bG.size (by rw[<-bW.out];exact Q.out) (λq=>Iff.rfl) S6
  clear S6 A d v a9 C B F Q bN cT;go_wp2;go_roundw
  ·exact⟨i+1,_,_,_,_,_,_,_,_,_,_,_,_,by omega,by go_num,bU⟩
  simp[intOf];omega
 have⟨hge,hiR⟩:¬(i:Int)<R/\i=R:=by omega
 subst hiR;obtain⟨P,K⟩:=nam (Y2 es i);have Y:ti.length=P:=by rw[G.p.a,K]
 have ae:nd.length=P:=by rw[G.p.b,K]
 have S:Gm i Ts Ns es (λq=>ti.getD q 0) (λq=>nd.getD q 0):=⟨λr hr=>by
  obtain⟨t1,t2,t3,t4,_⟩:=G.t r hr;exact⟨t1,t2,t4⟩,λp hp=>G.p.p p hp⟩
 have bV:Hid (Gm i Ts Ns es (λq=>ti.getD q 0) (λq=>nd.getD q 0)/\(∀r,r<i->Ns r<=20000)/\P=Y2 es i/\ti.length=P/\nd.length=P):=⟨S,λr hr=>(G.t r hr).2.2.1,K,Y,ae⟩;have bA:Hid (D6 gb (gb+1) i P es tr ad cp xb (λ_=>0) ms Ts Ns ti nd 0 vs ls X w wr):=⟨G.g,G.l0,G.l1,G.l2,G.l3,G.l4,λr hr=>(G.t r hr).2.2.2.2,G.x,λq hq=>by omega,G.b,G.s⟩;have cg:P<=96:=by omega
 have ct:(P:Int)<=96:=by omega
 clear G Y ae S K bC bx bD;go_wp2
 go_loopw [8] (λx w'=>∃(p:Nat) (sk:Nat->Nat) (vs:Nat->Value) (ls:Nat->List Value) (X:Nat->Prop),p<=P/\x=I6 p/\D6 gb (gb+1) i P es tr ad cp xb sk ms Ts Ns ti nd p vs ls X w w') (λx _=>P-(intOf x).toNat)
 ·exact⟨0,_,_,_,_,by omega,rfl,bA⟩
 clear bA;obtain⟨p,sk,vs,ls,X,hp,rfl,E⟩:=hrel;obtain⟨S,aJ,K,Y,ae⟩:=bV.out;have gx:=E.gx Y;have o1:=E.g.o 1 (by omega);rw[E.l1]at o1;obtain⟨a1,c1,e1,aQ⟩:=Wt.il (l:=ti) o1;rw[Y]at e1 aQ;have aa:=(E.g.cell (i:=1) (by omega)).1;rw[e1]at aa;have o2:=E.g.o 2 (by omega);rw[E.l2]at o2;obtain⟨a2,c2,e2,aR⟩:=Wt.il (l:=nd) o2;rw[ae]at e2 aR;have ab:=(E.g.cell (i:=2) (by omega)).1;rw[e2]at ab;by_cases H:p<P
 ·have cn:(p:Int)<P:=by omega
  obtain⟨p1,p2,p3,p4⟩:=S.p p (by omega);obtain⟨b1,br,e3,d1⟩:=aQ p H;obtain⟨b2,bt,e4,d2⟩:=aR p H;subst e3;subst e4;obtain⟨tp,bm⟩:=nam (ti.getD p 0);obtain⟨np,bf⟩:=nam (nd.getD p 0);simp only[<-bm,<-bf]at p1 p2 p3 p4 d1 d2;have bB:=hyd (Ss gb P i wr (by omega) (by omega) gx.gl);have bJ:¬Ck gb vs X wr.heap.size:=λe=>by have:=gx.s _ e;omega
  have bu:Hid (∀w',Bl wr w'->TC wr.heap.size (bl (λ_=>false) (P+i)) w'->Cp 53 #[pT gb,I6 tp,I6 np,.slice (some (a_ wr.heap.size 0)) (P+i) (P+i)] w' (WC wr.heap.size (P+i) (λ_=>false) (Rs (Ts tp) (Ns tp) (TU es Ts tp) P tp np) w')):=λw' hW hT=>by
   have g1:=gx.below hW;rw[K]at g1 hT ⊢;exact Nx (Ck gb vs X) gb i tr ad cp ms Ts Ns es _ _ S (by omega) (by omega) aJ tp p1 wr.heap.size _ bJ (Ns tp+1) np (λ_=>false) w' (by omega) p2 g1 hT
  have HF:Hid (∀q,(false || Rs (Ts tp) (Ns tp) (TU es Ts tp) P tp np q)=DO es Ts Ns (λi=>ti.getD i 0) (λi=>nd.getD i 0) P p q):=λq=>by
   unfold DO;simp only[<-bm,<-bf,Bool.false_or]
  have an:=hyd E;clear gx o1 o2 aQ aR e1 e2 E S p2 p3 p4 bm bf bJ K Y ae aJ;go_wp2_with fail;refine bB.out.mono ?_;rintro e w1 ⟨rfl,T1,B1,s1⟩;have U:w1.cell? (a_ gb 1)=some (.slice (some (a_ b1 br)) P c1):=by rw[B1.cell (p:=(a_ gb 1)) (Ze wr _ aa)];exact aa
  have bM:w1.cell? (a_ gb 2)=some (.slice (some (a_ b2 bt)) P c2):=by rw[B1.cell (p:=(a_ gb 2)) (Ze wr _ ab)];exact ab
  have b4:w1.cell? (a_ b1 (br+p))=some (I6 (tp:Int)):=by rw[B1.cell (p:=(a_ b1 (br+p))) (Ze wr _ d1)];exact d1
  have b5:w1.cell? (a_ b2 (bt+p))=some (I6 (np:Int)):=by rw[B1.cell (p:=(a_ b2 (bt+p))) (Ze wr _ d2)];exact d2
  have aE:=hyd2 T1 B1;clear T1 bB aa ab d1 d2 B1;go_wp2;refine wp_region_still_tail 16 (by kernel_rfl) (by kernel_rfl) ?_;simp only[ZK,List.take_zero,ZL,Zw];change wpStill _ _ w1.drew (λa'=>wpList _ _ _ _ a' w1.drew) _ _
  repeat still_step
  refine wpStill_nil ?_;have bv:=hyd (bu w1.drew aE.out.2.drew aE.out.1);clear U bM b4 b5;go_wp2_with fail;refine bv.out.mono ?_;rintro e w2 ⟨rfl,bE,F2⟩;have B2:=aE.out.2.drew.trans F2.b;have s2:wr.heap.size<w2.heap.size:=by
   have h1:w1.drew.heap.size=w1.heap.size:=rfl;have:=F2.b.size;omega
  obtain⟨sb,bi⟩:=nam wr.heap.size;have G2:=an.out.g.below (by omega) B2;obtain⟨a4,c4,e4,_⟩:=(G2.o 4 (by omega)).form;rw[an.out.l4,Zy,List.length_range]at e4;have bO:=(G2.cell (i:=4) (by omega)).1;rw[e4]at bO;have aP:=box_bel w2 (.cells #[.slice (some (a_ wr.heap.size 0)) (P+i) (P+i)] 78);have G4:=G2.below (by omega) aP;have aL:=G4.o 4 (by omega);rw[e4,an.out.l4]at aL;have C:(w2.alloc (.cells #[.slice (some (a_ wr.heap.size 0)) (P+i) (P+i)] 78)).cell? (a_ w2.heap.size 0)=some (.slice (some (a_ wr.heap.size 0)) (P+i) (P+i)):=by rw[Zm];rfl
  have B:gb+1<=(w2.alloc (.cells #[.slice (some (a_ wr.heap.size 0)) (P+i) (P+i)] 78)).heap.size:=by have:=aP.size;have:=G2.lt (by omega);omega
  have ax:Hid (((List.range p).map λq=>Value.slice (some (a_ (sk q) 0)) (P+i) (P+i)).length=p):=by show _=_;simp
  have aH:=hyd e4;have am:=hyd G4;have H2:=hyd4 bE B2 s2 aP;rw[<-bi]at aL C B am ⊢;have b0:=hyd bi;clear bE F2 B2 s2 G2 G4 e4 aP bi bv bu aE;go_wp2_with (first|(with_reducible show wpList _ _ _ (⟨_,Op.call { callee:=Callee.builtin Builtin.append,args:=_,argTypes:=_ },_,_,_,_⟩::_) _ _;refine X9.out ?_));refine⟨?_⟩;refine YK 74 78 u_q Qo rfl (by omega) (by rfl) _ _ (by rfl) (gb+1) (.slice a4 p c4) _ (by rfl) aL (by rw[ax.out];omega) w2.heap.size (sL sb (P+i) (P+i)) rfl (by rfl) C B _ rfl ?_;rw[ax.out];intro g1 y w5 A d v _;have ac:w5.cell? (a_ gb 4)=some (.slice a4 p c4)/\w5.frozen? (a_ gb 4)=false:=by
   have:=(am.out.c.block (d.block gb (am.out.lt (by omega)) (λe=>by have:=((am.out.o 4 (by omega)).lt gb (by rw[aH.out];exact e.symm)).1;omega))) 4 (vs 4) rfl;rw[aH.out]at this;exact this
  obtain⟨V,W⟩:=ac;have bX:Hid (D6 gb (gb+1) i P es tr ad cp xb (Yk sk p sb) ms Ts Ns ti nd (p+1) (Yk vs 4 (sL g1 (p+1) y)) (Yk ls 4 (ls 4++[sL sb (P+i) (P+i)])) (λk=>X k\/k=sb) w (w5.setCell (a_ gb 4) (sL g1 (p+1) y))):=by
   obtain⟨x1,x2,x3,x4⟩:=H2.out;rw[b0.out]at d A v ⊢;exact an.out.next x2 x1 x3 (λq _=>HF.out q) x4 (by rw[aH.out];exact d) (by rw[an.out.l4];exact A) (by rw[aH.out];exact v)
  clear A d v aL C B am bO;go_wp2;go_roundw
  ·exact⟨p+1,_,_,_,_,by omega,by go_num,bX⟩
  simp[intOf];omega
 have⟨hge2,hpP⟩:¬(p:Int)<P/\p=P:=by omega
 subst hpP;have HR:=hyd (E.post K aq S aJ Y ae);clear gx o1 o2 aQ aR e1 e2 E S K Y ae aJ;go_wp2;go_ret;exact HR.out
structure L6 (gb base nc n:Nat) (ty:Nat->TypeId) (vs:Nat->Value) (ls:Nat->List Value) (X:Nat->Prop) (w:World):Prop where
 c:TC gb ((List.range nc).map vs) w
 o:∀i,i<n->Wt base (ty i) (vs i) (ls i) w
 d:∀i j k,i<n->j<n->i≠j->(vs i).ownBlock=some k->(vs j).ownBlock≠some k
 x:∀k,X k->k<w.heap.size/\k≠gb/\∀i,i<n->(vs i).ownBlock≠some k
 g:gb<base
 le:nc<=n
theorem L6.cell {z:Nat->TypeId} (h:L6 gb base nc n z vs ls X w) {i:Nat} (y:i<nc):w.cell? (a_ gb i)=some (vs i)/\w.frozen? (a_ gb i)=false:=h.c i (vs i) (by simp[y])
theorem L6.lt {z:Nat->TypeId} (h:L6 gb base nc n z vs ls X w) (y:0<nc):gb<w.heap.size:=Ze w _ (h.cell y).1
theorem L6.keep {y:Nat->TypeId} (h:L6 gb base nc n y vs ls X w) (h0:w'.heap[gb]?=w.heap[gb]?) (z:∀i k,i<n->(vs i).ownBlock=some k->w'.heap[k]?=w.heap[k]?) (H:∀k,X' k->k<w'.heap.size/\k≠gb/\∀i,i<n->(vs i).ownBlock≠some k):L6 gb base nc n y vs ls X' w':=
 ⟨h.c.block h0,λi b=>XH (h.o i b) (λk a=>z i k b a),h.d,H,h.g,h.le⟩
theorem L6.below {z:Nat->TypeId} (h:L6 gb base nc n z vs ls X w) (H:0<nc) (y:Bl w w'):L6 gb base nc n z vs ls X w':=
 h.keep (y.block _ (h.lt H)) (λi k b a=>y.block k ((h.o i b).lt k a).2) (λk a=>⟨by have:=(h.x k a).1;have:=y.size;omega,(h.x k a).2⟩)
theorem L6.more {y:Nat->TypeId} (h:L6 gb base nc n y vs ls X w) (z:∀k,X' k->X k\/(k<w.heap.size/\k≠gb/\∀i,i<n->(vs i).ownBlock≠some k)):L6 gb base nc n y vs ls X' w:=
 ⟨h.c,h.o,h.d,λk a=>by
  rcases z k a with h1|h1
  ·exact h.x k h1
  exact h1,h.g,h.le⟩
theorem L6.app {gb base nc n:Nat}{Z:Nat->TypeId}{vs:Nat->Value}{ls:Nat->List Value}{X:Nat->Prop}{w w5:World} (h:L6 gb base nc n Z vs ls X w) {i:Nat} (H:i<nc) {t:Value}{g len cap:Nat} (Y:w.grownBy w5 (vs i).ownBlock) (ho:Wt base (Z i) (.slice (some ⟨g,0,none⟩) len cap) (ls i++[t]) w5) (J:(vs i).ownBlock=some g\/g=w.heap.size):
  L6 gb base nc n Z (Yk vs i (.slice (some ⟨g,0,none⟩) len cap)) (Yk ls i (ls i++[t])) X (w5.setCell ⟨gb,i,none⟩ (.slice (some ⟨g,0,none⟩) len cap))/\Wq X w (w5.setCell ⟨gb,i,none⟩ (.slice (some ⟨g,0,none⟩) len cap))/\w.heap.size<=(w5.setCell ⟨gb,i,none⟩ (.slice (some ⟨g,0,none⟩) len cap)).heap.size /\
  (∀k,k<w.heap.size->k≠gb->(vs i).ownBlock≠some k->(w5.setCell ⟨gb,i,none⟩ (.slice (some ⟨g,0,none⟩) len cap)).heap[k]?=w.heap[k]?):=by
 have C:i<n:=by have:=h.le;omega
 have B:=h.lt (by omega);have A:=h.g;have E:=(ho.lt g rfl).1;obtain⟨u,v⟩:∃u,u=w5.setCell (a_ gb i) (sL g len cap):=⟨_,rfl⟩;have r:∀k,k≠gb->u.heap[k]?=w5.heap[k]?:=λk a=>by rw[v];exact Zq w5 (a_ gb i) _ k (λe=>a e)
 have G:u.heap.size=w5.heap.size:=by rw[v,Zz]
 have F:=Y.size;have b:∀k,k<w.heap.size->k≠gb->(vs i).ownBlock≠some k->u.heap[k]?=w.heap[k]?:=λk h1 h2 h3=>by rw[r k h2,Y.block k h1 (λe=>h3 e.symm)]
 have q:∀j,j<n->∀k,(vs j).ownBlock=some k->k≠gb:=λj f k a=>by have:=((h.o j f).lt k a).1;omega
 have s:w5.heap[gb]?=w.heap[gb]?:=Y.block gb B (λe=>q i C gb e.symm rfl);rw[<-v];refine⟨⟨?_,λj f=>?_,λj l k f y p a=>?_,λk a=>?_,A,h.le⟩,λk a=>b k (h.x k a).1 (h.x k a).2.1 ((h.x k a).2.2 i C),by omega,b⟩
 ·rw[v,<-MB H];exact(h.c.block s).set i (by simpa using H) _
 ·by_cases e:j=i
  ·subst e;rw[Y0,Y0];exact XH ho (λk a=>r k (by
     have m:g=k:=Zh a;omega))
  rw[Y5 _ _ e,Y5 _ _ e];exact XH (h.o j f) (λk a=>b k ((h.o j f).lt k a).2 (q j f k a) (λe2=>h.d j i k f C e a e2))
 ·by_cases D:j=i
  ·subst D;rw[Y0]at a;have m:g=k:=Zh a;rw[Y5 _ _ (λe=>p e.symm)];intro e2;rcases J with h1|h1
   ·exact h.d j l k f y p (m▸h1) e2
   have:=((h.o l y).lt k e2).2;omega
  rw[Y5 _ _ D]at a;by_cases e2:l=i
  ·subst e2;rw[Y0];intro z;have m:g=k:=Zh z;rcases J with h1|h1
   ·exact h.d j l k f y p a (m▸h1)
   have:=((h.o j f).lt k a).2;omega
  rw[Y5 _ _ e2];exact h.d j l k f y p a
 refine⟨by have:=(h.x k a).1;omega,(h.x k a).2.1,λj f=>?_⟩;by_cases e:j=i
 ·subst e;rw[Y0];intro z;have m:g=k:=Zh z;rcases J with h1|h1
  ·exact(h.x k a).2.2 j f (m▸h1)
  have:=(h.x k a).1;omega
 rw[Y5 _ _ e];exact(h.x k a).2.2 j f
theorem L6.appN {gb base nc n:Nat}{ty:Nat->TypeId}{vs:Nat->Value}{ls:Nat->List Value}{X:Nat->Prop}{w w5:World} (h:L6 gb base nc n ty vs ls X w) {i:Nat} (Y:i<n) (aa:nc<=i) (Z:0<nc) {t:Value}{g len cap:Nat} (J:w.grownBy w5 (vs i).ownBlock) (ho:Wt base (ty i) (.slice (some ⟨g,0,none⟩) len cap) (ls i++[t]) w5) (H:(vs i).ownBlock=some g\/g=w.heap.size):
  L6 gb base nc n ty (Yk vs i (.slice (some ⟨g,0,none⟩) len cap)) (Yk ls i (ls i++[t])) X w5/\Wq X w w5/\w.heap.size<=w5.heap.size /\
  (∀k,k<w.heap.size->k≠gb->(vs i).ownBlock≠some k->w5.heap[k]?=w.heap[k]?):=by
 have y:=h.lt Z;have v:=h.g;have A:=(ho.lt g rfl).1;have B:=J.size;have f:∀k,k<w.heap.size->k≠gb->(vs i).ownBlock≠some k->w5.heap[k]?=w.heap[k]?:=λk h1 _ h3=>J.block k h1 (λe=>h3 e.symm)
 have q:∀j,j<n->∀k,(vs j).ownBlock=some k->k≠gb:=λj b k a=>by have:=((h.o j b).lt k a).1;omega
 have r:w5.heap[gb]?=w.heap[gb]?:=J.block gb y (λe=>q i Y gb e.symm rfl);refine⟨⟨?_,λj b=>?_,λj l k b s p a=>?_,λk a=>?_,v,h.le⟩,λk a=>f k (h.x k a).1 (h.x k a).2.1 ((h.x k a).2.2 i Y),by omega,f⟩
 ·have e:(List.range nc).map (Yk vs i (sL g len cap))=(List.range nc).map vs:=ZO (λj b=>Y5 _ _ (by have:=ZI.1 b;omega));rw[e];exact h.c.block r
 ·by_cases e:j=i
  ·subst e;rw[Y0,Y0];exact ho
  rw[Y5 _ _ e,Y5 _ _ e];exact XH (h.o j b) (λk a=>f k ((h.o j b).lt k a).2 (q j b k a) (λe2=>h.d j i k b Y e a e2))
 ·by_cases z:j=i
  ·subst z;rw[Y0]at a;have m:g=k:=Zh a;rw[Y5 _ _ (λe=>p e.symm)];intro e2;rcases H with h1|h1
   ·exact h.d j l k b s p (m▸h1) e2
   have:=((h.o l s).lt k e2).2;omega
  rw[Y5 _ _ z]at a;by_cases e2:l=i
  ·subst e2;rw[Y0];intro u;have m:g=k:=Zh u;rcases H with h1|h1
   ·exact h.d j l k b s p a (m▸h1)
   have:=((h.o j b).lt k a).2;omega
  rw[Y5 _ _ e2];exact h.d j l k b s p a
 refine⟨by have:=(h.x k a).1;omega,(h.x k a).2.1,λj b=>?_⟩;by_cases e:j=i
 ·subst e;rw[Y0];intro u;have m:g=k:=Zh u;rcases H with h1|h1
  ·exact(h.x k a).2.2 j b (m▸h1)
  have:=(h.x k a).1;omega
 rw[Y5 _ _ e];exact(h.x k a).2.2 j b
theorem Gx:∃i,Tryz.prog.info? 9=some i/\i.zero=some (.string ByteArray.empty)/\i.size=1/\i.bytes=16:=by
 have h1:(Tryz.prog.info? 9).isSome=true:=by kernel_rfl
 obtain⟨i,a⟩:=Zx.1 h1;refine⟨i,a,?_,?_,?_⟩
 ·have:((Tryz.prog.info? 9).bind (·.zero))=some (.string ByteArray.empty):=by kernel_rfl
  rw[a]at this;exact this
 ·have:((Tryz.prog.info? 9).map (·.size))=some 1:=by kernel_rfl
  rw[a]at this;simpa using this
 have:((Tryz.prog.info? 9).map (·.bytes))=some 16:=by kernel_rfl
 rw[a]at this;simpa using this
def FQ:Nat->TypeId
 |0=>3
 |1=>23
 |2=>3
 |3=>3
 |4=>78
 |_=>9
theorem PG (w:World) (o:Obj) (row:Option Nat):w.grownBy (w.alloc o) row:=by
 have h:=box_bel w o;exact⟨h.os,h.tape,h.output,h.size,λi a _=>h.block i a⟩
theorem Ip (w:World) (base:Nat) (y:TypeId) (t:Value) (z:base<=w.heap.size):Wt base y (.slice (some (a_ w.heap.size 0)) 1 1) [t] (w.alloc (.cells #[t] y)):=
 World.ownsRow_lit (base:=base) (e:=y) (size:=1) w #[t] 1 z (by unfold maxLen;omega) rfl
structure PM (pb base P R:Nat) (E:Nat->Nat->Bool) (l:List (Nat->Bool)) (nv nr:Nat) (vd:Nat->Int) (rw_:Nat->Nat->Int) (sk tk:Nat->Nat) (vs:Nat->Value) (ls:Nat->List Value) (X:Nat->Prop) (w0 w:World):Prop where
 q:L6 pb base 3 6 FQ vs ls X w
 l0:ls 0=(List.range nv).map fun i=>.int .i64 (vd i)
 l1:ls 1=(List.range nr).map fun i=>.slice (some ⟨tk i,0,none⟩) 256 256
 l2:ls 2=(reps E 256).map VD
 l3:ls 3=(List.range 256).map fun a=>VD (least E a)
 l4:ls 4=(List.range l.length).map fun i=>.slice (some ⟨sk i,0,none⟩) (P+R) (P+R)
 l5:ls 5=(List.range l.length).map fun i=>.string (Wu (em P (l.getD i U9)) (P+R))
 st:∀i,i<l.length->∀w',Wq X w w'->w.heap.size<=w'.heap.size->BR (some ⟨sk i,0,none⟩) (em P (l.getD i U9)) (P+R) w'
 rs:∀i,i<nr->∀w',Wq X w w'->w.heap.size<=w'.heap.size->IL (some ⟨tk i,0,none⟩) (rw_ i) 256 w'
 b:Below w0.heap.size w0 w
 s:w0.heap.size<=pb
section
variable {pb base P R:Nat} {E:Nat->N_} {l:List (N_)} {nv nr:Nat} {vd:Nat->Int} {rw_:Nat->Nat->Int} {sk tk:Nat->Nat} {vs:Nat->Value} {ls:Nat->List Value} {X:Nat->Prop} {w0 w w':World}
theorem PM.below (h:PM pb base P R E l nv nr vd rw_ sk tk vs ls X w0 w) (y:Bl w w'):PM pb base P R E l nv nr vd rw_ sk tk vs ls X w0 w':=by
 have ha:Wq X w w':=λk c=>y.block k (h.q.x k c).1
 have hs:=y.size;exact⟨h.q.below (by omega) y,h.l0,h.l1,h.l2,h.l3,h.l4,h.l5,λi a w2 h2 h3=>h.st i a w2 (ha.trans h2) (by omega),λi a w2 h2 h3=>h.rs i a w2 (ha.trans h2) (by omega),h.b.trans (y.mono h.b.size),h.s⟩
structure TO (pb tob:Nat) (lx:List Value) (vs:Nat->Value) (X:Nat->Prop) (w0 w:World):Prop where
 x:TC tob lx w
 l:tob<w.heap.size
 d:∀j,j<6->(vs j).ownBlock≠some tob
 n:¬X tob/\tob≠pb
 s:w0.heap.size<=tob
theorem TO.below (h:TO pb tob lx vs X w0 w) (y:Bl w w'):TO pb tob lx vs X w0 w':=
 ⟨h.x.block (y.block tob h.l),by have:=y.size;have:=h.l;omega,h.d,h.n,h.s⟩
theorem TO.put (h:TO pb tob lx vs X w0 w) {k:Nat} (y:k<lx.length) (u:Value):TO pb tob (lx.set k u) vs X w0 (w.setCell (a_ tob k) u):=
 ⟨h.x.set k y u,by rw[Zz];exact h.l,h.d,h.n,h.s⟩
theorem PM.put {tob:Nat}{lx:List Value} (h:PM pb base P R E l nv nr vd rw_ sk tk vs ls X w0 w) (t:TO pb tob lx vs X w0 w) (k:Nat) (u:Value):PM pb base P R E l nv nr vd rw_ sk tk vs ls X w0 (w.setCell (a_ tob k) u):=by
 have f:∀q,q≠tob->(w.setCell (a_ tob k) u).heap[q]?=w.heap[q]?:=λq a=>Zq w (a_ tob k) _ q (λe=>a e)
 have hs:(w.setCell (a_ tob k) u).heap.size=w.heap.size:=Zz ..;have ha:Wq X w (w.setCell (a_ tob k) u):=λq a=>f q (λe=>t.n.1 (e▸a))
 exact⟨h.q.keep (f pb (λe=>t.n.2 e.symm)) (λi q c a=>f q (λe=>t.d i c (e▸a))) (λq a=>⟨by rw[hs];exact(h.q.x q a).1,(h.q.x q a).2⟩),h.l0,h.l1,h.l2,h.l3,h.l4,h.l5,λi c w2 h2 h3=>h.st i c w2 (ha.trans h2) (by omega),λi c w2 h2 h3=>h.rs i c w2 (ha.trans h2) (by omega),h.b.setCell (p:=(a_ tob k)) t.s u,h.s⟩
theorem PM.addV (h:PM pb base P R E l nv nr vd rw_ sk tk vs ls X w0 w) (y:w.grownBy w5 (vs 0).ownBlock) (H:Wt base (FQ 0) (.slice (some ⟨g,0,none⟩) len cap) (ls 0++[I6 x]) w5) (z:(vs 0).ownBlock=some g\/g=w.heap.size) (J:vd nv=x):
  PM pb base P R E l (nv+1) nr vd rw_ sk tk (Yk vs 0 (.slice (some ⟨g,0,none⟩) len cap)) (Yk ls 0 (ls 0++[I6 x])) X w0 (w5.setCell ⟨pb,0,none⟩ (.slice (some ⟨g,0,none⟩) len cap)):=by
 obtain⟨e,c,m,k⟩:=h.q.app (i:=0) (by omega) y H z;have f:=h.b.size;have d:Bl w0 w5:=h.b.grown y (by omega) (λq j=>by have:=((h.q.o 0 (by omega)).lt q j).1;have:=h.q.g;have:=h.s;omega);refine⟨e,?_,?_,?_,?_,?_,?_,λi a w2 h2 h3=>h.st i a w2 (c.trans h2) (by omega),λi a w2 h2 h3=>h.rs i a w2 (c.trans h2) (by omega),d.setCell (p:=⟨pb,0,none⟩) h.s _,h.s⟩
 ·rw[Y0,h.l0,ZT,List.map_append,<-J];rfl
 ·rw[Y5 _ _ (by omega)];exact h.l1
 ·rw[Y5 _ _ (by omega)];exact h.l2
 ·rw[Y5 _ _ (by omega)];exact h.l3
 ·rw[Y5 _ _ (by omega)];exact h.l4
 rw[Y5 _ _ (by omega)];exact h.l5
theorem PM.addR {f:Nat->Int} (h:PM pb base P R E l nv nr vd rw_ sk tk vs ls X w0 w) (t:TO pb tob (inl f 256) vs X w0 w) (H:w.grownBy w5 (vs 1).ownBlock) (Y:Wt base (FQ 1) (.slice (some ⟨g,0,none⟩) len cap) (ls 1++[.slice (some ⟨tob,0,none⟩) 256 256]) w5) (J:(vs 1).ownBlock=some g\/g=w.heap.size) (Z:∀b,b<256->rw_ nr b=f b):
  PM pb base P R E l nv (nr+1) vd rw_ sk (Yk tk nr tob) (Yk vs 1 (.slice (some ⟨g,0,none⟩) len cap)) (Yk ls 1 (ls 1++[.slice (some ⟨tob,0,none⟩) 256 256])) (λk=>X k\/k=tob) w0 (w5.setCell ⟨pb,1,none⟩ (.slice (some ⟨g,0,none⟩) len cap)):=by
 have D:L6 pb base 3 6 FQ vs ls (λk=>X k\/k=tob) w:=h.q.more (λk a=>by
  rcases a with h1|h1
  ·exact Or.inl h1
  subst h1;exact Or.inr ⟨t.l,t.n.2,t.d⟩)
 obtain⟨z,c,G,F⟩:=D.app (i:=1) (by omega) H Y J;have A:=h.b.size;have y:Bl w0 w5:=h.b.grown H (by omega) (λq B=>by have:=((h.q.o 1 (by omega)).lt q B).1;have:=h.q.g;have:=h.s;omega);have m:Wq X w (w5.setCell ⟨pb,1,none⟩ (.slice (some ⟨g,0,none⟩) len cap)):=λk a=>c k (Or.inl a)
 refine⟨z,?_,?_,?_,?_,?_,?_,λi u w2 h2 h3=>h.st i u w2 (m.trans (λk a=>h2 k (Or.inl a))) (by omega),λi u w2 h2 h3=>?_,y.setCell (p:=⟨pb,1,none⟩) h.s _,h.s⟩
 ·rw[Y5 _ _ (by omega)];exact h.l0
 ·rw[Y0,h.l1,ZT,List.map_append];congr 1
  ·refine ZO (λr C=>?_);rw[Y5 _ _ (by have:=ZI.1 C;omega)]
  simp[Y0]
 ·rw[Y5 _ _ (by omega)];exact h.l2
 ·rw[Y5 _ _ (by omega)];exact h.l3
 ·rw[Y5 _ _ (by omega)];exact h.l4
 ·rw[Y5 _ _ (by omega)];exact h.l5
 by_cases e:i=nr
 ·subst e;rw[Y0];intro j v;refine⟨tob,0,rfl,?_⟩;rw[Zn,Z j v];exact((t.x.block ((h2 tob (Or.inr rfl)).trans (c tob (Or.inr rfl)))) j _ (Xk f v)).1
 rw[Y5 _ _ e];exact h.rs i (by omega) w2 (m.trans (λk a=>h2 k (Or.inl a))) (by omega)
theorem NN (h:i<l.length) (g:N_):(l++[g]).getD i U9=l.getD i U9:=by
 simp only[Zf,Zv h]
theorem EN (l:List (N_)) (g:N_):(l++[g]).getD l.length U9=g:=by
 simp[Zf]
theorem PM.addS {w2 w3 w5:World}{g1 len1 cap1 g2 len2 cap2 mb:Nat}{m:N_} (h:PM pb base P R E l nv nr vd rw_ sk tk vs ls X w0 w) (ae:TC mb (bl (em P m) (P+R)) w) (af:mb<w.heap.size) (ac:mb≠pb/\∀j,j<6->(vs j).ownBlock≠some mb)
  (hg:w.grownBy w2 (vs 4).ownBlock) (ho:Wt base (FQ 4) (sL g1 len1 cap1) (ls 4++[sL mb (P+R) (P+R)]) w2) (hb:(vs 4).ownBlock=some g1\/g1=w.heap.size) (Z:Bl w2 w3)
  (ab:w3.grownBy w5 (vs 5).ownBlock) (ag:Wt base (FQ 5) (sL g2 len2 cap2) (ls 5++[.string (Wu (em P m) (P+R))]) w5) (aa:(vs 5).ownBlock=some g2\/g2=w3.heap.size):
  PM pb base P R E (l++[m]) nv nr vd rw_ (Yk sk l.length mb) tk (Yk (Yk vs 4 (sL g1 len1 cap1)) 5 (sL g2 len2 cap2)) (Yk (Yk ls 4 (ls 4++[sL mb (P+R) (P+R)])) 5 (ls 5++[.string (Wu (em P m) (P+R))])) (λk=>X k\/k=mb) w0 w5 /\
  (∀k,k<w.heap.size->k≠pb->(vs 4).ownBlock≠some k->(vs 5).ownBlock≠some k->w5.heap[k]?=w.heap[k]?)/\w.heap.size<=w5.heap.size/\(∀k,k<w.heap.size->(∀j,j<6->(vs j).ownBlock≠some k)->∀j,j<6->(Yk (Yk vs 4 (sL g1 len1 cap1)) 5 (sL g2 len2 cap2) j).ownBlock≠some k):=by
 have V:L6 pb base 3 6 FQ vs ls (λk=>X k\/k=mb) w:=h.q.more (λk a=>by
  rcases a with h1|h1
  ·exact Or.inl h1
  subst h1;exact Or.inr ⟨af,ac.1,ac.2⟩)
 obtain⟨D,K,W,U⟩:=V.appN (i:=4) (by omega) (by omega) (by omega) hg ho hb;have N:=D.below (by omega) Z;have p:Yk vs 4 (sL g1 len1 cap1) 5=vs 5:=Y5 _ _ (by omega);have f:Yk ls 4 (ls 4++[sL mb (P+R) (P+R)]) 5=ls 5:=Y5 _ _ (by omega);obtain⟨F,L,Y,J⟩:=N.appN (i:=5) (t:=.string (Wu (em P m) (P+R))) (by omega) (by omega) (by omega) (by rw[p];exact ab) (by rw[f];exact ag) (by rw[p];exact aa);rw[f]at F;rw[p]at J;have T:=Z.size;have d:Wq (λk=>X k\/k=mb) w w5:=K.trans (Wq.trans (λk a=>Z.block k (D.x k a).1) L);have A:Wq X w w5:=λk a=>d k (Or.inl a)
 have S:=h.b.size;have B:Bl w0 w2:=h.b.grown hg (by omega) (λq y=>by have:=((h.q.o 4 (by omega)).lt q y).1;have:=h.q.g;have:=h.s;omega);have C:Bl w0 w3:=B.trans (Z.mono B.size);have M:Bl w0 w5:=C.grown ab C.size (λq y=>by have:=((h.q.o 5 (by omega)).lt q y).1;have:=h.q.g;have:=h.s;omega);refine⟨⟨F,?_,?_,?_,?_,?_,?_,λi u w' h2 h3=>?_,λi u w' h2 h3=>h.rs i u w' (A.trans (λk a=>h2 k (Or.inl a))) (by omega),M,h.s⟩,λk G c O Q=>?_,by omega,λk G c j v=>?_⟩
 ·rw[Y5 _ _ (by omega),Y5 _ _ (by omega)];exact h.l0
 ·rw[Y5 _ _ (by omega),Y5 _ _ (by omega)];exact h.l1
 ·rw[Y5 _ _ (by omega),Y5 _ _ (by omega)];exact h.l2
 ·rw[Y5 _ _ (by omega),Y5 _ _ (by omega)];exact h.l3
 ·rw[Y5 _ _ (by omega),Y0,h.l4,Zl,List.length_singleton,ZT,List.map_append];congr 1
  ·refine ZO (λr z=>?_);rw[Y5 _ _ (by have:=ZI.1 z;omega)]
  simp[Y0]
 ·rw[Y0,h.l5,Zl,List.length_singleton,ZT,List.map_append];congr 1
  ·refine ZO (λr z=>?_);rw[NN (ZI.1 z)]
  simp
 ·rw[Zl,List.length_singleton]at u;by_cases e:i=l.length
  ·subst e;rw[Y0,EN];intro j v;refine⟨mb,0,rfl,?_⟩;rw[Zn];exact((ae.block ((h2 mb (Or.inr rfl)).trans (d mb (Or.inr rfl)))) j _ (YO _ v)).1
  rw[Y5 _ _ e,NN (by omega)];exact h.st i (by omega) w' (A.trans (λk a=>h2 k (Or.inl a))) (by omega)
 ·rw[J k (by omega) c Q,Z.block k (by omega),U k G c O]
 by_cases I:j=5
 ·subst I;rw[Y0];intro e;have n:g2=k:=Zh e;rcases aa with x|x
  ·exact c 5 (by omega) (n▸x)
  omega
 rw[Y5 _ _ I];by_cases H:j=4
 ·subst H;rw[Y0];intro e;have n:g1=k:=Zh e;rcases hb with x|x
  ·exact c 4 (by omega) (n▸x)
  omega
 rw[Y5 _ _ H];exact c j v
end
end Go.Proofs.YtoaaklhpmhjhkaaGreat
