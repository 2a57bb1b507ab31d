import Derived.Deep.MidRow
import Derived.Test.YtoaaklhpmhjhkaaGreatC05
set_option maxRecDepth 100000
set_option maxHeartbeats 4000000
set_option linter.all false
namespace Go.Proofs.YtoaaklhpmhjhkaaGreat
open Go.Proofs.Tryz
section
open Go.RowKit
open Bm
def bl(f:Nat->Bool)(n:Nat):List Value:=(List.range n).map λi=>.bool (f i)
def Y9(f:N_)(n:Nat):(bl f n).length=n:=by simp[bl]
def YO(f:N_){n i:Nat}(h:i<n):(bl f n)[i]?=some (.bool (f i)):=by simp[bl,h]
variable {a:Act}{ops:Array Oper}{tmps:Array Value}{s:ByteArray}{Q:Exit->Act->World->Prop}{fn:Func}{h0 h1 h2 h3:Int}{lf lf' lo':List Int}{rest:List Oper}{K P b base base' cap g i j k m n p t:Nat}{f:Nat->Int}{E hs:Nat->N_}{rw:Nat->Nat->Int}{ob:Obj}{o:Oper}{ad ha:Option Addr}{row:Option Nat}{v vf vl vo:Value}{W W' W1 w w' w5:World}
def YW{f g:N_}(h:∀i,i<n->f i=g i):bl f n=bl g n:=by
 unfold bl;exact ZO (λi a=>by rw[h i (by simpa using a)])
def Vm(f:N_)(n i:Nat)(x:Bool):(bl f n).set i (.bool x)=bl (λj=>if j=i then x else f j) n:=by
 refine fG (λj=>?_);rcases ZD j n with a|a
 .by_cases e:j=i
  .subst e;rw[fx (by rw[Y9];exact a),YO _ a];simp
  rw[fA (λh=>e h.symm),YO _ a,YO _ a];simp[e]
 rw[ZB (by rw[List.length_set,Y9];exact a),ZB (by rw[Y9];exact a)]
def YJ(f:N_)(n:Nat):(bl f n).toArray.all (·.oneCell')=true:=by simp[bl,Value.oneCell']
def Bm.TC.ltB{f:N_}(h:TC t (bl f (n+1)) w):t<w.heap.size:=Ze w _ (h 0 _ (YO f Qo)).1
def GU(w:World):(zeroValue 132).run prog w=.ok (.agg (bl (λ_=>false) 96).toArray) w:=Qk
def Y0:(prog.info? 132).map (·.size)=some 96:=Qk
def Xn(f g:N_)(w:World):
  Cp 174 #[.agg (bl f 96).toArray,.agg (bl g 96).toArray] w λe w'=>e=.returned (.agg (bl (λi=>f i || g i) 96).toArray)/\Bl w w':=by
 have hz:=GU;obtain⟨W,I⟩:=nam (((w.alloc (.cells (bl f 96).toArray 132)).alloc (.cells (bl g 96).toArray 132)).alloc (.cells (bl (λ_=>false) 96).toArray 132));have h1:(w.alloc (.cells (bl f 96).toArray 132)).heap.size=w.heap.size+1:=Qs
 have h2:((w.alloc (.cells (bl f 96).toArray 132)).alloc (.cells (bl g 96).toArray 132)).heap.size=w.heap.size+2:=Qs
 have l:=TC.boxed w (bl f 96) 132;have n:=TC.boxed (w.alloc (.cells (bl f 96).toArray 132)) (bl g 96) 132;have o:=TC.boxed ((w.alloc (.cells (bl f 96).toArray 132)).alloc (.cells (bl g 96).toArray 132)) (bl (λ_=>false) 96) 132;rw[h1]at n;rw[h2,<-I]at o;have x1:=box_bel w (.cells (bl f 96).toArray 132);have x2:=box_bel (w.alloc (.cells (bl f 96).toArray 132)) (.cells (bl g 96).toArray 132);have x3:=box_bel ((w.alloc (.cells (bl f 96).toArray 132)).alloc (.cells (bl g 96).toArray 132)) (.cells (bl (λ_=>false) 96).toArray 132);rw[<-I]at x3;have z:TC w.heap.size (bl f 96) W:=(l.block (x2.block _ l.ltB)).block (x3.block _ Qo);have A:TC (w.heap.size+1) (bl g 96) W:=n.block (x3.block _ Qo);have B:Bl w W:=(x1.trans (x2.mono Qo)).trans (x3.mono Qo);clear l n x1 x2 x3 h1 h2;go_enter func174,ntmps174;go_wp2_with fail;rw[<-I];clear I
 go_loopw [5] (λx w'=>∃p:Nat,p<=96/\x=I6 p/\TC w.heap.size (bl (λi=>if i<p then f i || g i else f i) 96) w'/\TC (w.heap.size+1) (bl g 96) w'/\TC (w.heap.size+2) (bl (λ_=>false) 96) w'/\Bl w w') (λx _=>96-(intOf x).toNat)
 .exact⟨0,Qo,rfl,by simpa using z,A,o,B⟩
 clear z A o B;obtain⟨p,hp,rfl,l,n,o,H⟩:=hrel;by_cases E:p<96
 .have R:(p:Int)<96:=Qo
  obtain⟨c1,V⟩:=l p _ (YO _ E);have c2:=(n p _ (YO _ E)).1;simp only[Nat.lt_irrefl,eU]at c1;have s:=l.set p (by rw[Y9];omega) (.bool (f p || g p));rw[Vm]at s;have a:TC w.heap.size (bl (λi=>if i<p+1 then f i || g i else f i) 96) (wr.setCell (a_ w.heap.size p) (.bool (f p || g p))):=by
   rw[YW (g:=λj=>if j=p then f p || g p else if j<p then f j || g j else f j) (λi _=>?_)]
   .exact s
   by_cases e:i=p
   .subst e;simp
   by_cases O:i<p
   .simp[e,O,show i<p+1 by omega]
   simp[e,O,show ¬i<p+1 by omega]
  have M:∀k,k≠w.heap.size->(wr.setCell (a_ w.heap.size p) (.bool (f p || g p))).heap[k]?=wr.heap[k]?:=λk Y=>Zq wr (a_ w.heap.size p) _ k (λe=>Y e)
  have b:=n.block (M (w.heap.size+1) Qo);have c:=o.block (M (w.heap.size+2) Qo);have d:=H.setCell (p:=(a_ w.heap.size p)) (Zg _) (.bool (f p || g p));obtain⟨x,S⟩:=nam (f p);obtain⟨y,T⟩:=nam (g p);rw[<-S]at c1 a b c d;rw[<-T]at c2 a b c d;clear l n o H s M S T;cases x
  .simp only[dx]at a b c d;go_wp2_with fail;go_roundw
   .exact⟨p+1,Qo,Qg,a,b,c,d⟩
   simp[intOf];omega
  simp only[Bool.true_or]at a b c d;go_wp2_with fail;go_roundw
  .exact⟨p+1,Qo,Qg,a,b,c,d⟩
  simp[intOf];omega
 have X:¬(p:Int)<96:=Qo
 obtain⟨L,C⟩:=nam (bl (λi=>f i || g i) 96);have D:bl (λi=>if i<p then f i || g i else f i) 96=L:=by rw[C];exact YW (λi hi=>by simp[show i<p by omega])
 have m:L.length=96:=by rw[C];exact Y9 _ _
 rw[D]at l;have N:=l.range;have G:wr.there (w.heap.size+2) 0 96:=by have:=o.there;rw[Y9]at this;exact this
 have Q:=Y8 (w.heap.size+2) L 0 wr;have F:=Zo wr (w.heap.size+2) 0 L (by rw[m];exact G);have h:=ZF (P:=prog) (wr.setCells (w.heap.size+2) 0 L) (w.heap.size+2) 0 132 L _ F u_a rfl (by rw[m];exact Y0);obtain⟨W9,t⟩:=nam (wr.setCells (w.heap.size+2) 0 L);rw[<-t]at Q h;have K:=hyd t;have u:=hyd h;have J:Hid (L.toArray.all (·.oneCell')=true):=by show _=true;rw[C];exact YJ _ _
 have r:=hyd m;have U:=hyd C;clear t F h C m l n o D;go_wp2_with (first|(refine Zb rfl 132 _ rfl w.heap.size 0 rfl L _ N u_a rfl (by rw[r.o];exact Y0) ?_)|(apply Za rfl 132 _ _ rfl (w.heap.size+2) 0 L.toArray rfl rfl (by simpa[r.o]using G) (by simpa[r.o]using Y0) J.o;rw[Zc,<-K.o]));apply Zr (v:=.agg L.toArray) (res_load1 results174 rfl u.o) rfl;exact⟨by rw[U.o],H.grown Q H.size (λq Z=>by cases Z;omega)⟩
def Bm.TC.setBools:∀(hs:List Bool) (o:Nat) (f:N_) (w:World),o+hs.length<=n->TC b (bl f n) w->TC b (bl (λj=>if o<=j/\j<o+hs.length then hs.getD (j-o) false else f j) n) (w.setCells b o (hs.map .bool))
 |[],o,f,w,_,h=>by
  have:bl (λj=>if o<=j/\j<o+([]:List Bool).length then ([]:List Bool).getD (j-o) false else f j) n=bl f n:=YW (λi _=>by
   have:¬(o<=i/\i<o+([]:List Bool).length):=Qs
   simp only[this,eU])
  rw[this];exact h
 |x::hs,o,f,w,hl,h=>by
  have c:o+(hs.length+1)<=n:=by simpa using hl
  have h1:=h.set o (by rw[Y9];omega) (.bool x);rw[Vm]at h1;have h2:=Bm.TC.setBools hs (o+1) _ _ Qo h1;have e:bl (λj=>if o<=j/\j<o+(x::hs).length then (x::hs).getD (j-o) false else f j) n=bl (λj=>if o+1<=j/\j<o+1+hs.length then hs.getD (j-(o+1)) false else if j=o then x else f j) n:=YW (λi _=>by
   simp only[dZ];by_cases a:i=o
   .subst a;rw[p_,g_];simp
   by_cases e2:o+1<=i/\i<o+1+hs.length
   .rw[p_,dF e2,show i-o=(i-(o+1))+1 by omega];simp
   rw[g_,dG e2,dG a])
  rw[e];exact h2
def Be(f:N_)(n:Nat):bl f n=((List.range n).map f).map .bool:=by simp[bl]
def So(w:World):(zeroValue 135).run prog w=.ok (.agg (bl (λ_=>false) 104).toArray) w:=Qk
def Yt:(prog.info? 135).map (·.size)=some 104:=Qk
def Bm.TC.part{f:N_}(h:TC b (bl f n) w)(z:m<=n):TC b (bl f m) w:=λk v a=>by
 have c:k<m:=by have:=(Zi.1 a).1;rw[Y9]at this;exact this
 rw[YO _ c]at a;exact h k v (by rw[YO _ Qo];exact a)
def Ei(f g:N_)(w:World):
  Cp 175 #[.agg (bl f 104).toArray,.agg (bl g 104).toArray] w λe w'=>e=.returned (.agg (bl (λi=>f i || g i) 104).toArray)/\Bl w w':=by
 have hz:=So;let⟨W,Q⟩:=nam (((w.alloc (.cells (bl f 104).toArray 135)).alloc (.cells (bl g 104).toArray 135)).alloc (.cells (bl (λ_=>false) 104).toArray 135));have h1:(w.alloc (.cells (bl f 104).toArray 135)).heap.size=w.heap.size+1:=Qs
 have h2:((w.alloc (.cells (bl f 104).toArray 135)).alloc (.cells (bl g 104).toArray 135)).heap.size=w.heap.size+2:=Qs
 have o:=TC.boxed w (bl f 104) 135;have t:=TC.boxed (w.alloc (.cells (bl f 104).toArray 135)) (bl g 104) 135;have F:=TC.boxed ((w.alloc (.cells (bl f 104).toArray 135)).alloc (.cells (bl g 104).toArray 135)) (bl (λ_=>false) 104) 135;rw[h1]at t;rw[h2,<-Q]at F;have x1:=box_bel w (.cells (bl f 104).toArray 135);have x2:=box_bel (w.alloc (.cells (bl f 104).toArray 135)) (.cells (bl g 104).toArray 135);have x3:=box_bel ((w.alloc (.cells (bl f 104).toArray 135)).alloc (.cells (bl g 104).toArray 135)) (.cells (bl (λ_=>false) 104).toArray 135);rw[<-Q]at x3;have D:TC w.heap.size (bl f 104) W:=(o.block (x2.block _ o.ltB)).block (x3.block _ Qo);have E:TC (w.heap.size+1) (bl g 104) W:=t.block (x3.block _ Qo);have H:Bl w W:=(x1.trans (x2.mono Qo)).trans (x3.mono Qo);clear o t x1 x2 x3 h1 h2;have Z:=(D.part (m:=96) Qo).range;have r2:=(E.part (m:=96) Qo).range;rw[Q]at Z r2;go_enter func175,ntmps175;go_wp2_with (first|(refine Zb rfl 132 _ rfl w.heap.size 0 rfl (bl f 96) _ Z u_a rfl (by rw[Y9];exact Y0) ?_)|(refine Zb rfl 132 _ rfl (w.heap.size+1) 0 rfl (bl g 96) _ r2 u_a rfl (by rw[Y9];exact Y0) ?_));rw[<-Q];clear Q Z r2;apply ft (Xn f g W);rintro e w1 ⟨rfl,z⟩;have o:=D.block (z.block _ D.ltB);have t:=E.block (z.block _ E.ltB);have G:=F.block (z.block _ F.ltB);have I:=H.trans (z.mono H.size);clear D E F H z;have B:w1.there w.heap.size 0 96:=by have:=(o.part (m:=96) Qo).there;rw[Y9]at this;exact this
 let⟨L,u⟩:=nam (bl (λi=>f i || g i) 96);have n:L.length=96:=by rw[u];exact Y9 _ _
 have l:TC w.heap.size (bl (λi=>if i<96 then f i || g i else f i) 104) (w1.setCells w.heap.size 0 L):=by
  have h:=o.setBools ((List.range 96).map λi=>f i || g i) 0 f w1 Qs;rw[<-Be,<-u]at h;rw[YW (λi hi=>?_)]
  .exact h
  by_cases e:i<96
  .simp[e,Zf]
  simp[e]
 have T:=Y8 w.heap.size L 0 w1;have a:=t.block (T.block _ t.ltB (λe=>by have:=Zh e;omega));have b:=G.block (T.block _ G.ltB (λe=>by have:=Zh e;omega));have c:=I.grown T I.size (λq X=>by cases X;exact Zg _);have C:Hid (L.toArray.all (·.oneCell')=true):=by show _=true;rw[u];exact YJ _ _
 have d:=hyd n;let⟨W2,J⟩:=nam (w1.setCells w.heap.size 0 L);rw[<-J]at l a b c;have M:=hyd J;rw[<-u];clear o t G I T u n J;go_wp2_with (first|(apply Za rfl 132 _ _ rfl w.heap.size 0 L.toArray rfl rfl (by simpa[d.o]using B) (by simpa[d.o]using Y0) C.o;rw[Zc,<-M.o]));clear B C d M
 go_loopw [5] (λx w'=>∃r:Nat,r<=8/\x=I6 r/\TC w.heap.size (bl (λi=>if i<96+r then f i || g i else f i) 104) w'/\TC (w.heap.size+1) (bl g 104) w'/\TC (w.heap.size+2) (bl (λ_=>false) 104) w'/\Bl w w') (λx _=>8-(intOf x).toNat)
 .exact⟨0,Qo,rfl,l,a,b,c⟩
 clear l a b c;obtain⟨r,hr,rfl,o,t,F,S⟩:=hrel;by_cases ae:r<8
 .have aa:(r:Int)<8:=Qo
  let⟨c1,ab⟩:=o (96+r) _ (YO _ Qo);have c2:=(t (96+r) _ (YO _ Qo)).1;simp only[Nat.lt_irrefl,eU]at c1;have l:=o.set (96+r) (by rw[Y9];omega) (.bool (f (96+r) || g (96+r)));rw[Vm]at l;have s:TC w.heap.size (bl (λi=>if i<96+(r+1) then f i || g i else f i) 104) (wr.setCell (a_ w.heap.size (96+r)) (.bool (f (96+r) || g (96+r)))):=by
   rw[YW (g:=λj=>if j=96+r then f (96+r) || g (96+r) else if j<96+r then f j || g j else f j) (λi _=>?_)]
   .exact l
   by_cases e:i=96+r
   .subst e;simp
   by_cases e1:i<96+r
   .simp[e,e1,show i<96+(r+1) by omega]
   simp[e,e1,show ¬i<96+(r+1) by omega]
  have V:∀k,k≠w.heap.size->(wr.setCell (a_ w.heap.size (96+r)) (.bool (f (96+r) || g (96+r)))).heap[k]?=wr.heap[k]?:=λk hk=>Zq wr (a_ w.heap.size (96+r)) _ k (λe=>hk e)
  have a:=t.block (V (w.heap.size+1) Qo);have b:=F.block (V (w.heap.size+2) Qo);have c:=S.setCell (p:=(a_ w.heap.size (96+r))) (Zg _) (.bool (f (96+r) || g (96+r)));let⟨x,hx⟩:=nam (f (96+r));let⟨y,hy⟩:=nam (g (96+r));rw[<-hx]at c1 s a b c;rw[<-hy]at c2 s a b c;clear o t F S l V hx hy;cases x
  .simp only[dx]at s a b c;go_wp2;go_roundw
   .exact⟨r+1,Qo,Qg,s,a,b,c⟩
   simp[intOf];omega
  simp only[Bool.true_or]at s a b c;go_wp2;go_roundw
  .exact⟨r+1,Qo,Qg,s,a,b,c⟩
  simp[intOf];omega
 have ac:¬(r:Int)<8:=Qo
 let⟨L,u⟩:=nam (bl (λi=>f i || g i) 104);have O:bl (λi=>if i<96+r then f i || g i else f i) 104=L:=by rw[u];exact YW (λi hi=>by simp[show i<96+r by omega])
 have n:L.length=104:=by rw[u];exact Y9 _ _
 rw[O]at o;have Y:=o.range;have B:wr.there (w.heap.size+2) 0 104:=by have:=F.there;rw[Y9]at this;exact this
 have hG:=Y8 (w.heap.size+2) L 0 wr;have R:=Zo wr (w.heap.size+2) 0 L (by rw[n];exact B);have A:=ZF (P:=prog) (wr.setCells (w.heap.size+2) 0 L) (w.heap.size+2) 0 135 L _ R u_d rfl (by rw[n];exact Yt);let⟨W9,K⟩:=nam (wr.setCells (w.heap.size+2) 0 L);rw[<-K]at hG A;have U:=hyd K;have N:=hyd A;have C:Hid (L.toArray.all (·.oneCell')=true):=by show _=true;rw[u];exact YJ _ _
 have d:=hyd n;have HL:=hyd u;clear K R A u n o t F O;go_wp2_with (first|(refine Zb rfl 135 _ rfl w.heap.size 0 rfl L _ Y u_d rfl (by rw[d.o];exact Yt) ?_)|(apply Za rfl 135 _ _ rfl (w.heap.size+2) 0 L.toArray rfl rfl (by simpa[d.o]using B) (by simpa[d.o]using Yt) C.o;rw[Zc,<-U.o]));apply Zr (v:=.agg L.toArray) (res_load1 results175 rfl N.o) rfl;exact⟨by rw[HL.o],S.grown hG S.size (λq X=>by cases X;omega)⟩
def PW(w:World):(zeroValue 150).run prog w=.ok (.agg #[sN,sN]) w:=by
 go_simp
def WM:(prog.info? 150).map (·.size)=some 2:=Qk
structure FN (w:World) (vo vf:Value) (lo lf:List Int) (W:World):Prop where
 z:TC w.heap.size [.slice none 0 0,.slice none 0 0] W
 s:TC (w.heap.size+1) [vo,vf] W
 o:OwnL (w.heap.size+2) vo lo W
 f:OwnL (w.heap.size+2) vf lf W
 ne:∀k,vo.ownBlock=some k->vf.ownBlock≠some k
 b:Below w.heap.size w W
def FN.size{lo:List Int}(h:FN w vo vf lo lf W):w.heap.size+2<=W.heap.size:=by have:=h.s.lt;omega
def FN.below{lo:List Int}(h:FN w vo vf lo lf W)(H:Bl W W'):FN w vo vf lo lf W':=
 ⟨h.z.below H,h.s.below H,h.o.below H,h.f.below H,h.ne,h.b.trans (H.mono h.b.size)⟩
def FN.putF{w:World}{vo vf:Value}{lo lf:List Int}{W W1 w5:World}{x:Int}{g cap:Nat}{ob:Obj}(h:FN w vo vf lo lf W)(H:W1=W.alloc ob)
  (Z:OwnL (w.heap.size+2) (sL g (lf.length+1) cap) (lf++[x]) w5) (J:W1.grownBy w5 vf.ownBlock) (Y:vf.ownBlock=some g\/g=W1.heap.size):
  FN w vo (sL g (lf.length+1) cap) lo (lf++[x]) (w5.setCell (a_ (w.heap.size+1) 1) (sL g (lf.length+1) cap)):=by
 have hs:=h.size;have x1:Bl W W1:=by rw[H];exact box_bel _ _
 have m:W1.heap.size=W.heap.size+1:=by rw[H];simp
 have k1:=h.below x1;have n:=J.size;have d:∀k,k≠w.heap.size+1->(w5.setCell (a_ (w.heap.size+1) 1) (sL g (lf.length+1) cap)).heap[k]?=w5.heap[k]?:=λk a=>Zq w5 (a_ (w.heap.size+1) 1) _ k (λe=>a e)
 have c:=h.f.blk;have i:w.heap.size+2<=g:=(Z.blk g rfl).1;refine⟨?_,?_,?_,?_,?_,?_⟩
 .refine(k1.z.block (J.block _ Qo (λe=>?_))).block (d _ Qo);have:=(c _ e.symm).1;omega
 .exact(k1.s.block (J.block _ Qo (λe=>by have:=(c _ e.symm).1;omega))).set 1 Qs _
 .exact(k1.o.grown J (λk a e=>h.ne k a e)).keep (λk a=>d k (by have:=(h.o.blk k a).1;omega))
 .exact Z.keep (λk a=>d k (by cases a;show g≠_;omega))
 .intro k a e;have e2:g=k:=Zh e;have j:=h.o.blk k a;rcases Y with h1|h1
  .rw[e2]at h1;exact h.ne k a h1
  omega
 exact(k1.b.grown J Qo (λq l=>by have:=(c q l).1;omega)).setCell (p:=(a_ (w.heap.size+1) 1)) (fH _) _
def FN.putO{w:World}{vo vf:Value}{lo lf:List Int}{W W1 w5:World}{x:Int}{g cap:Nat}{ob:Obj}(h:FN w vo vf lo lf W)(H:W1=W.alloc ob)
  (Z:OwnL (w.heap.size+2) (sL g (lo.length+1) cap) (lo++[x]) w5) (J:W1.grownBy w5 vo.ownBlock) (Y:vo.ownBlock=some g\/g=W1.heap.size):
  FN w (sL g (lo.length+1) cap) vf (lo++[x]) lf (w5.setCell (a_ (w.heap.size+1) 0) (sL g (lo.length+1) cap)):=by
 have hs:=h.size;have x1:Bl W W1:=by rw[H];exact box_bel _ _
 have m:W1.heap.size=W.heap.size+1:=by rw[H];simp
 have k1:=h.below x1;have n:=J.size;have d:∀k,k≠w.heap.size+1->(w5.setCell (a_ (w.heap.size+1) 0) (sL g (lo.length+1) cap)).heap[k]?=w5.heap[k]?:=λk a=>Zq w5 (a_ (w.heap.size+1) 0) _ k (λe=>a e)
 have c:=h.o.blk;have i:w.heap.size+2<=g:=(Z.blk g rfl).1;refine⟨?_,?_,?_,?_,?_,?_⟩
 .refine(k1.z.block (J.block _ Qo (λe=>?_))).block (d _ Qo);have:=(c _ e.symm).1;omega
 .exact(k1.s.block (J.block _ Qo (λe=>by have:=(c _ e.symm).1;omega))).set 0 Qs _
 .exact Z.keep (λk a=>d k (by cases a;show g≠_;omega))
 .exact(k1.f.grown J (λk a e=>h.ne k e a)).keep (λk a=>d k (by have:=(h.f.blk k a).1;omega))
 .intro k a e;have e2:g=k:=Zh a;have j:=h.f.blk k e;rcases Y with h1|h1
  .rw[e2]at h1;exact h.ne k h1 e
  omega
 exact(k1.b.grown J Qo (λq l=>by have:=(c q l).1;omega)).setCell (p:=(a_ (w.heap.size+1) 0)) (fH _) _
def UO(E:Nat->Nat->Bool)(n:Nat):List Int:=(List.range n).map (idxI E)
def YS(E:Nat->Nat->Bool)(n:Nat):List Int:=(reps E n).map λ(a:Nat)=>(a:Int)
def Qx(E:Nat->N_)(n:Nat):UO E (n+1)=UO E n++[idxI E n]:=by simp[UO,ZT]
def Xh(E:Nat->N_)(n:Nat):(UO E n).length=n:=by simp[UO]
def YH(E:Nat->N_)(n:Nat):(YS E n).length=cnt E n:=by simp[YS,cnt]
def Wn(E:Nat->N_)(n:Nat):YS E (n+1)=YS E n++if least E n=n then [(n:Int)] else []:=by
 unfold YS;rw[reps_succ,eK];split<;>rfl
def Qb(E:Nat->Nat->Bool)(n:Nat)(w:World)(e:Ending)(w':World):Prop:=
 ∃vo vf,e=.returned (.agg #[vo,vf])/\OwnL w.heap.size vo (UO E n) w'/\OwnL w.heap.size vf (YS E n) w'/\(∀k,vo.ownBlock=some k->vf.ownBlock≠some k)/\Below w.heap.size w w'
def DV(gb:Nat)(A:Aut)(ta:Option Addr)(tc:Nat)(sv:Value)(oa:Option Addr)(oc:Nat)(of:Nat->Int)(w:World)(hA:Aut.Small A)(hr:∀s k,s<A.N->k<A.K->-1<=A.to s k/\A.to s k<A.N)(hG:Gr gb A ta tc sv w)(hO:IL oa of A.N w):
  Cp 131 #[pT gb,.slice oa A.N oc] w (Qb (Tg A of) A.N w):=by
 have hz:=PW;have hn:=hA.n;have HC:Hid (∀(a b:Nat) (w':World),a<A.N->b<A.N->Bl w w'->Cp 176 #[pT gb,.slice oa A.N oc,I6 a,I6 b] w' λe w''=>e=.returned (.bool (Tg A of a b))/\Bl w' w''):=λa b w' ha hb h'=>KO gb A ta tc sv oa oc of a b w' hA hr (hG.below h') (hO.below h') ha hb
 have HE:=hyd (Tg_eqv A of A.N);clear hG hO hr hA;generalize Tg A of=E at *;let⟨W,hW⟩:=nam ((w.alloc (.cells #[sN,sN] 150)).alloc (.cells #[sN,sN] 150));have S0:FN w (sN) (sN) (UO E 0) (YS E 0) W:=by
  have aN:(w.alloc (.cells #[sN,sN] 150)).heap.size=w.heap.size+1:=Qs
  rw[hW];refine⟨(TC.boxed w [sN,sN] _).below (box_bel _ _),?_,OwnL.nil _ _,OwnL.nil _ _,λk hk=>(by cases hk),(box_bel w _).trans ((box_bel _ _).mono Qs)⟩;rw[<-aN];exact TC.boxed _ [sN,sN] _
 go_enter func131,ntmps131;go_wp2;rw[<-hW];clear hW
 go_loopw [6] (λx w'=>∃(a:Nat) (vo vf:Value),a<=A.N/\x=I6 a/\FN w vo vf (UO E a) (YS E a) w') (λx _=>A.N-(intOf x).toNat)
 .exact⟨0,_,_,Qo,rfl,S0⟩
 clear S0;obtain⟨a,vo,vf,ha,rfl,S⟩:=hrel;by_cases Z:a<A.N
 .have aS:(a:Int)<(A.N:Int):=Qo
  let⟨fa,J,aP,_⟩:=S.f.il;let⟨p,vc,aQ,_⟩:=S.o.il;subst aP;subst aQ;rw[YH]at S;rw[Xh]at S;have l:=rep_new HE Z;have aF:=cnt_le E a;let⟨id,X⟩:=nam (idx E a);rw[<-X]at l;have u:=hyd X;clear X;let⟨c,hc⟩:=nam (cnt E a);have Hc:=hyd hc;rw[<-hc]at l aF S;clear hc;have t:=hyd l.1;have am:=l.2;clear l;go_wp2
  go_loopw [7] (λx w'=>∃j:Nat,j<=id/\x=I6 j/\FN w (.slice p a vc) (.slice fa c J) (UO E a) (YS E a) w') (λx _=>c-(intOf x).toNat)
  .exact⟨0,Qo,rfl,S⟩
  clear S;obtain⟨j,hj,rfl,S⟩:=hrel;have c1:=(S.s 1 _ rfl).1;have c0:=(S.s 0 _ rfl).1;by_cases aH:j<c
  .have aR:(j:Int)<c:=Qo
   obtain⟨r,hr⟩:∃r,(reps E a)[j]?=some r:=⟨(reps E a)[j]'(by have:=Hc.o;unfold cnt at this;omega),Zd _⟩;have aM:=reps_mem hr;have Y:=rep_like HE.o Z hr;rw[<-u.o]at Y;let⟨aT,ai,ar,ab⟩:=S.f.il;have au:=(fI ar).1;rw[<-au]at ab;let⟨az,aA,aG,c2⟩:=ab j (by rw[YH,<-Hc.o];exact aH);subst aG;clear au;have al:(YS E a).getD j 0=(r:Int):=by simp[YS,Zf,hr]
   simp only[al]at c2;have ac:=HC.o r a wr Qo Z S.b;have F:Hid (Cp 176 #[pT gb,.slice oa A.N oc,I6 r,I6 a] wr λe w''=>e=.returned (.bool (E r a))/\Bl wr w''):=ac;have ah:=hyd Y;clear ac Y hr aM ar ab al;go_wp2_with fail;apply F.o.mono;rintro e w2 ⟨rfl,aj⟩;have S2:=S.below aj;clear S c0 c1 c2 F aj;cases hE:E r a
   .have aW:j≠id:=λe=>by have:=ah.o.2 e;rw[hE]at this;cases this
    go_wp2;go_roundw
    .exact⟨j+1,Qo,Qg,S2⟩
    simp[intOf];omega
   have aI:=ah.o.1 hE;subst aI;have H:least E a≠a:=λe=>by have:=t.o.2 e;omega
   have q1:((j:Int)==(c:Int))=false:=Qp
   have c1:=(S2.s 1 _ rfl).1;have c0:=(S2.s 0 _ rfl).1;have m:=box_bel w2 (.cells #[I6 (j:Int)] 3);have L:=S2.o.below m;have aa:(w2.alloc (.cells #[I6 (j:Int)] 3)).cell? (a_ w2.heap.size 0)=some (I6 (j:Int)):=by rw[Zm];rfl
   have Q:=ZJ S2.size m.size;have HK:Hid (∀w5,(w2.alloc (.cells #[I6 (j:Int)] 3)).grownBy w5 (Value.slice p a vc).ownBlock->TC (w.heap.size+1) [.slice p a vc,.slice (some (a_ az aA)) c J] w5):=λw5 hg=>
    (S2.s.below m).block (hg.block _ (by have:=S2.size;have:=m.size;omega) (λe=>by have:=(S2.o.blk _ e.symm).1;omega))
   have I:=hyd S2;have y:=hyd H;clear S2 m H;go_wp2_with (first|(at_builtin;refine wpList_append_int Qr _ _ Qr (w.heap.size+2) (.slice p a vc) (UO E a) Qr L (by rw[Xh];omega) w2.heap.size (j:Int) Qr aa Q _ rfl ?_;intro g cap w5 M d T aJ;have c5:=(HK.o w5 d 0 _ rfl).1;have ay:=(HK.o w5 d 0 _ rfl).2));have S3:=I.o.putO rfl M d T;have e1:UO E a++[(j:Int)]=UO E (a+1):=by rw[Qx];unfold idxI;rw[<-u.o]
   have e2:YS E (a+1)=YS E a:=by rw[Wn,dG y.o,dv]
   rw[e1,<-e2,Xh]at S3;rw[Xh];go_roundw
   .exact⟨a+1,_,_,Qo,Qg,S3⟩
   simp[intOf];omega
  have U:¬(j:Int)<c:=Qo
  have an:c=j:=Qo
  have V:id=c:=Qo
  have G:=t.o.1 V;have av:=hyd V;clear U V hj am t;subst an;have U:¬(c:Int)<c:=Qo
  have q1:((c:Int)==(c:Int))=true:=Qs
  have m:=box_bel wr (.cells #[I6 (a:Int)] 3);have L:=S.f.below m;have aa:(wr.alloc (.cells #[I6 (a:Int)] 3)).cell? (a_ wr.heap.size 0)=some (I6 (a:Int)):=by rw[Zm];rfl
  have Q:=ZJ S.size m.size;have HK:Hid (∀w5,(wr.alloc (.cells #[I6 (a:Int)] 3)).grownBy w5 (Value.slice fa c J).ownBlock->TC (w.heap.size+1) [.slice p a vc,.slice fa c J] w5):=λw5 hg=>
   (S.s.below m).block (hg.block _ (by have:=S.size;have:=m.size;omega) (λe=>by have:=(S.f.blk _ e.symm).1;omega))
  have I:=hyd S;have y:=hyd G;clear S m G;have R:=YH E a;rw[<-Hc.o]at R;have C:=hyd R;clear R;have HX:Hid (∀g cap w5,OwnL (w.heap.size+2) (sL g (c+1) cap) (YS E a++[(a:Int)]) w5->(wr.alloc (.cells #[I6 (a:Int)] 3)).grownBy w5 (Value.slice fa c J).ownBlock->((Value.slice fa c J).ownBlock=some g\/g=(wr.alloc (.cells #[I6 (a:Int)] 3)).heap.size) ->
    FN w (.slice p a vc) (sL g (c+1) cap) (UO E a) (YS E a++[(a:Int)]) (w5.setCell (a_ (w.heap.size+1) 1) (sL g (c+1) cap))):=λg cap w5 h1 h2 h3=>by
   have h:=I.o.putF (x:=(a:Int)) (g:=g) (cap:=cap) rfl (by rw[C.o];exact h1) h2 h3;rw[C.o]at h;exact h
  have aw:Hid (∀(g cap:Nat) (w5:World),FN w (.slice p a vc) (sL g (c+1) cap) (UO E a) (YS E a++[(a:Int)]) (w5.setCell (a_ (w.heap.size+1) 1) (sL g (c+1) cap)) ->
    OwnL (w.heap.size+2) (.slice p a vc) (UO E a) ((w5.setCell (a_ (w.heap.size+1) 1) (sL g (c+1) cap)).alloc (.cells #[I6 (c:Int)] 3)) /\
    ((w5.setCell (a_ (w.heap.size+1) 1) (sL g (c+1) cap)).alloc (.cells #[I6 (c:Int)] 3)).cell? (a_ w5.heap.size 0)=some (I6 (c:Int)) /\
    w.heap.size+2<=((w5.setCell (a_ (w.heap.size+1) 1) (sL g (c+1) cap)).alloc (.cells #[I6 (c:Int)] 3)).heap.size /\
    ∀D,((w5.setCell (a_ (w.heap.size+1) 1) (sL g (c+1) cap)).alloc (.cells #[I6 (c:Int)] 3)).grownBy D (Value.slice p a vc).ownBlock->TC (w.heap.size+1) [.slice p a vc,sL g (c+1) cap] D):=λg cap w5 hF=>by
   have aO:(w5.setCell (a_ (w.heap.size+1) 1) (sL g (c+1) cap)).heap.size=w5.heap.size:=by simp[World.setCell]
   generalize w5.setCell (a_ (w.heap.size+1) 1) (sL g (c+1) cap)=W5 at *;have m:=box_bel W5 (.cells #[I6 (c:Int)] 3);refine⟨hF.o.below m,by rw[<-aO,Zm];rfl,ZJ hF.size m.size,λD hg=>?_⟩;exact(hF.s.below m).block (hg.block _ (by have:=hF.size;have:=m.size;omega) (λe=>by have:=(hF.o.blk _ e.symm).1;omega))
  go_wp2_with (first|(at_builtin;refine wpList_append_int Qr _ _ Qr (w.heap.size+2) (.slice fa c J) (YS E a) Qr L (by rw[C.o];omega) wr.heap.size (a:Int) Qr aa Q _ rfl ?_;rw[C.o];intro g cap w5 M d T aJ;have c5:=(HK.o w5 d 1 _ rfl).1;have ay:=(HK.o w5 d 1 _ rfl).2;have S5:=HX.o g cap w5 M d T;have c6:=(S5.s 0 _ rfl).1;let⟨aB,aK,aE,ao⟩:=aw.o g cap w5 S5;have ag:Hid (∀D,((w5.setCell (a_ (w.heap.size+1) 1) (sL g (c+1) cap)).alloc (.cells #[I6 (c:Int)] 3)).grownBy D (Value.slice p a vc).ownBlock->TC (w.heap.size+1) [.slice p a vc,sL g (c+1) cap] D):=ao;clear ao)|(at_builtin;refine wpList_append_int Qr _ _ Qr (w.heap.size+2) (.slice p a vc) (UO E a) Qr aB (by rw[Xh];omega) w5.heap.size (c:Int) Qr aK aE _ rfl ?_;intro g2 ai D aC i ak aV;have c7:=(ag.o D i 0 _ rfl).1;have aU:=(ag.o D i 0 _ rfl).2));have S7:=S5.putO rfl aC i ak;have e1:UO E a++[(c:Int)]=UO E (a+1):=by rw[Qx];unfold idxI;rw[<-u.o,av.o]
  have e2:YS E a++[(a:Int)]=YS E (a+1):=by rw[Wn,dF y.o]
  rw[e1,e2,Xh]at S7;rw[Xh];go_roundw
  .exact⟨a+1,_,_,Qo,Qg,S7⟩
  simp[intOf];omega
 have U:¬(a:Int)<(A.N:Int):=Qo
 have aD:a=A.N:=Qo
 have aL:=S.s.range;have aq:=S.z.there;have hG:=Y8 w.heap.size [vo,vf] 0 wr;have ap:=Zo wr w.heap.size 0 [vo,vf] aq;have B:=ZF (P:=prog) (wr.setCells w.heap.size 0 [vo,vf]) w.heap.size 0 150 [vo,vf] _ ap u_j rfl WM;let⟨W9,O⟩:=nam (wr.setCells w.heap.size 0 [vo,vf]);rw[<-O]at hG B;have ax:=hyd O;have af:=hyd B;have ae:Hid (vo.oneCell'=true/\vf.oneCell'=true):=by
  let⟨a1,c1,h1,_⟩:=S.o.il;let⟨a2,c2,h2,_⟩:=S.f.il;rw[h1,h2];exact⟨rfl,rfl⟩
 clear O ap B;go_wp2_with (first|(refine Zb rfl 150 _ rfl (w.heap.size+1) 0 rfl [vo,vf] _ aL u_j rfl WM ?_)|(apply Za rfl 150 _ _ rfl w.heap.size 0 #[vo,vf] rfl rfl aq WM (by simp[ae.o.1,ae.o.2]);rw[Zc,<-ax.o]));apply Zr (v:=.agg #[vo,vf]) (res_load1 results131 rfl af.o) rfl;rw[aD]at S;refine⟨vo,vf,rfl,(S.o.grown hG (λk hk e=>?_)).mono Qo,(S.f.grown hG (λk hk e=>?_)).mono Qo,S.ne,S.b.grown hG S.b.size (λq hq=>by cases hq;exact Zg _)⟩
 .have:=(S.o.blk k hk).1;have:=Zh e;omega
 have:=(S.f.blk k hk).1;have:=Zh e;omega
def UY(f:Nat->Bool):Nat->Nat->Int
 |0,_=>-1
 |u+1,r=>if f r then (r:Int) else UY f u (r+1)
def GP(f:N_):∀u r,-1<=UY f u r/\UY f u r<(u+r:Nat)
 |0,r=>by unfold UY;omega
 |u+1,r=>by
  have:=GP f u (r+1);rw[UY];split<;>omega
def Pe(b o:Nat)(f:N_)(w:World)(h:∀r,r<8->w.cell? (a_ b (o+96+r))=some (.bool (f r))):
  Cp 130 #[.pointer (some (a_ b o))] w λe w'=>e=.returned (I6 (UY f 8 0))/\w'=w:=by
 let⟨R,g⟩:=nam (UY f 8 0);rw[<-g];have d:=hyd g;have H:=hyd h;clear g h;go_enter func130,ntmps130;go_wp2
 go_loopw [3] (λx w'=>∃(u r:Nat),u+r=8/\x=I6 r/\Hid (R=UY f u r)/\w'=w) (λx _=>8-(intOf x).toNat)
 .exact⟨8,0,rfl,rfl,d,rfl⟩
 clear d;obtain⟨u,r,m,rfl,d,rfl⟩:=hrel;by_cases i:r<8
 .have k:(r:Int)<8:=Qo
  rcases u with _|u
  .omega
  have c:=H.o r i;cases hf:f r
  .rw[hf]at c;have a:Hid (R=UY f u (r+1)):=by show _=_;rw[d.o,UY,hf];rfl
   clear d hf;go_wp2;go_roundw
   .exact⟨u,r+1,Qo,Qg,a,trivial⟩
   simp[intOf];omega
  rw[hf]at c;have a:Hid (R=r):=by show _=_;rw[d.o,UY,hf];rfl
  clear d hf;go_wp2;go_ret;exact⟨Y2 a.o.symm,rfl⟩
 have l:¬(r:Int)<8:=Qo
 have j:u=0:=Qo
 subst j;have a:Hid (R=-1):=d;go_wp2;go_ret;exact⟨Y2 a.o.symm,rfl⟩
def SR(sa:Option Addr)(rl:Nat->Nat->Bool)(n:Nat)(w:World):Prop:=∀i,i<n->∃b off,sa=some ⟨b,off,none⟩/\∀r,r<8->w.cell? ⟨b,off+i*104+96+r,none⟩=some (.bool (rl i r))
def SR.below{H:Option Addr}{z:Nat->N_}(h:SR H z n w)(J:Bl w w'):SR H z n w':=λi f=>by
 let⟨b,a,e,c⟩:=h i f;refine⟨b,a,e,λr d=>?_⟩;rw[J.cell (p:=(a_ b (a+i*104+96+r))) (Ze w _ (c r d))];exact c r d
def IL.congr{g:Nat->Int}(h:IL ad f n w)(e:∀i,i<n->f i=g i):IL ad g n w:=λi c=>by
 let⟨b,a,h1,h2⟩:=h i c;exact⟨b,a,h1,by rw[<-e i c];exact h2⟩
def FN.putB{J H:Value}{lo:List Int}(h:FN w vo vf lo lf W)(ho:OwnL (w.heap.size+2) J lo' W)(Z:OwnL (w.heap.size+2) H lf' W)(Y:∀k,J.ownBlock=some k->H.ownBlock≠some k):
  FN w J H lo' lf' (W.setCells (w.heap.size+1) 0 [J,H]):=by
 have c:=Y8 (w.heap.size+1) [J,H] 0 W;have hs:=h.size;refine⟨h.z.block (c.block _ Qo (λe=>by have:=Zh e;omega)),?_,ho.grown c (λk a e=>?_),Z.grown c (λk a e=>?_),Y,h.b.grown c h.b.size (λq f=>by cases f;omega)⟩
 .intro k v d;have h1:=Zo W (w.heap.size+1) 0 [J,H] h.s.there k v d;have a:=(Zi.1 d).1;have h2:=(h.s.there k a).2;rw[Zn]at h1 h2;exact⟨h1,by rw[fp];exact h2⟩
 .have:=(ho.blk k a).1;have:=Zh e;omega
 have:=(Z.blk k a).1;have:=Zh e;omega
def Du(A:Aut)(n:Nat):List Int:=(List.range n).map λi=>A.vd i+1
def Dh(A:Aut)(n:Nat):Du A (n+1)=Du A n++[A.vd n+1]:=by simp[Du,ZT]
def QN(A:Aut)(n:Nat):(Du A n).length=n:=by simp[Du]
def SV(A:Aut)(g:Int)(lo lf:List Int):Prop:=
 (g=-1/\lo=Du A A.N/\lf=[])\/(g=0/\lo=UO (Tg A λa=>A.vd a+1) A.N/\lf=YS (Tg A λa=>A.vd a+1) A.N) \/
 ∃E,Part A E/\g=cnt E A.N/\lo=UO (Tg A (idxI E)) A.N/\lf=YS (Tg A (idxI E)) A.N
def zL(h:0<n):0<cnt E n:=by
 have h1:=cnt_mono E (show 1<=n from h);have h2:least E 0=0:=by have:=least_le E 0;omega
 have h3:cnt E 1=cnt E 0+1:=by have:=cnt_succ E 0;rw[dF h2]at this;exact this
 omega
variable {A:Aut}
def SV.step(z:A.Good){g:Int}{lo lf:List Int}(h:SV A g lo lf):∃of:Nat->Int,(∀i,i<A.N->lo.getD i 0=of i)/\lo.length=A.N/\SV A lf.length (UO (Tg A of) A.N) (YS (Tg A of) A.N):=by
 have c:∀E,∀i,i<A.N->(UO E A.N).getD i 0=idxI E i:=λE i b=>by simp[UO,Zf,b]
 rcases h with ⟨rfl,rfl,rfl⟩|⟨rfl,rfl,rfl⟩|⟨E,d,rfl,rfl,rfl⟩
 .exact⟨λa=>A.vd a+1,λi b=>by simp[Du,Zf,b],QN _ _,Or.inr (Or.inl ⟨rfl,rfl,rfl⟩)⟩
 .exact⟨idxI (Tg A λa=>A.vd a+1),c _,Xh _ _,Or.inr (Or.inr ⟨_,Part.first z,by rw[YH],rfl,rfl⟩)⟩
 exact⟨idxI (Tg A (idxI E)),c _,Xh _ _,Or.inr (Or.inr ⟨_,(d.next z).1,by rw[YH],rfl,rfl⟩)⟩
def SV.done(H:A.Good)(J:0<A.N){g:Int}{lo lf:List Int}(h:SV A g lo lf)(z:(lf.length:Int)<=g):lo=UO (alB A) A.N/\lf=YS (alB A) A.N:=by
 rcases h with ⟨rfl,rfl,rfl⟩|⟨rfl,rfl,rfl⟩|⟨E,j,rfl,rfl,rfl⟩
 .simp at z
 .rw[YH]at z;have:=zL (E:=Tg A λa=>A.vd a+1) J;omega
 rw[YH]at z;have e:=j.stable H Qo;have c:=Tg_eqv A (idxI E) A.N;have d:=alB_eqv A A.N;have f:∀a b,a<A.N->b<A.N->(Tg A (idxI E) a b=true<->alB A a b=true):=λa b ha k=>by rw[alB_iff];exact e a b ha k
 refine⟨?_,?_⟩
 .unfold UO;refine ZO (λi l=>?_);show((idx (Tg A (idxI E)) i:Nat):Int)=((idx (alB A) i:Nat):Int);rw[idx_congr c d f (by simpa using l)]
 unfold YS;rw[reps_congr c d f _ (Zg _)]
def SV.lt{g:Int}{lo:List Int}(h:SV A g lo lf):lf.length<=A.N/\-1<=g:=by
 rcases h with ⟨rfl,rfl,rfl⟩|⟨rfl,rfl,rfl⟩|⟨E,b,rfl,rfl,rfl⟩
 .simp
 .rw[YH];have:=cnt_le (Tg A λa=>A.vd a+1) A.N;omega
 rw[YH];have:=cnt_le (Tg A (idxI E)) A.N;omega
def Dz(gb:Nat)(A:Aut)(ta:Option Addr)(tc:Nat)(sa:Option Addr)(sc:Nat)(rl:Nat->N_)(w:World)(hA:Aut.Small A)(av:A.Good)(hN:0<A.N)(hG:Gr gb A ta tc (.slice sa A.N sc) w)(hS:SR sa rl A.N w)(hv:∀i,i<A.N->A.vd i=UY (rl i) 8 0):
  Cp 67 #[pT gb] w (Qb (alB A) A.N w):=by
 have hz:=PW;have hn:=hA.n;have HF:Hid (∀(X:Option Addr) (oc:Nat) (of:Nat->Int) (w':World),Bl w w'->IL X of A.N w'->Cp 131 #[pT gb,.slice X A.N oc] w' (Qb (Tg A of) A.N w')):=λX oc of w' J hO=>DV gb A ta tc _ X oc of w' hA av.rng (hG.below J) hO
 have HG:Hid (∀w',Bl w w'->w'.cell? (a_ gb 1)=some (.slice sa A.N sc)):=λw' J=>(hG.below J).c1
 have HS:Hid (∀w',Bl w w'->SR sa rl A.N w'):=λw' J=>hS.below J
 have HV:=hyd hv;have F:Hid A.Good:=av;clear hG hS hA av hv;let⟨W,hW⟩:=nam ((w.alloc (.cells #[sN,sN] 150)).alloc (.cells #[sN,sN] 150));have S0:FN w (sN) (sN) (Du A 0) [] W:=by
  have ak:(w.alloc (.cells #[sN,sN] 150)).heap.size=w.heap.size+1:=Qs
  rw[hW];refine⟨(TC.boxed w [sN,sN] _).below (box_bel _ _),?_,OwnL.nil _ _,OwnL.nil _ _,λk K=>(by cases K),(box_bel w _).trans ((box_bel _ _).mono Qs)⟩;rw[<-ak];exact TC.boxed _ [sN,sN] _
 go_enter func67,ntmps67;go_wp2;rw[<-hW];clear hW
 go_loopw [4] (λx w'=>∃(a:Nat) (vo:Value),a<=A.N/\x=I6 a/\FN w vo (sN) (Du A a) [] w') (λx _=>A.N-(intOf x).toNat)
 .exact⟨0,_,Qo,rfl,S0⟩
 clear S0;obtain⟨a,vo,ha,rfl,S⟩:=hrel;have c1:=HG.o wr S.b;by_cases C:a<A.N
 .have an:(a:Int)<(A.N:Int):=Qo
  let⟨b,R,al,hr⟩:=HS.o wr S.b a C;have H:Hid (Cp 130 #[.pointer (some (a_ b (R+a*104)))] wr λe w'=>e=.returned (I6 (A.vd a))/\w'=wr):=by
   rw[HV.o a C];exact Pe b (R+a*104) (rl a) wr hr
  have au:-1<=A.vd a/\A.vd a<8:=by rw[HV.o a C];have:=GP (rl a) 8 0;omega
  have S1:=hyd S;clear hr S;rw[al]at c1;go_wp2_with fail;apply H.o.mono;rintro e wr ⟨rfl,rfl⟩;clear H c1;let⟨D,vc,c,_⟩:=S1.o.o.il;rw[QN]at c;subst c;let⟨y,hy⟩:=nam (A.vd a+1);have iy:=hy.symm;have Hy:=hyd hy;have S2:=S1.o;have c0:=(S2.s 0 _ rfl).1;have Q:=box_bel wr (.cells #[I6 y] 3);have ab:=S2.o.below Q;have ai:(wr.alloc (.cells #[I6 y] 3)).cell? (a_ wr.heap.size 0)=some (I6 y):=by rw[Zm];rfl
  have ag:=ZJ S2.size Q.size;have HK:Hid (∀w5,(wr.alloc (.cells #[I6 y] 3)).grownBy w5 (Value.slice D a vc).ownBlock->TC (w.heap.size+1) [.slice D a vc,sN] w5):=λw5 hg=>
   (S2.s.below Q).block (hg.block _ (by have:=S2.size;have:=Q.size;omega) (λe=>by have:=(S2.o.blk _ e.symm).1;omega))
  clear S2 Q hy;go_wp2_with (first|(at_builtin;refine wpList_append_int Qr _ _ Qr (w.heap.size+2) (.slice D a vc) (Du A a) Qr ab (by rw[QN];omega) wr.heap.size y Qr ai ag _ rfl ?_;intro g cap w5 ac d ah ar;have c5:=(HK.o w5 d 0 _ rfl).1;have ao:=(HK.o w5 d 0 _ rfl).2));have V:=S1.o.putO rfl ac d ah;have e1:Du A a++[y]=Du A (a+1):=by rw[Dh,Hy.o]
  rw[e1,QN]at V;rw[QN];go_roundw
  .exact⟨a+1,_,Qo,Qg,V⟩
  simp[intOf];omega
 have ap:¬(a:Int)<(A.N:Int):=Qo
 have af:a=A.N:=Qo
 subst af;have S1:=S;clear S;go_wp2
 go_loopw [6] (λx w'=>∃(g:Int) (vo vf:Value) (lo lf:List Int),x=I6 g/\FN w vo vf lo lf w'/\Hid (SV A g lo lf)) (λx _=>((A.N:Int)+1-intOf x).toNat)
 .exact⟨-1,_,_,_,_,rfl,S1,Or.inl ⟨rfl,rfl,rfl⟩⟩
 clear S1 c1;obtain⟨g,vo,vf,lo,lf,rfl,S,G⟩:=hrel;let⟨D,vc,c,t⟩:=S.o.il;let⟨fa,h,am,_⟩:=S.f.il;subst c;subst am;have hb:=G.o.lt;let⟨m,hm⟩:=nam lf.length;have Hm:=hyd hm;rw[<-hm]at S hb;clear hm;by_cases aq:g<(m:Int)
 .let⟨of,h1,h2,h3⟩:=G.o.step F.o;have u:IL D of A.N wr:=by rw[h2]at t;exact t.congr h1
  rw[h2]at S;have E:=hyd (HF.o D vc of wr S.b u);have Z:Hid (SV A m (UO (Tg A of) A.N) (YS (Tg A of) A.N)):=by rw[Hm.o];exact h3
  have c0:=(S.s 0 _ rfl).1;have c1:=(S.s 1 _ rfl).1;have p:=hyd S;clear S t u h1 h2 h3 G;go_wp2_with fail;apply E.o.mono;rintro e w2 ⟨U,T,rfl,ho,hf,L,ae⟩;have S2:=p.o.below ae;have O:=p.o.size;have V:=S2.putB (ho.mono O) (hf.mono O) L;have r:=S2.s.there;have l:Hid (U.oneCell'=true/\T.oneCell'=true):=by
   let⟨a1,c1,h1,_⟩:=ho.il;let⟨a2,c2,h2,_⟩:=hf.il;rw[h1,h2];exact⟨rfl,rfl⟩
  clear S2 ho hf L E c0 c1;go_wp2_with (first|(apply Za rfl 150 _ _ rfl (w.heap.size+1) 0 #[U,T] rfl rfl r WM (by simp[l.o.1,l.o.2]);rw[Zc]));simp only[Act.put];go_roundw
  .exact⟨m,_,_,_,_,rfl,V,Z⟩
  simp[intOf];omega
 have hd:=G.o.done F.o hN (by rw[<-Hm.o];omega);have c1:=(S.s 1 _ rfl).1;let⟨e1,e2⟩:=hd;subst e1;subst e2;let⟨vo,c⟩:=nam (Value.slice D (UO (alB A) A.N).length vc);have c0:=(S.s 0 _ rfl).1;rw[<-c]at S c0;have aj:=S.s.range;have r:=S.z.there;have hG:=Y8 w.heap.size [vo,.slice fa m h] 0 wr;have M:=Zo wr w.heap.size 0 [vo,.slice fa m h] r;have j:=ZF (P:=prog) (wr.setCells w.heap.size 0 [vo,.slice fa m h]) w.heap.size 0 150 [vo,.slice fa m h] _ M u_j rfl WM;let⟨W9,B⟩:=nam (wr.setCells w.heap.size 0 [vo,.slice fa m h]);rw[<-B]at hG j;have aa:=hyd B;have I:=hyd j;have l:Hid (vo.oneCell'=true):=by rw[c];exact rfl
 have Y:Hid ((Value.slice fa m h).oneCell'=true):=rfl;have p:Hid (FN w vo (.slice fa m h) (UO (alB A) A.N) (YS (alB A) A.N) wr):=S;clear B M j c S t G;go_wp2_with (first|(refine Zb rfl 150 _ rfl (w.heap.size+1) 0 rfl [vo,.slice fa m h] _ aj u_j rfl WM ?_)|(apply Za rfl 150 _ _ rfl w.heap.size 0 #[vo,.slice fa m h] rfl rfl r WM (by simp[l.o,Y.o]);rw[Zc,<-aa.o]));apply Zr (v:=.agg #[vo,.slice fa m h]) (res_load1 results67 rfl I.o) rfl;have S:=p.o;refine⟨vo,.slice fa m h,rfl,(S.o.grown hG (λk K e=>?_)).mono Qo,(S.f.grown hG (λk K e=>?_)).mono Qo,S.ne,S.b.grown hG S.b.size (λq hq=>by cases hq;exact Zg _)⟩
 .have:=(S.o.blk k K).1;have:=Zh e;omega
 have:=(S.f.blk k K).1;have:=Zh e;omega
def Xk(K:Nat)(rw:Nat->Nat->Int)(n:Nat):List Int:=(List.range n).map λt=>rw (t/K) (t%K)
def Jg(K:Nat)(rw:Nat->Nat->Int)(n:Nat):Xk K rw (n+1)=Xk K rw n++[rw (n/K) (n%K)]:=by simp[Xk,ZT]
def Nt(K:Nat)(rw:Nat->Nat->Int)(n:Nat):(Xk K rw n).length=n:=by simp[Xk]
def Ps{s:Nat}(z:k<K):(s*K+k)/K=s/\(s*K+k)%K=k:=by
 have a:0<K:=Qo
 rw[ed,Nat.mul_add_div a,eX z,eP,Nat.mul_add_mod,Nat.mod_eq_of_lt z];exact⟨rfl,rfl⟩
def Gz{S s:Nat}(hs:s<S)(z:k<K):(Xk K rw (S*K)).getD (s*K+k) 0=rw s k:=by
 have h:s*K+k<S*K:=by
  have:(s+1)*K<=S*K:=ZQ _ hs;rw[dQ]at this;omega
 let⟨a,e2⟩:=Ps (s:=s) z;simp[Xk,Zf,h,a,e2]
def YQ(A:Aut)(E:Nat->Nat->Bool)(s k:Nat):Int:=gAt A (idxI E) ((reps E A.N).getD s 0) k
def Gy(gb:Nat)(A:Aut)(ta:Option Addr)(tc:Nat)(sv:Value)(E:Nat->N_)(b1 b2:Nat)(vo vf:Value)(w:World)(hA:Aut.Small A)(hr:∀s k,s<A.N->k<A.K->-1<=A.to s k/\A.to s k<A.N)(hG:Gr gb A ta tc sv w)(ho:OwnL b1 vo (UO E A.N) w)(hf:OwnL b2 vf (YS E A.N) w):
  Cp 132 #[pT gb,.agg #[vo,vf]] w λe w'=>∃v,e=.returned v/\OwnL w.heap.size v (Xk A.K (YQ A E) (cnt E A.N*A.K)) w'/\Bl w w':=by
 have hn:=hA.n;have U:=hA.k;have R:=cnt_le E A.N;let⟨t,L,J,p⟩:=ho.il;let⟨fa,fc,I,d⟩:=hf.il;rw[Xh]at J p;rw[YH]at I d;subst J;subst I;have h:IL t (idxI E) A.N w:=p.congr (λi hi=>by simp[UO,Zf,hi]);clear p ho hf;obtain⟨c,Q⟩:∃c,c=cnt E A.N:=⟨_,rfl⟩;rw[<-Q]at d R ⊢;have Hc:Hid (c=cnt E A.N):=Q;clear Q;obtain⟨W,M⟩:∃W,W=w.alloc (.cells #[.slice t A.N L,.slice fa c fc] 150):=⟨_,rfl⟩;have x0:Bl w W:=by rw[M];exact box_bel _ _
 have D:TC w.heap.size [.slice t A.N L,.slice fa c fc] W:=by rw[M];exact TC.boxed _ _ _
 have HC:Hid (∀(s k:Nat) (w':World),s<A.N->k<A.K->Bl W w'->Cp 177 #[pT gb,.slice t A.N L,I6 s,I6 k] w' λe w''=>e=.returned (I6 (gAt A (idxI E) s k))/\Bl w' w''):=λs k w' hs hk f=>OR gb A ta tc sv t L (idxI E) s k w' hA hr ((hG.below x0).below f) ((h.below x0).below f) hs hk
 have HK:Hid (∀w',Bl W w'->w'.cell? (a_ gb 0)=some (I6 A.K)):=λw' f=>((hG.below x0).below f).c0
 have HT:Hid (∀w',Bl W w'->w'.cell? (a_ w.heap.size 0)=some (.slice t A.N L)):=λw' f=>(D.below f 0 _ rfl).1
 have HF:Hid (∀w',Bl W w'->IL fa (λi=>(YS E A.N).getD i 0) c w'):=λw' f=>(d.below x0).below f
 have O:=hyd x0;clear hG hA hr h d D x0;go_enter func132,ntmps132;go_wp2;rw[<-M];clear M
 go_loopw [5,13] (λv x w'=>∃s:Nat,s<=c/\x=I6 s/\OwnL W.heap.size v (Xk A.K (YQ A E) (s*A.K)) w'/\Bl W w') (λ_ x _=>c-(intOf x).toNat)
 .exact⟨0,Qo,rfl,by rw[fJ];exact OwnL.nil _ _,Zk _ _⟩
 obtain⟨s,hs,rfl,b,a⟩:=hrel;by_cases X:s<c
 .have ac:(s:Int)<c:=Qo
  obtain⟨r,hr⟩:∃r,(reps E A.N)[s]?=some r:=⟨(reps E A.N)[s]'(by have:=Hc.o;unfold cnt at this;omega),Zd _⟩;have Z:=(reps_mem hr).1;have G:(YS E A.N).getD s 0=(r:Int):=by simp[YS,Zf,hr]
  have P:Hid (∀k,YQ A E s k=gAt A (idxI E) r k):=λk=>by unfold YQ;rw[show(reps E A.N).getD s 0=r by simp[Zf,hr]]
  let⟨ae,af,S,c2⟩:=HF.o wr a s X;simp only[G]at c2;subst S;have ag:s*A.K<=200*256:=Gf Qo U;clear hr G;go_wp2
  go_loopw [5,8] (λv x w'=>∃k:Nat,k<=A.K/\x=I6 k/\OwnL W.heap.size v (Xk A.K (YQ A E) (s*A.K+k)) w'/\Bl W w') (λ_ x _=>A.K-(intOf x).toNat)
  .exact⟨0,Qo,rfl,b,a⟩
  clear b a c2;obtain⟨k,hk,rfl,b,a⟩:=hrel;have c0:=HK.o wr a;by_cases o:k<A.K
  .have ab:(k:Int)<(A.K:Int):=Qo
   have c1:=HT.o wr a;go_wp2_with fail;apply(HC.o r k _ Z o a).mono;rintro e w1 ⟨rfl,l⟩;have j:=a.trans (l.mono a.size);have z:=b.below l;clear b a c0 c1 l;let⟨y,hy⟩:=nam (gAt A (idxI E) r k);rw[<-hy];have Hy:Hid (y=YQ A E s k):=by show _=_;rw[hy,P.o]
   clear hy;have hx:=box_bel w1 (.cells #[I6 y] 3);have B:=z.below hx;have u:=j.trans (hx.mono j.size);have H:=B.blk;have Y:(w1.alloc (.cells #[I6 y] 3)).cell? (a_ w1.heap.size 0)=some (I6 y):=by rw[Zm];rfl
   have F:=u.size;clear hx z j;go_wp2_with (first|(at_builtin;refine wpList_append_int Qr _ _ Qr W.heap.size u5 (Xk A.K (YQ A E) (s*A.K+k)) Qr B (by rw[Nt];omega) w1.heap.size y Qr Y F _ rfl ?_;intro g cap w5 C m ah ai));have e1:Xk A.K (YQ A E) (s*A.K+k)++[y]=Xk A.K (YQ A E) (s*A.K+(k+1)):=by
    rw[<-ZN,Jg,(Ps o).1,(Ps o).2,Hy.o]
   rw[e1]at C;go_roundw
   .exact⟨k+1,Qo,Qg,C,u.grown m F (λq hq=>(H q hq).1)⟩
   simp[intOf];omega
  have T:¬(k:Int)<(A.K:Int):=Qo
  have V:k=A.K:=Qo
  go_wp2;go_roundw
  .exact⟨s+1,Qo,Qg,by rw[dQ,Nat.one_mul];rw[V]at b;exact b,a⟩
  simp[intOf];omega
 have T:¬(s:Int)<c:=Qo
 have aa:s=c:=Qo
 go_wp2;go_ret;refine⟨u5,rfl,?_,O.o.trans (a.mono O.o.size)⟩;rw[aa]at b;exact b.mono O.o.size
def Cl(rw:Nat->Nat->Int)(S:Nat)(a b:Nat):Bool:=(List.range S).all λs=>rw s a==rw s b
def Vg(rw:Nat->Nat->Int)(S a b:Nat):Cl rw S a b=true<->∀s,s<S->rw s a=rw s b:=by simp[Cl]
def Sp(rw:Nat->Nat->Int)(S n:Nat):Eqv (Cl rw S) n:=
 ⟨λa _=>(Vg rw S a a).2 (λ_ _=>rfl),λa b _ _ h=>(Vg rw S b a).2 (λs hs=>((Vg rw S a b).1 h s hs).symm),λa b c _ _ _ h k=>(Vg rw S a c).2 (λs hs=>((Vg rw S a b).1 h s hs).trans ((Vg rw S b c).1 k s hs))⟩
def Ny(ra:Option Addr)(rc K S:Nat)(rw:Nat->Nat->Int)(a b:Nat)(w:World)(hK:K<=256)(hS:S<=200)(ha:a<K)(hb:b<K)(hR:IL ra (λi=>(Xk K rw (S*K)).getD i 0) (S*K) w):
  Cp 178 #[.slice ra (S*K) rc,.int .i64 K,.int .i64 a,.int .i64 b] w λe w'=>e=.returned (.bool (Cl rw S a b))/\Bl w w':=by
 obtain⟨R,m⟩:=nam (Cl rw S a b);rw[<-m];have G:Hid (R=true<->∀s,s<S->rw s a=rw s b):=by rw[m];exact Vg rw S a b
 clear m;have D:=Gf hS hK;obtain⟨M,C⟩:=nam (S*K);have F:Hid (∀(w':World),Bl w w'->∀s k,s<S->k<K->∃b d,ra=some ⟨b,d,none⟩/\w'.cell? ⟨b,d+(s*K+k),none⟩=some (.int .i64 (rw s k))):=λw' Q s k hs U=>by
  have V:s*K+k<S*K:=by
   have:(s+1)*K<=S*K:=ZQ _ hs;rw[dQ]at this;omega
  obtain⟨b,d,e,H⟩:=(hR.below Q) (s*K+k) V;simp only[Gz hs U]at H;exact⟨b,d,e,H⟩
 have n:=hyd C;rw[<-C]at D ⊢;clear C hR;go_enter func178,ntmps178;go_wp2_with fail
 go_loopw [9] (λx w'=>∃s p:Nat,s<=S/\x=.int .i64 p/\Hid (p=s*K)/\p<=M/\Bl w w'/\Hid (∀j,j<s->rw j a=rw j b)) (λx _=>M-(intOf x).toNat)
 .exact⟨0,0,by omega,rfl,by show _=_;simp,by omega,Zk _ _,λj I=>by omega⟩
 obtain⟨s,p,hs,rfl,f,W,o,y⟩:=hrel;by_cases c:s<S
 .have E:s*K+K<=S*K:=by
   have:(s+1)*K<=S*K:=ZQ _ c;rw[dQ]at this;omega
  have J:(p:Int)<M:=by have:=f.out;have:=n.out;omega
  obtain⟨L,q⟩:=nam (p+a);obtain⟨N,r⟩:=nam (p+b);obtain⟨v,t⟩:=nam (p+K);have Y:(p:Int)+(a:Int)=(L:Int):=by omega
  have⟨i2,i3⟩:(p:Int)+(b:Int)=(N:Int)/\(p:Int)+(K:Int)=(v:Int):=by omega
  have Z:(L:Int)<M:=by have:=f.out;have:=n.out;omega
  have l2:(N:Int)<M:=by have:=f.out;have:=n.out;omega
  have X:v<=M:=by have:=f.out;have:=n.out;omega
  have l4:p<v:=by omega
  obtain⟨g1,o1,u,c1⟩:=F.out wr o s a c ha;obtain⟨g2,o2,h,c2⟩:=F.out wr o s b c hb;have A:Hid (v=(s+1)*K):=by show _=_;rw[dQ,t,f.out];omega
  rw[<-f.out,<-q]at c1;rw[<-f.out,<-r]at c2;rw[u]at h;cases h;subst u;clear q r t E;by_cases g:rw s a=rw s b
  .have B:(rw s a==rw s b)=true:=by simpa using g
   have e2:(rw s a != rw s b)=false:=by simp[g]
   have z:Hid (∀j,j<s+1->rw j a=rw j b):=λj I=>by
    by_cases P:j=s
    .subst P;exact g
    exact y j (by omega)
   clear g y;go_wp2_with fail
   go_quiet (fail)
   go_wp2_with fail;go_roundw
   .exact⟨s+1,v,by omega,by go_num,A,X,o.trans (WC _ _ _),z⟩
   simp[intOf];omega
  have B:(rw s a==rw s b)=false:=by simpa using g
  have e2:(rw s a != rw s b)=true:=by simp[g]
  have l:Hid (R=false):=by
   show _=_;cases hR:R
   .rfl
   exact absurd (G.out.1 hR s c) g
  clear g y;go_wp2_with fail
  go_quiet (fail)
  go_wp2_with fail;go_ret;exact⟨YM l.out.symm,o.trans (WC _ _ _)⟩
 have T:¬(p:Int)<M:=by
  have B:=f.out;have e2:=n.out;have O:s=S:=by omega
  rw[O,<-e2]at B;omega
 have l:=hyd (G.out.2 (λj I=>y.out j (by omega)));go_wp2_with fail;go_ret;exact⟨YM l.out.symm,o⟩
structure CN (w:World) (vo vf:Value) (lo lf:List Int) (W:World):Prop where
 o:OwnL w.heap.size vo lo W
 f:OwnL w.heap.size vf lf W
 ne:∀k,vo.ownBlock=some k->vf.ownBlock≠some k
 b:Below w.heap.size w W
def CN.below{lo:List Int}(h:CN w vo vf lo lf W)(z:Bl W W'):CN w vo vf lo lf W':=
 ⟨h.o.below z,h.f.below z,h.ne,h.b.trans (z.mono h.b.size)⟩
def CN.putF{w:World}{vo vf:Value}{lo lf lf':List Int}{W W1 w5:World}{n g cap:Nat}{ob:Obj}(h:CN w vo vf lo lf W)(z:W1=W.alloc ob)
  (Y:OwnL w.heap.size (sL g n cap) lf' w5) (J:W1.grownBy w5 vf.ownBlock) (H:vf.ownBlock=some g\/g=W1.heap.size):CN w vo (sL g n cap) lo lf' w5:=by
 have x1:Bl W W1:=by rw[z];exact box_bel _ _
 have j:W1.heap.size=W.heap.size+1:=by rw[z];simp
 have k1:=h.below x1;have c:=h.f.blk;refine⟨k1.o.grown J (λk a e=>h.ne k a e),Y,?_,k1.b.grown J k1.b.size (λq i=>(c q i).1)⟩;intro k a e;have e2:g=k:=Zh e;have d:=h.o.blk k a;rcases H with h1|h1
 .rw[e2]at h1;exact h.ne k a h1
 omega
def CN.putO{w:World}{vo vf:Value}{lo lf lo':List Int}{W W1 w5:World}{n g cap:Nat}{ob:Obj}(h:CN w vo vf lo lf W)(z:W1=W.alloc ob)
  (Y:OwnL w.heap.size (sL g n cap) lo' w5) (J:W1.grownBy w5 vo.ownBlock) (H:vo.ownBlock=some g\/g=W1.heap.size):CN w (sL g n cap) vf lo' lf w5:=by
 have x1:Bl W W1:=by rw[z];exact box_bel _ _
 have j:W1.heap.size=W.heap.size+1:=by rw[z];simp
 have k1:=h.below x1;have a:=h.o.blk;refine⟨Y,k1.f.grown J (λk c e=>h.ne k e c),?_,k1.b.grown J k1.b.size (λq i=>(a q i).1)⟩;intro k c e;have e2:g=k:=Zh c;have d:=h.f.blk k e;rcases H with h1|h1
 .rw[e2]at h1;exact h.ne k h1 e
 omega
def Dv(E:Nat->Nat->Bool)(n:Nat)(w:World)(e:Ending)(w':World):Prop:=
 ∃vo vf,e=.returned (.tuple #[vo,vf])/\OwnL w.heap.size vo (UO E n) w'/\OwnL w.heap.size vf (YS E n) w'/\Below w.heap.size w w'
def LD(ra:Option Addr)(rc K S:Nat)(rw:Nat->Nat->Int)(w:World)(hK:K<=256)(hS:S<=200)(hR:IL ra (λi=>(Xk K rw (S*K)).getD i 0) (S*K) w):
  Cp 133 #[.slice ra (S*K) rc,I6 K] w (Dv (Cl rw S) K w):=by
 have HC:Hid (∀(a b:Nat) (w':World),a<K->b<K->Bl w w'->Cp 178 #[.slice ra (S*K) rc,I6 K,I6 a,I6 b] w' λe w''=>e=.returned (.bool (Cl rw S a b))/\Bl w' w''):=λa b w' ha hb h'=>Ny ra rc K S rw a b w' hK hS ha hb (hR.below h')
 have HE:=hyd (Sp rw S K);let⟨M,hM⟩:=nam (S*K);rw[<-hM]at HC ⊢;clear hR hM;generalize Cl rw S=E at *;go_enter func133,ntmps133;go_wp2
 go_loopw [6,7,8] (λvo vf x w'=>∃a:Nat,a<=K/\x=I6 a/\CN w vo vf (UO E a) (YS E a) w') (λ_ _ x _=>K-(intOf x).toNat)
 .exact⟨0,Qo,rfl,OwnL.nil _ _,OwnL.nil _ _,λk hk=>(by cases hk),Zk _ _⟩
 obtain⟨a,ha,rfl,S1⟩:=hrel;by_cases I:a<K
 .have au:(a:Int)<K:=Qo
  let⟨fa,Z,ap,_⟩:=S1.f.il;let⟨N,vc,aq,_⟩:=S1.o.il;subst ap;subst aq;rw[YH]at S1;rw[Xh]at S1;have d:=rep_new HE I;have ah:=cnt_le E a;let⟨id,G⟩:=nam (idx E a);rw[<-G]at d;have m:=hyd G;clear G;rw[YH,Xh];let⟨c,hc⟩:=nam (cnt E a);have Hc:=hyd hc;rw[<-hc]at d ah S1 ⊢;clear hc;have l:=hyd d.1;have V:=d.2;clear d;go_wp2
  go_loopw [9] (λx w'=>∃j:Nat,j<=id/\x=I6 j/\CN w (.slice N a vc) (.slice fa c Z) (UO E a) (YS E a) w') (λx _=>c-(intOf x).toNat)
  .exact⟨0,Qo,rfl,S1⟩
  clear S1;obtain⟨j,hj,rfl,S1⟩:=hrel;by_cases ak:j<c
  .have ar:(j:Int)<c:=Qo
   obtain⟨r,hr⟩:∃r,(reps E a)[j]?=some r:=⟨(reps E a)[j]'(by have:=Hc.o;unfold cnt at this;omega),Zd _⟩;have ao:=reps_mem hr;have H:=rep_like HE.o I hr;rw[<-m.o]at H;let⟨av,Q,X,L⟩:=S1.f.il;have Y:=(fI X).1;rw[<-Y]at L;let⟨aw,ax,ai,c2⟩:=L j (by rw[YH,<-Hc.o];exact ak);subst ai;have U:(YS E a).getD j 0=(r:Int):=by simp[YS,Zf,hr]
   simp only[U]at c2;have s:=hyd (HC r a wr Qo I S1.b);have P:=hyd H;clear H hr ao X L U Y;go_wp2_with fail;apply s.o.mono;rintro e w2 ⟨rfl,R⟩;have S2:=S1.below R;clear S1 c2 s R;cases hE:E r a
   .have az:j≠id:=λe=>by have:=P.o.2 e;rw[hE]at this;cases this
    go_wp2;go_roundw
    .exact⟨j+1,Qo,Qg,S2⟩
    simp[intOf];omega
   have al:=P.o.1 hE;subst al;have u:least E a≠a:=λe=>by have:=l.o.2 e;omega
   have q1:((j:Int)==(c:Int))=false:=Qp
   have p:=box_bel w2 (.cells #[I6 (j:Int)] 3);have z:=S2.o.below p;have J:(w2.alloc (.cells #[I6 (j:Int)] 3)).cell? (a_ w2.heap.size 0)=some (I6 (j:Int)):=by rw[Zm];rfl
   have B:=ZJ S2.b.size p.size;have y:=hyd S2;have n:=hyd u;clear S2 p u;go_wp2_with (first|(at_builtin;refine wpList_append_int Qr _ _ Qr w.heap.size (.slice N a vc) (UO E a) Qr z (by rw[Xh];omega) w2.heap.size (j:Int) Qr J B _ rfl ?_;intro g cap w5 A h D am));have S3:=y.o.putO rfl A h D;have e1:UO E a++[(j:Int)]=UO E (a+1):=by rw[Qx];unfold idxI;rw[<-m.o]
   have e2:YS E (a+1)=YS E a:=by rw[Wn,dG n.o,dv]
   rw[e1,<-e2]at S3;go_roundw
   .exact⟨a+1,Qo,Qg,S3⟩
   simp[intOf];omega
  have W:c=j:=Qo
  have F:id=c:=Qo
  have t:=l.o.1 F;have aa:=hyd F;clear F hj V l;subst W;have aj:¬(c:Int)<c:=Qo
  have q1:((c:Int)==(c:Int))=true:=Qs
  have p:=box_bel wr (.cells #[I6 (a:Int)] 3);have z:=S1.f.below p;have J:(wr.alloc (.cells #[I6 (a:Int)] 3)).cell? (a_ wr.heap.size 0)=some (I6 (a:Int)):=by rw[Zm];rfl
  have B:=ZJ S1.b.size p.size;have y:=hyd S1;have n:=hyd t;have C:=YH E a;rw[<-Hc.o]at C;have O:=hyd C;have HX:Hid (∀g cap w5,OwnL w.heap.size (sL g (c+1) cap) (YS E a++[(a:Int)]) w5->(wr.alloc (.cells #[I6 (a:Int)] 3)).grownBy w5 (Value.slice fa c Z).ownBlock->((Value.slice fa c Z).ownBlock=some g\/g=(wr.alloc (.cells #[I6 (a:Int)] 3)).heap.size) ->
    CN w (.slice N a vc) (sL g (c+1) cap) (UO E a) (YS E a++[(a:Int)]) w5):=λg cap w5 h1 h2 h3=>y.o.putF rfl h1 h2 h3
  have ab:Hid (∀(v:Value) (w5:World),CN w (.slice N a vc) v (UO E a) (YS E a++[(a:Int)]) w5 ->
    OwnL w.heap.size (.slice N a vc) (UO E a) (w5.alloc (.cells #[I6 (c:Int)] 3))/\(w5.alloc (.cells #[I6 (c:Int)] 3)).cell? (a_ w5.heap.size 0)=some (I6 (c:Int))/\w.heap.size<=(w5.alloc (.cells #[I6 (c:Int)] 3)).heap.size):=λv w5 hF=>by
   have p:=box_bel w5 (.cells #[I6 (c:Int)] 3);exact⟨hF.o.below p,by rw[Zm];rfl,ZJ hF.b.size p.size⟩
  clear S1 p t C;go_wp2_with (first|(at_builtin;refine wpList_append_int Qr _ _ Qr w.heap.size (.slice fa c Z) (YS E a) Qr z (by rw[O.o];omega) wr.heap.size (a:Int) Qr J B _ rfl ?_;rw[O.o];intro g cap w5 A h D am;have S5:=HX.o g cap w5 A h D;let⟨ac,an,ag⟩:=ab.o _ w5 S5)|(at_builtin;refine wpList_append_int Qr _ _ Qr w.heap.size (.slice N a vc) (UO E a) Qr ac (by rw[Xh];omega) w5.heap.size (c:Int) Qr an ag _ rfl ?_;intro g2 Q w7 ae q T ay));have S7:=S5.putO rfl ae q T;have e1:UO E a++[(c:Int)]=UO E (a+1):=by rw[Qx];unfold idxI;rw[<-m.o,aa.o]
  have e2:YS E a++[(a:Int)]=YS E (a+1):=by rw[Wn,dF n.o]
  rw[e1,e2]at S7;go_roundw
  .exact⟨a+1,Qo,Qg,S7⟩
  simp[intOf];omega
 have aj:¬(a:Int)<K:=Qo
 have af:a=K:=Qo
 subst af;go_wp2;go_ret2;exact⟨u6,u7,rfl,S1.o,S1.f,S1.b⟩
def HS(ha:Option Addr)(hs:Nat->Nat->Bool)(P:Nat)(w:World):Prop:=∀p b,p<P->b<256->∃blk off,ha=some ⟨blk,off,none⟩/\w.cell? ⟨blk,off+p*256+b,none⟩=some (.bool (hs p b))
def HS.below(h:HS ha hs P w)(hW:Bl w w'):HS ha hs P w':=λp b f d=>by
 obtain⟨blk,a,e,c⟩:=h p b f d;refine⟨blk,a,e,?_⟩;rw[hW.cell (p:=⟨blk,a+p*256+b,none⟩) (Ze w _ c)];exact c
def Kq(hs:Nat->Nat->Bool)(P:Nat)(a b:Nat):Bool:=(List.range P).all λp=>hs p a==hs p b
def Vj(hs:Nat->Nat->Bool)(P a b:Nat):Kq hs P a b=true<->∀p,p<P->hs p a=hs p b:=by simp[Kq]
def Vi(hs:Nat->Nat->Bool)(P n:Nat):Eqv (Kq hs P) n:=
 ⟨λa _=>(Vj hs P a a).2 (λ_ _=>rfl),λa b _ _ h=>(Vj hs P b a).2 (λs d=>((Vj hs P a b).1 h s d).symm),λa b c _ _ _ h k=>(Vj hs P a c).2 (λs d=>((Vj hs P a b).1 h s d).trans ((Vj hs P b c).1 k s d))⟩
def L8(nb:Nat)(ha:Option Addr)(hc P:Nat)(hs:Nat->Nat->Bool)(a b:Nat)(w:World)(hP:P<=96)(hc0:w.cell? ⟨nb,0,none⟩=some (.slice ha P hc))(hH:HS ha hs P w)(h1:a<256)(h2:b<256):
  Cp 127 #[.pointer (some ⟨nb,0,none⟩),.int .u8 a,.int .u8 b] w λe w'=>e=.returned (.bool (!Kq hs P a b))/\Bl w w':=by
 obtain⟨R,g⟩:=nam (!Kq hs P a b);rw[<-g];have q:Hid (R=false<->∀p,p<P->hs p a=hs p b):=by
  show _<->_;rw[g];have:=Vj hs P a b;simpa using this
 clear g;have u:Hid (∀w',Bl w w'->w'.cell? ⟨nb,0,none⟩=some (.slice ha P hc)):=λw' n=>by
  rw[n.cell (p:=⟨nb,0,none⟩) (Ze w _ hc0)];exact hc0
 have o:Hid (∀w',Bl w w'->HS ha hs P w'):=λw' n=>hH.below n
 have⟨h1',h2'⟩:(a:Int)<256/\(b:Int)<256:=by omega
 clear hH hc0;go_enter func127,ntmps127;go_wp2_with fail
 go_loopw [7] (λx w'=>∃p:Nat,p<=P/\x=.int .i64 p/\Bl w w'/\Hid (∀j,j<p->hs j a=hs j b)) (λx _=>P-(intOf x).toNat)
 .exact⟨0,by omega,rfl,Zk _ _,λj s=>by omega⟩
 obtain⟨p,C,rfl,f,l⟩:=hrel;have c0:=u.out wr f;by_cases d:p<P
 .have t:(p:Int)<P:=by omega
  obtain⟨g1,D,r,k1⟩:=o.out wr f p a d h1;obtain⟨g2,E,e2,A⟩:=o.out wr f p b d h2;rw[r]at e2;cases e2;subst r;obtain⟨x,i⟩:=nam (hs p a);obtain⟨y,k⟩:=nam (hs p b);rw[<-i]at k1;rw[<-k]at A;by_cases h:x=y
  .have m:Hid (∀j,j<p+1->hs j a=hs j b):=λj s=>by
    by_cases v:j=p
    .subst v;rw[<-i,<-k];exact h
    exact l j (by omega)
   subst h;clear l i k;go_wp2_with fail
   go_quiet (fail)
   have B:(x==x)=true:=by simp
   go_wp2_with fail;go_roundw
   .exact⟨p+1,by omega,by go_num,f.trans (WC _ _ _),m⟩
   simp[intOf];omega
  have c:Hid (R=true):=by
   show _=_;cases g:R
   .exact absurd (by rw[i,k];exact q.out.1 g p d) h
   rfl
  have B:(x==y)=false:=by simpa using h
  clear l i k h;go_wp2_with fail
  go_quiet (fail)
  go_wp2_with fail;go_ret;exact⟨YM c.out.symm,f.trans (WC _ _ _)⟩
 have z:¬(p:Int)<P:=by omega
 have c:=hyd (q.out.2 (λj s=>l.out j (by omega)));go_wp2_with fail;go_ret;exact⟨YM c.out.symm,f⟩
def xL(l:List Nat):List Value:=l.map λ(x:Nat)=>.int .u8 (x:Int)
def VH(base:Nat)(v:Value)(l:List Nat)(w:World):Prop:=w.ownsRow base 5 1 v l.length (xL l)
def VH.nil(base:Nat)(w:World):VH base (sN) [] w:=⟨rfl,Or.inl ⟨rfl,rfl⟩⟩
def VH.blk{l:List Nat}(h:VH base v l w):∀k,v.ownBlock=some k->base<=k/\k<w.heap.size:=λk a=>h.lt k a
def VH.keep{l:List Nat}(h:VH base v l w)(z:∀k,v.ownBlock=some k->w'.heap[k]?=w.heap[k]?):VH base v l w':=by
 refine⟨h.1,?_⟩;rcases h.2 with h0|⟨g,cap,a,rfl,h1,h2,h3⟩
 .exact Or.inl h0
 exact Or.inr ⟨g,cap,a,rfl,h1,by rw[z g rfl];exact h2,h3⟩
def VH.below{l:List Nat}(h:VH base v l w)(z:Bl w w'):VH base v l w':=h.keep (λk a=>z.block k (h.blk k a).2)
def VH.mono{l:List Nat}(h:VH base v l w)(z:base'<=base):VH base' v l w:=
 ⟨h.1,h.2.imp id (λ⟨g,cap,d,a,b,c⟩=>⟨g,cap,d,a,ZJ z b,c⟩)⟩
def VH.grown{l:List Nat}(h:VH base v l w)(H:w.grownBy w' row)(z:∀k,v.ownBlock=some k->row≠some k):VH base v l w':=
 h.keep (λk a=>H.block k (h.blk k a).2 (λe=>z k a e.symm))
def VH.at_{l:List Nat}(h:VH base v l w):∃ad cap,v=.slice ad l.length cap/\∀(i x:Nat),l[i]?=some x->∃g,ad=some (a_ g 0)/\w.cell? (a_ g i)=some (.int .u8 (x:Int)):=by
 rcases h.2 with ⟨rfl,h0⟩|⟨g,cap,c,rfl,h1,h2,h3,d,e,f⟩
 .refine⟨none,0,by rw[h0],λi x a=>?_⟩;have j:=(Zi.1 a).1;omega
 refine⟨some (a_ g 0),cap,rfl,λi x a=>⟨g,rfl,?_⟩⟩;have b:=h.cells (g:=g) rfl i (.int .u8 (x:Int)) (by simp[xL,a]);rw[fe,Zn]at b;exact b
def PU(hgd:o.guard=none)(s x:Operand)
  (ho:o.op=.call { callee:=.builtin .append,args:=#[s,x],argTypes:=#[99,99] }) (base:Nat)
  (v:Value) (l:List Nat) (hs:a.eval s=v) (hown:VH base v l w) (hn:l.length<=1000000)
  (B:Nat) (t:Nat) (hx:a.eval x=.slice (some ⟨B,0,none⟩) 1 1) (hnews:w.cell? ⟨B,0,none⟩=some (.int .u8 (t:Int))) (hbase:base<=w.heap.size) (H:Nat) (hH:w.heap.size=H)
  (h:∀g cap w',VH base (.slice (some ⟨g,0,none⟩) (l.length+1) cap) (l++[t]) w'->w.grownBy w' v.ownBlock->(v.ownBlock=some g\/g=H)->g<w'.heap.size->wpList prog ops Q rest (a.put o.dst (.slice (some ⟨g,0,none⟩) (l.length+1) cap)) w'):wpList prog ops Q (o::rest) a w:=by
 obtain⟨i,k,c,d,e⟩:=E3;refine fD w hgd s x 99 ho base 5 i (.int .u8 0) 1 1 u_g k c d e rfl Qo v l.length (xL l) hs hown ⟨B,0,none⟩ 1 1 [.int .u8 (t:Int)] hx rfl (λj u b=>?_) (by simp[Value.oneCell']) Qo (by unfold maxLen;omega) Qo hbase H hH ?_
 .rw[fe,Zn];cases j with
  |zero=>simp at b;subst b;exact hnews
  |succ j=>simp at b
 intro g cap w' h1 h2 h3 f;refine h g cap w' ?_ h2 h3 f;unfold VH;rw[Zl];simp only[xL,eK];exact h1
def Ye(f:Nat->Int)(v:Value):List Value:=(List.range 256).map (λi=>.int .i64 (f i))++[v]
def Xg(f:Nat->Int)(v:Value):(Ye f v).length=257:=by simp[Ye]
def VN(f:Nat->Int)(v:Value)(i:Nat)(h:i<256):(Ye f v)[i]?=some (I6 (f i)):=by
 unfold Ye;rw[Zv (by simpa using h)];simp[h]
def Wo(f:Nat->Int)(v:Value):(Ye f v)[256]?=some v:=by
 unfold Ye;rw[ZG Qs];simp
def NU(w:World):(zeroValue 142).run prog w=.ok (.agg (Ye (λ_=>0) (sN)).toArray) w:=Qk
def Th:(prog.info? 142).map (·.size)=some 257:=Qk
structure KN (w:World) (f:Nat->Int) (vl:Value) (l:List Nat) (W:World):Prop where
 z:TC w.heap.size (Ye (fun _=>0) (.slice none 0 0)) W
 s:TC (w.heap.size+1) (Ye f vl) W
 l:VH (w.heap.size+2) vl l W
 b:Below w.heap.size w W
def Bm.TC.ltK(h:TC t (Ye f v) w):t<w.heap.size:=Ze w _ (h 0 _ (VN f v 0 Qo)).1
def Bm.TC.belowK(h:TC t (Ye f v) w)(z:Bl w w'):TC t (Ye f v) w':=h.block (z.block t h.ltK)
def KN.size{l:List Nat}(h:KN w f vl l W):w.heap.size+2<=W.heap.size:=by have:=h.s.ltK;omega
def KN.below{l:List Nat}(h:KN w f vl l W)(H:Bl W W'):KN w f vl l W':=
 ⟨h.z.belowK H,h.s.belowK H,h.l.below H,h.b.trans (H.mono h.b.size)⟩
def FZ(f:Nat->Int)(v:Value)(i:Nat)(x:Int)(h:i<256):(Ye f v).set i (I6 x)=Ye (λj=>if j=i then x else f j) v:=by
 refine fG (λj=>?_);by_cases e:j=i
 .subst e;rw[fx (by rw[Xg];omega),VN _ _ _ h];simp
 rw[fA (λh=>e h.symm)];rcases ZD j 256 with a|a
 .rw[VN _ _ _ a,VN _ _ _ a];simp[e]
 by_cases b:j=256
 .subst b;rw[Wo,Wo]
 rw[ZB (by rw[Xg];omega),ZB (by rw[Xg];omega)]
def ID(f:Nat->Int)(v u:Value):(Ye f v).set 256 u=Ye f u:=by
 unfold Ye;rw[List.set_append_right _ _ Qs];simp
def KN.put{l:List Nat}(h:KN w f vl l W)(i:Nat)(H:i<256)(x:Int):KN w (λj=>if j=i then x else f j) vl l (W.setCell (a_ (w.heap.size+1) i) (I6 x)):=by
 have c:∀k,k≠w.heap.size+1->(W.setCell (a_ (w.heap.size+1) i) (I6 x)).heap[k]?=W.heap[k]?:=λk a=>Zq W (a_ (w.heap.size+1) i) _ k (λe=>a e)
 refine⟨h.z.block (c _ Qo),?_,h.l.keep (λk a=>c k (by have:=(h.l.blk k a).1;omega)),h.b.setCell (p:=(a_ (w.heap.size+1) i)) (fH _) _⟩;rw[<-FZ f vl i x H];exact h.s.set i (by rw[Xg];omega) _
def KN.putL{l Z:List Nat}(h:KN w f vl l W)(H:W1=W.alloc ob)
  (Y:VH (w.heap.size+2) (sL g n cap) Z w5) (J:W1.grownBy w5 vl.ownBlock):
  KN w f (sL g n cap) Z (w5.setCell (a_ (w.heap.size+1) 256) (sL g n cap)):=by
 have hs:=h.size;have x1:Bl W W1:=by rw[H];exact box_bel _ _
 have m:W1.heap.size=W.heap.size+1:=by rw[H];simp
 have k1:=h.below x1;have d:∀k,k≠w.heap.size+1->(w5.setCell (a_ (w.heap.size+1) 256) (sL g n cap)).heap[k]?=w5.heap[k]?:=λk c=>Zq w5 (a_ (w.heap.size+1) 256) _ k (λe=>c e)
 have a:=h.l.blk;have i:=(Y.blk g rfl).1;refine⟨?_,?_,?_,?_⟩
 .refine(k1.z.block (J.block _ Qo (λe=>?_))).block (d _ Qo);have:=(a _ e.symm).1;omega
 .rw[<-ID f vl];exact(k1.s.block (J.block _ Qo (λe=>by have:=(a _ e.symm).1;omega))).set 256 (by rw[Xg];omega) _
 .exact Y.keep (λk c=>d k (by cases c;show g≠_;omega))
 exact(k1.b.grown J Qo (λq j=>by have:=(a q j).1;omega)).setCell (p:=(a_ (w.heap.size+1) 256)) (fH _) _
def GZ(E:Nat->Nat->Bool)(w:World)(e:Ending)(w':World):Prop:=
 ∃(f:Nat->Int) (vl:Value),e=.returned (.agg (Ye f vl).toArray)/\(∀b,b<256->f b=idxI E b)/\VH w.heap.size vl (reps E 256) w'/\Below w.heap.size w w'
def IG(nb:Nat)(ha:Option Addr)(hc P:Nat)(hs:Nat->N_)(w:World)(hP:P<=96)(aJ:w.cell? (a_ nb 0)=some (.slice ha P hc))(hH:HS ha hs P w):
  Cp 65 #[pT nb] w (GZ (Kq hs P) w):=by
 have hz:=NU;have HC:Hid (∀(a b:Nat) (w':World),a<256->b<256->Bl w w'->Cp 127 #[pT nb,.int .u8 a,.int .u8 b] w' λe w''=>e=.returned (.bool (!Kq hs P a b))/\Bl w' w''):=λa b w' h1 h2 h'=>L8 nb ha hc P hs a b w' hP (by rw[h'.cell (p:=(a_ nb 0)) (Ze w _ aJ)];exact aJ) (hH.below h') h1 h2
 have HE:=hyd (Vi hs P 256);clear aJ hH hP;generalize Kq hs P=E at *;let⟨W,hW⟩:=nam ((w.alloc (.cells (Ye (λ_=>0) (sN)).toArray 142)).alloc (.cells (Ye (λ_=>0) (sN)).toArray 142));have S0:KN w (λ_=>0) (sN) [] W:=by
  have av:(w.alloc (.cells (Ye (λ_=>0) (sN)).toArray 142)).heap.size=w.heap.size+1:=Qs
  rw[hW];refine⟨(TC.boxed w (Ye (λ_=>0) (sN)) _).belowK (box_bel _ _),?_,VH.nil _ _,(box_bel w _).trans ((box_bel _ _).mono Qs)⟩;rw[<-av];exact TC.boxed _ (Ye (λ_=>0) (sN)) _
 go_enter func65,ntmps65;go_wp2;rw[<-hW];clear hW
 go_loopw [4] (λx w'=>∃(a:Nat) (f:Nat->Int) (vl:Value),a<=256/\x=I6 a/\Hid (∀b,b<a->f b=idxI E b)/\KN w f vl (reps E a) w') (λx _=>256-(intOf x).toNat)
 .exact⟨0,_,_,Qo,rfl,λb hb=>Qo,S0⟩
 clear S0;obtain⟨a,f,vl,ha,rfl,HF,S1⟩:=hrel;by_cases h:a<256
 .have az:(a:Int)<256:=Qo
  let⟨va,vc,aw,_⟩:=S1.l.at_;subst aw;have d:=rep_new HE h;have an:=cnt_le E a;let⟨id,J⟩:=nam (idx E a);rw[<-J]at d;have m:=hyd J;clear J;let⟨c,u⟩:=nam (cnt E a);have Hc:=hyd u;have H:(reps E a).length=c:=by rw[u];rfl
  rw[H]at S1;rw[<-u]at d an;have F:=hyd H;clear u H;have i:=hyd d.1;have U:=d.2;clear d;go_wp2
  go_loopw [6] (λx w'=>∃j:Nat,j<=id/\x=I6 j/\KN w f (.slice va c vc) (reps E a) w') (λx _=>c-(intOf x).toNat)
  .exact⟨0,Qo,rfl,S1⟩
  clear S1;obtain⟨j,hj,rfl,S1⟩:=hrel;have c1:=(S1.s 256 _ (Wo _ _)).1;by_cases aG:j<c
  .have ay:(j:Int)<c:=Qo
   obtain⟨r,hr⟩:∃r,(reps E a)[j]?=some r:=⟨(reps E a)[j]'(by have:=F.o;omega),Zd _⟩;have au:=reps_mem hr;have K:=rep_like HE.o h hr;rw[<-m.o]at K;let⟨aA,ax,aa,M⟩:=S1.l.at_;have ab:=(fI aa).1;rw[<-ab]at M;let⟨aE,ao,c2⟩:=M j r hr;subst ao;have y:=hyd (HC.o r a wr Qo h S1.b);have O:=hyd K;clear K hr au aa M ab;go_wp2_with fail;apply y.o.mono;rintro e w2 ⟨rfl,T⟩;have S2:=S1.below T;clear S1 c1 c2 y T;cases hE:E r a
   .have aI:j≠id:=λe=>by have:=O.o.2 e;rw[hE]at this;cases this
    go_wp2;go_roundw
    .exact⟨j+1,Qo,Qg,S2⟩
    simp[intOf];omega
   have aq:=O.o.1 hE;subst aq;have B:least E a≠a:=λe=>by have:=i.o.2 e;omega
   have q1:((j:Int)==(c:Int))=false:=Qp
   have c1:=(S2.s 256 _ (Wo _ _)).1;let⟨c5,aB⟩:=S2.s a _ (VN _ _ _ h);have S3:=S2.put a h (j:Int);have e2:reps E (a+1)=reps E a:=by rw[reps_succ,dG B,dv]
   rw[<-e2]at S3;have C:Hid (∀b,b<a+1->(if b=a then (j:Int) else f b)=idxI E b):=λb hb=>by
    by_cases R:b=a
    .subst R;simp[idxI,<-m.o]
    simp[R];exact HF b Qo
   have ah:=hyd S3;clear S2 S3 B e2;go_wp2;go_roundw
   .exact⟨a+1,_,_,Qo,Qg,C,ah⟩
   simp[intOf];omega
  have V:c=j:=Qo
  have I:id=c:=Qo
  have A:=i.o.1 I;have ac:=hyd I;clear I hj U i;subst V;have ap:¬(c:Int)<c:=Qo
  have q1:((c:Int)==(c:Int))=true:=Qs
  have hx:=box_bel wr (.cells #[.int .u8 (a:Int)] 5);have aj:=S1.l.below hx;have ar:(wr.alloc (.cells #[.int .u8 (a:Int)] 5)).cell? (a_ wr.heap.size 0)=some (.int .u8 (a:Int)):=by rw[Zm];rfl
  have am:=ZJ S1.size hx.size;have HK:Hid (∀w5,(wr.alloc (.cells #[.int .u8 (a:Int)] 5)).grownBy w5 (Value.slice va c vc).ownBlock->TC (w.heap.size+1) (Ye f (.slice va c vc)) w5):=λw5 hg=>
   (S1.s.belowK hx).block (hg.block _ (by have:=S1.size;have:=hx.size;omega) (λe=>by have:=(S1.l.blk _ e.symm).1;omega))
  have ag:=hyd S1;have Q:=hyd A;clear S1 hx A;go_wp2_with (first|(at_builtin;refine PU Qr _ _ Qr (w.heap.size+2) (.slice va c vc) (reps E a) Qr aj (by rw[F.o];omega) wr.heap.size a Qr ar am _ rfl ?_;rw[F.o];intro g cap w5 ak o aF aH;let⟨c6,aC⟩:=HK.o w5 o 256 _ (Wo _ _);have S5:=ag.o.putL rfl ak o;let⟨c7,aD⟩:=S5.s a _ (VN _ _ _ h)));have S6:=S5.put a h (c:Int);have e2:reps E a++[a]=reps E (a+1):=by rw[reps_succ,dF Q.o]
  rw[e2]at S6;have C:Hid (∀b,b<a+1->(if b=a then (c:Int) else f b)=idxI E b):=λb hb=>by
   by_cases R:b=a
   .subst R;simp[idxI,<-m.o,ac.o]
   simp[R];exact HF b Qo
  go_roundw
  .exact⟨a+1,_,_,Qo,Qg,C,S6⟩
  simp[intOf];omega
 have ap:¬(a:Int)<256:=Qo
 have al:a=256:=Qo
 subst al;have Y:=S1.s.range;have Z:wr.there w.heap.size 0 257:=by have:=S1.z.there;rw[Xg]at this;exact this
 let⟨L,S⟩:=nam (Ye f vl);have t:L.length=257:=by rw[S];exact Xg _ _
 rw[<-S]at Y;have hG:=Y8 w.heap.size L 0 wr;have X:=Zo wr w.heap.size 0 L (by rw[t];exact Z);have n:=ZF (P:=prog) (wr.setCells w.heap.size 0 L) w.heap.size 0 142 L _ X underlying142 rfl (by rw[t];exact Th);let⟨W9,G⟩:=nam (wr.setCells w.heap.size 0 L);rw[<-G]at hG n;have ai:=hyd G;have N:=hyd n;have ae:Hid (L.toArray.all (·.oneCell')=true):=by
  let⟨a1,c1,h1,_⟩:=S1.l.at_;show _=true;rw[S,h1];simp[Ye,Value.oneCell']
 have D:=hyd t;have HL:=hyd S;have af:=hyd S1;clear G X n S t S1;go_wp2_with (first|(refine Zb rfl 142 _ rfl (w.heap.size+1) 0 rfl L _ Y underlying142 rfl (by rw[D.o];exact Th) ?_)|(apply Za rfl 142 _ _ rfl w.heap.size 0 L.toArray rfl rfl (by simpa[D.o]using Z) (by simpa[D.o]using Th) ae.o;rw[Zc,<-ai.o]));apply Zr (v:=.agg L.toArray) (res_load1 results65 rfl N.o) rfl;have S1:=af.o;refine⟨f,vl,by rw[HL.o],HF.o,(S1.l.grown hG (λk hk e=>?_)).mono Qo,S1.b.grown hG S1.b.size (λq hq=>by cases hq;exact Zg _)⟩;have:=(S1.l.blk k hk).1;have:=Zh e;omega
structure Mq (A Q:Aut):Prop where
 n:Q.N=cnt (alB A) A.N
 k:Q.K=cnt (Cl (YQ A (alB A)) (cnt (alB A) A.N)) A.K
 t:∀s c,s<Q.N->c<Q.K->Q.to s c=YQ A (alB A) s ((reps (Cl (YQ A (alB A)) (cnt (alB A) A.N)) A.K).getD c 0)
 v:∀s,s<Q.N->Q.vd s=A.vd ((reps (alB A) A.N).getD s 0)
def CQ{s:Nat}(h:s<cnt E n):(reps E n)[s]?=some ((reps E n).getD s 0):=by
 have a:=h;rw[Zf,Zd a];rfl
def TX{s:Nat}(h:s<cnt E n):(reps E n).getD s 0<n/\least E ((reps E n).getD s 0)=(reps E n).getD s 0/\cnt E ((reps E n).getD s 0)=s:=reps_mem (CQ h)
def QD{a:Nat}(z:Eqv E n)(ha:a<n):(reps E n).getD (idx E a) 0=least E a:=by
 have h1:=least_le E a;have h2:=reps_get E n (least E a) Qo (least_idem z ha);rw[Zf];unfold idx;rw[h2];rfl
def QG(z:A.Good){s k:Nat}(hs:s<cnt (alB A) A.N)(H:k<A.K):
  (A.to ((reps (alB A) A.N).getD s 0) k=-1/\YQ A (alB A) s k=-1)\/∃m:Nat,m<A.N/\A.to ((reps (alB A) A.N).getD s 0) k=m/\YQ A (alB A) s k=(idx (alB A) m:Nat):=by
 have b:=z.rng _ _ (TX hs).1 H;unfold YQ gAt;by_cases h:A.to ((reps (alB A) A.N).getD s 0) k=-1
 .exact Or.inl ⟨h,dF h⟩
 let⟨m,a⟩:=ZA (show 0<=A.to ((reps (alB A) A.N).getD s 0) k by omega);refine Or.inr ⟨m,Qo,a,?_⟩;rw[dG h,a,ZE];rfl
def Hh(z:m<A.N):Al A (least (alB A) m:Nat) m:=(alB_iff A _ _).1 (least_like (alB_eqv A A.N) z)
def EW{a:Nat}(h:Al A a b)(z:k<A.K):Al A (A.to a k) (A.to b k):=λw c=>by
 have:=h (k::w) (Kd.cons z c)
 rwa [ext_cons,ext_cons]at this
def A1(z:m<A.N)(H:p<A.N)(h:idx (alB A) m=idx (alB A) p):Al A m p:=(alB_iff A m p).1 ((idx_eq (alB_eqv A A.N) z H).1 h)
def A3(J:A.Good){x k H:Nat}(Y:x<A.N)(Z:k<A.K)(z:H<A.K)(h:Cl (YQ A (alB A)) (cnt (alB A) A.N) k H=true):Al A (A.to x k) (A.to x H):=by
 have c:=alB_eqv A A.N;have hs:=idx_lt c Y;have e:=QD c Y;have h1:=(Vg _ _ _ _).1 h (idx (alB A) x) hs;have ha:=Hh Y;have h2:Al A (A.to (least (alB A) x) k) (A.to (least (alB A) x) H):=by
  rcases QG J hs Z with ⟨f,o⟩|⟨m,i,m2,n⟩
  .rcases QG J hs z with ⟨b,l⟩|⟨g,d,a,j⟩
   .rw[e]at f b;rw[f,b];exact Al.refl _ _
   omega
  rcases QG J hs z with ⟨b,l⟩|⟨g,d,a,j⟩
  .omega
  rw[e]at m2 a;rw[m2,a];exact A1 i d Qo
 exact((EW ha Z).symm.trans h2).trans (EW ha z)
def fk(A:Aut)(E:Nat->Nat->Bool)(c:Nat):Nat:=(reps (Cl (YQ A E) (cnt E A.N)) A.K).getD c 0
def BA(z:k<A.K):fk A (alB A) (idx (Cl (YQ A (alB A)) (cnt (alB A) A.N)) k)=least (Cl (YQ A (alB A)) (cnt (alB A) A.N)) k:=QD (Sp _ _ _) z
def DT(z:A.Good):∀(u:List Nat) (x:Int),Kd A u->x<A.N->ext A x u=ext A x (u.map λk=>fk A (alB A) (idx (Cl (YQ A (alB A)) (cnt (alB A) A.N)) k)):=by
 intro u
 induction u with
 |nil=>intro x _ _;rfl
 |cons k u ih=>
  intro x c h;let⟨a,c⟩:=c.tail;by_cases h0:x<0
  .rw[ext_none _ _ h0,ext_none _ _ h0]
  obtain⟨y,rfl⟩:=ZA (show 0<=x by omega);have e:y<A.N:=Qo
  have d:=Sp (YQ A (alB A)) (cnt (alB A) A.N) A.K;have g:=least_le (Cl (YQ A (alB A)) (cnt (alB A) A.N)) k;have b:fk A (alB A) (idx (Cl (YQ A (alB A)) (cnt (alB A) A.N)) k)<A.K:=by rw[BA a];omega
  have f:Cl (YQ A (alB A)) (cnt (alB A) A.N) k (fk A (alB A) (idx (Cl (YQ A (alB A)) (cnt (alB A) A.N)) k))=true:=by
   rw[BA a];exact d.symm _ _ Qo a (least_like d a)
  rw[dt,ext_cons,ext_cons,A3 z e a b f u c];exact ih _ c (z.rng _ _ e b).2
def Bt{A Q:Aut}(H:A.Good)(z:Mq A Q):∀(w:List Nat) (s:Nat),Kd Q w->s<Q.N->ext Q s w=ext A ((reps (alB A) A.N).getD s 0:Nat) (w.map (fk A (alB A))):=by
 intro w
 induction w with
 |nil=>intro s _ hs;rw[ext_nil,z.v s hs];exact(ext_nil _ _).symm
 |cons c w ih=>
  intro s a hs;let⟨j,a⟩:=a.tail;have f:s<cnt (alB A) A.N:=by rw[<-z.n];exact hs
  have b:c<cnt (Cl (YQ A (alB A)) (cnt (alB A) A.N)) A.K:=by rw[<-z.k];exact j
  have e:=(TX b).1;rw[dt,ext_cons,ext_cons,z.t s c hs j];rcases QG H f e with ⟨q,r⟩|⟨m,g,m2,p⟩
  .rw[r,ext_none _ _ Qo];have i:A.to ((reps (alB A) A.N).getD s 0) (fk A (alB A) c)=-1:=q;rw[i,ext_none _ _ Qo]
  have h:A.to ((reps (alB A) A.N).getD s 0) (fk A (alB A) c)=m:=m2;have o:idx (alB A) m<Q.N:=by rw[z.n];exact idx_lt (alB_eqv A A.N) g
  rw[p,h,ih _ a o,QD (alB_eqv A A.N) g];refine Hh g _ (λk e=>?_);obtain⟨d,l,rfl⟩:=eV.1 e;exact(TX (by rw[<-z.k];exact a d l)).1
end
section
open Go.RowKit
def YG:(prog.info? 83).map (·.size)=some 7:=Qk
def Yk:Array Value:=#[.int .i64 0,.slice none 0 0,.slice none 0 0,.slice none 0 0,.slice none 0 0,.slice none 0 0,.slice none 0 0]
def Vy(w:World):(zeroValue 83).run prog w=.ok (.agg #[I6 0,sN,sN,sN,sN,sN,sN]) w:=by
 have h:(prog.info? 83).bind (·.zero)=some (.agg #[I6 0,sN,sN,sN,sN,sN,sN]):=Qk
 cases hq:prog.info? 83 with
 |none=>rw[hq]at h;cases h
 |some i=>rw[hq]at h;simp at h;simp[zeroValue,typeInfo,hq,h]
variable {tmps:Array Value}{s:ByteArray}{fn:Func}{h0 h1 h2 h3:Int}{b base g i j n:Nat}{f:Nat->Int}{v:Value}{w w':World}
def Wt.block(h:Wt g f n w)(z:w'.heap[g]?=w.heap[g]?):Wt g f n w':=λk b=>by
 rw[eZ (w:=w) (a:=(a_ g k)) z,fd (w:=w) (a:=(a_ g k)) z];exact h k b
def MF{p:Tmp}{z:TypeId}(h:fn.results=#[.cell p z])(tmps:Array Value)(P:Program)(w:World):
  (results fn tmps).run P w=((asAddr (tmps.getD p undef)).run P w).andThen λa w₁=>(loadVar z a).run P w₁:=by
 simp only[results,h];simp[fE,Result.andThen]
def V0{p:Tmp}{z:TypeId}{P:Program}{ad:Addr}(h:fn.results=#[.cell p z])(J:tmps.getD p undef=.pointer (some ad))(H:(loadVar z ad).run P w=.ok v w):
  (results fn tmps).run P w=.ok v w:=by
 rw[MF h,J];simp[asAddr,H]
def fb(s:ByteArray)(i:Nat):Int:=((s.data.toList.getD i 0).toNat:Int)
def X9(s:ByteArray)(i:Nat):Nat->Int
 |0=>0
 |k+1=>X9 s i k*256+fb s (i+k)
def E8(s:ByteArray)(i:Nat):0<=fb s i/\fb s i<256:=by
 have:=(s.data.toList.getD i 0).toNat_lt;unfold fb;omega
def zk(s:ByteArray)(i:Nat)(h:i<s.size):(s[i].toNat:Int)=fb s i:=by
 unfold fb;rw[<-Qm s i h]
def Uh(s:ByteArray)(i:Nat):∀k,k<=2->0<=X9 s i k/\X9 s i k<65536/\(k<=1->X9 s i k<256)/\(k=0->X9 s i k=0)
 |0,_=>by simp[X9]
 |1,_=>by have:=E8 s (i+0);simp[X9]at *;omega
 |2,_=>by have:=E8 s (i+0);have:=E8 s (i+1);simp[X9]at *;omega
def MQ(w:World)(r:Option Nat):w.grownBy w r:=⟨rfl,rfl,rfl,Zg _,λ_ _ _=>rfl⟩
def Ut{a b c:World}{r:Option Nat}(h:a.grownBy b r)(k:b.grownBy c r):a.grownBy c r:=
 ⟨k.os.trans h.os,k.tape.trans h.tape,k.output.trans h.output,ZJ h.size k.size,λq d e=>(k.block q (ZH d h.size) e).trans (h.block q d e)⟩
structure OI (b:Nat) (s:ByteArray) (at_:Nat) (w:World):Prop where
 c0:w.cell? ⟨b,0,none⟩=some (.string s)
 c1:w.cell? ⟨b,1,none⟩=some (.int .i64 at_)
 f1:w.frozen? ⟨b,1,none⟩=false
def OI.lt(h:OI b s i w):b<w.heap.size:=Ze w _ h.c0
def OI.block(h:OI b s i w)(z:w'.heap[b]?=w.heap[b]?):OI b s i w':=
 ⟨by rw[eZ (w:=w) (a:=(a_ b 0)) z];exact h.c0,by rw[eZ (w:=w) (a:=(a_ b 1)) z];exact h.c1,by rw[fd (w:=w) (a:=(a_ b 1)) z];exact h.f1⟩
def OI.set(h:OI b s i w)(x:Int)(j:Nat)(z:x=j):OI b s j (w.setCell (a_ b 1) (I6 x)):=by
 subst z;let⟨c0,c1,a⟩:=h;refine⟨?_,?_,?_⟩<;>go_simp
def KK(b:Nat)(s:ByteArray)(i:Nat)(w:World)(hs:s.size<=281474976710656)(z:i<s.size)(h:OI b s i w):
  Cp 179 #[pT b] w λe w'=>e=.returned (I6 (fb s i))/\OI b s (i+1) w'/\w.grownBy w' (some b)/\w'.heap.size=w.heap.size:=by
 have c:=zk s i z;have a:=hyd c;have d:(i:Int)<(s.size:Int):=Qo
 have H:=hyd h;let⟨c0,c1,f1⟩:=h;go_enter func179,ntmps179;go_wp2
 go_quiet (fail)
 go_wp2
 go_quiet (fail)
 go_wp2;go_ret;refine⟨Y2 (by have h1:=s[i].toNat_lt;have h2:=a.o;unfold wrap64;omega),?_,?_,?_⟩
 .exact OI.set (w:=w.drewN _) ⟨H.o.c0,H.o.c1,H.o.f1⟩ _ (i+1) Qo
 .exact⟨rfl,rfl,rfl,by simp[World.setCell],λk _ f=>Zq (w.drewN _) (a_ b 1) _ k (λe=>f (by rw[e]))⟩
 simp[World.setCell]
def Vx(b:Nat)(s:ByteArray)(i k:Nat)(w:World)(hs:s.size<=281474976710656)(J:k<=2)(z:i+k<=s.size)(h:OI b s i w):
  Cp 142 #[pT b,I6 k] w λe w'=>e=.returned (I6 (X9 s i k))/\OI b s (i+k) w'/\w.grownBy w' (some b)/\w'.heap.size=w.heap.size:=by
 have H:=hyd h;go_enter func142,ntmps142;go_wp2
 go_loopw [5,8] (λx t w'=>∃j:Nat,j<=k/\t=I6 j/\x=I6 (X9 s i j)/\OI b s (i+j) w'/\w.grownBy w' (some b)/\w'.heap.size=w.heap.size) (λ_ t _=>k-(intOf t).toNat)
 .exact⟨0,Qo,rfl,rfl,H,MQ _ _,rfl⟩
 obtain⟨j,u,rfl,rfl,l,g,hz⟩:=hrel;by_cases q:j<k
 .have m:(j:Int)<k:=Qo
  have v:=Uh s i j Qo;have r:=E8 s (i+j);have n:Hid (X9 s i (j+1)=X9 s i j*256+fb s (i+j)):=rfl;have o:Hid (Cp 179 #[pT b] wr λe w'=>e=.returned (I6 (fb s (i+j)))/\OI b s (i+j+1) w'/\wr.grownBy w' (some b)/\w'.heap.size=wr.heap.size):=KK b s (i+j) wr hs Qo l;generalize X9 s i j=x at *;generalize fb s (i+j)=y at *;go_wp2_with fail;apply o.o.mono;rintro e w2 ⟨rfl,c,a,f⟩;go_wp2;go_roundw
  .exact⟨j+1,Qo,Qg,by rw[n.o],by rw[<-ZN];exact c,Ut g a,by rw[f,hz]⟩
  simp[intOf];omega
 have p:¬(j:Int)<k:=Qo
 have d:j=k:=Qo
 subst d;go_wp2;go_ret;exact⟨rfl,l,g,hz⟩
def RM(f:Nat->Int)(n:Nat):List Value:=(List.range n).map λi=>.int .i64 (f i)
def M8(f:Nat->Int)(n:Nat):RM f (n+1)=RM f n++[I6 (f n)]:=by simp[RM,ZT]
def Qw(f:Nat->Int)(n:Nat):(RM f n).length=n:=by simp[RM]
def YI.il(h:YI base v (RM f n) w):∃ad cap,v=.slice ad n cap/\IL ad f n w:=by
 rcases h with ⟨rfl,h⟩|⟨g,cap,rfl,h1,h2,h3,b,c⟩
 .have:n=0:=by rw[<-Qw f n,h];rfl
  subst this;exact⟨none,0,rfl,λi a=>Qo⟩
 refine⟨some (a_ g 0),cap,by rw[Qw],λi a=>⟨g,0,rfl,?_⟩⟩;rw[Zn];exact b i _ (by simp[RM,a])
def lst(s:ByteArray)(i k:Nat)(less:Int):Nat->Int:=λj=>X9 s (i+j*k) k-less
def U9(b:Nat)(s:ByteArray)(i cnt k:Nat)(less:Int)(w:World)(hs:s.size<=1000000)(hk:k<=2)(hl:0<=less/\less<=1)(hi:i+cnt*k<=s.size)(hc:cnt<=100000)(h:OI b s i w):
  Cp 143 #[pT b,I6 cnt,I6 k,I6 less] w λe w'=>∃v,e=.returned v/\YI w.heap.size v (RM (lst s i k less) cnt) w'/\OI b s (i+cnt*k) w'/\w.grownBy w' (some b):=by
 have H:=hyd h;have P:=h.lt;clear h;let⟨ti,C,E,F,G⟩:=WP;let⟨R,S⟩:=hl;go_enter func143,ntmps143;go_wp2
 go_loopw [9,12] (λv t w'=>∃j:Nat,j<=cnt/\t=I6 j/\YI w.heap.size v (RM (lst s i k less) j) w'/\OI b s (i+j*k) w'/\w.grownBy w' (some b)) (λ_ t _=>cnt-(intOf t).toNat)
 .exact⟨0,Qo,rfl,YI.nil _ _,by simpa using H.o,MQ _ _⟩
 obtain⟨j,Y,rfl,y,J,I⟩:=hrel;by_cases T:j<cnt
 .have K:(j:Int)<cnt:=Qo
  have l:i+j*k+k<=s.size:=by
   have:(j+1)*k<=cnt*k:=ZQ _ Qo;rw[dQ,Nat.one_mul]at this;omega
  have Z:=Uh s (i+j*k) k hk;have N:Hid (lst s i k less j=X9 s (i+j*k) k-less):=rfl;have O:Hid (Cp 142 #[pT b,I6 k] wr λe w'=>e=.returned (I6 (X9 s (i+j*k) k))/\OI b s (i+j*k+k) w'/\wr.grownBy w' (some b)/\w'.heap.size=wr.heap.size):=Vx b s (i+j*k) k wr Qo hk l J;have M:Hid (i+(j+1)*k=i+j*k+k):=by show _=_;rw[dQ,Nat.one_mul];omega
  generalize X9 s (i+j*k) k=x at *;go_wp2_with fail;apply O.o.mono;rintro e w2 ⟨rfl,A,m,D⟩;have L:wr.heap.size<=w2.heap.size:=Qo
  clear D;have f:YI w.heap.size u9 (RM (lst s i k less) j) w2:=y.block Qo (λq r X=>m.block q r (λe=>by have:=y.ge q X;have e':q=b:=Zh e;omega));have d:=Ut I m;have V:=d.size;have z:=f.alloc (.cells #[I6 (x-less)] 3);have B:OI b s (i+j*k+k) (w2.alloc (.cells #[I6 (x-less)] 3)):=A.block (Below.heap_alloc w2 _ b Qo);have c:=Ut d (World.grownBy_alloc w2 (.cells #[I6 (x-less)] 3) (some b));have p:∀q u,[Value.int .i64 (x-less)][q]?=some u->(w2.alloc (.cells #[I6 (x-less)] 3)).cell? (a_ w2.heap.size q)=some u:=λq u W=>by
   rw[Zm];simpa using W
  have o:(RM (lst s i k less) j).length+1<=100000000:=by rw[Qw];omega
  go_wp2_with (first|(at_builtin;apply Pf Qr _ _ 23 3 Qr ti (I6 0) 8 u_e C E F G rfl Qo w.heap.size u9 (RM (lst s i k less) j) Qr z w2.heap.size 1 [I6 (x-less)] Qr rfl p (by simp[Value.oneCell']) o Qp Qo;intro g cap w3 n a));rw[<-N.o,<-M8]at n;go_roundw
  .exact⟨j+1,Qo,Qg,n,by rw[M.o];exact B.block (a.block b Qp (λe=>by have:=f.ge b e.symm;omega)),⟨a.os.trans c.os,a.tape.trans c.tape,a.output.trans c.output,ZJ c.size a.size,λq r U=>(a.block q (ZH r c.size) (λe=>by have:=f.ge q e.symm;omega)).trans (c.block q r U)⟩⟩
  simp[intOf];omega
 have Q:¬(j:Int)<cnt:=Qo
 have l:j=cnt:=Qo
 subst l;go_wp2;go_ret;exact⟨_,rfl,y,J,I⟩
structure RH (b:Nat) (s:ByteArray) (i:Nat) (h0 h1 h2 h3:Int) (w:World):Prop where
 r:OI (b+1) s i w
 c0:w.cell? ⟨b+1+1,0,none⟩=some (.int .i64 h0)
 c1:w.cell? ⟨b+1+1,1,none⟩=some (.int .i64 h1)
 c2:w.cell? ⟨b+1+1,2,none⟩=some (.int .i64 h2)
 c3:w.cell? ⟨b+1+1,3,none⟩=some (.int .i64 h3)
 f0:w.frozen? ⟨b+1+1,0,none⟩=false
 f1:w.frozen? ⟨b+1+1,1,none⟩=false
 f2:w.frozen? ⟨b+1+1,2,none⟩=false
 f3:w.frozen? ⟨b+1+1,3,none⟩=false
 z0:w.cell? ⟨b,0,none⟩=some (.int .i64 0)
 z1:w.cell? ⟨b,1,none⟩=some (.int .i64 0)
 z2:w.cell? ⟨b,2,none⟩=some (.int .i64 0)
 z3:w.cell? ⟨b,3,none⟩=some (.int .i64 0)
 y0:w.frozen? ⟨b,0,none⟩=false
 y1:w.frozen? ⟨b,1,none⟩=false
 y2:w.frozen? ⟨b,2,none⟩=false
 y3:w.frozen? ⟨b,3,none⟩=false
def RH.take(h:RH b s i h0 h1 h2 h3 w)(H:OI (b+1) s j w')(z:w.grownBy w' (some (b+1))):RH b s j h0 h1 h2 h3 w':=by
 have e:b+1+1<w.heap.size:=Ze w _ h.c0;have e2:∀k,w'.cell? (a_ (b+1+1) k)=w.cell? (a_ (b+1+1) k):=λk=>eZ (w:=w) (a:=(a_ (b+1+1) k)) (z.block _ e Qs)
 have d:∀k,w'.frozen? (a_ (b+1+1) k)=w.frozen? (a_ (b+1+1) k):=λk=>fd (w:=w) (a:=(a_ (b+1+1) k)) (z.block _ e Qs)
 have e0:∀k,w'.cell? (a_ b k)=w.cell? (a_ b k):=λk=>eZ (w:=w) (a:=(a_ b k)) (z.block b Qo Qs)
 have c:∀k,w'.frozen? (a_ b k)=w.frozen? (a_ b k):=λk=>fd (w:=w) (a:=(a_ b k)) (z.block b Qo Qs)
 exact⟨H,by rw[e2];exact h.c0,by rw[e2];exact h.c1,by rw[e2];exact h.c2,by rw[e2];exact h.c3,by rw[d];exact h.f0,by rw[d];exact h.f1,by rw[d];exact h.f2,by rw[d];exact h.f3,
  by rw[e0];exact h.z0,by rw[e0];exact h.z1,by rw[e0];exact h.z2,by rw[e0];exact h.z3,by rw[c];exact h.y0,by rw[c];exact h.y1,by rw[c];exact h.y2,by rw[c];exact h.y3⟩
def RH.set(h:RH b s i h0 h1 h2 h3 w)(x:Int):
  RH b s i x h1 h2 h3 (w.setCell ⟨b+1+1,0,none⟩ (.int .i64 x))/\RH b s i h0 x h2 h3 (w.setCell ⟨b+1+1,1,none⟩ (.int .i64 x))/\RH b s i h0 h1 x h3 (w.setCell ⟨b+1+1,2,none⟩ (.int .i64 x))/\RH b s i h0 h1 h2 x (w.setCell ⟨b+1+1,3,none⟩ (.int .i64 x)):=by
 obtain⟨⟨f,g,j⟩,c0,c1,c2,c3,a,c,d,e,o,p,q,r,k,l,m,n⟩:=h;refine⟨⟨⟨?_,?_,?_⟩,?_,?_,?_,?_,?_,?_,?_,?_,?_,?_,?_,?_,?_,?_,?_,?_⟩,⟨⟨?_,?_,?_⟩,?_,?_,?_,?_,?_,?_,?_,?_,?_,?_,?_,?_,?_,?_,?_,?_⟩,⟨⟨?_,?_,?_⟩,?_,?_,?_,?_,?_,?_,?_,?_,?_,?_,?_,?_,?_,?_,?_,?_⟩,⟨⟨?_,?_,?_⟩,?_,?_,?_,?_,?_,?_,?_,?_,?_,?_,?_,?_,?_,?_,?_,?_⟩⟩<;>go_simp
def BK(s:ByteArray):Value:=.agg #[.int .i64 (X9 s 4 1),.int .i64 (X9 s 6 1),.int .i64 (X9 s 7 2),.int .i64 (X9 s 9 1)]
def D2:(prog.info? 171).map (·.size)=some 4:=Qk
def Kn(s:ByteArray)(w:World)(hs:s.size<=281474976710656)(h10:10<=s.size):
  Calls prog 85 #[.string s] w λe w'=>e=.returned (BK s)/\Below w.heap.size w w':=by
 unfold BK;obtain⟨W,B⟩:=nam (((w.alloc (.cells #[.int .i64 0,.int .i64 0,.int .i64 0,.int .i64 0] 171)).alloc (.cells #[.string s,.int .i64 4] 220)).alloc (.cells #[.int .i64 0,.int .i64 0,.int .i64 0,.int .i64 0] 171));have l:RH w.heap.size s 4 0 0 0 0 W:=by
  rw[B];refine⟨⟨?_,?_,?_⟩,?_,?_,?_,?_,?_,?_,?_,?_,?_,?_,?_,?_,?_,?_,?_,?_⟩<;>go_simp
 have i:Below w.heap.size w W:=by
  rw[B];exact(((Zk _ _).alloc (Zg _) _).alloc Qs _).alloc Qp _
 go_enter func85,ntmps85;go_wp2_with fail;rw[<-B];clear B;generalize X:w.heap.size=b at *;refine ft (Vx (b+1) s 4 1 W hs Qo Qo l.r) ?_;rintro e w1 ⟨rfl,n,c,F⟩;have y:=l.take n c;have L:Below b w w1:=i.grown c (by have:=i.size;omega) (λk a=>by cases a;omega);have S1:=(y.set (X9 s 4 1)).1;have R:Below b w (w1.setCell ⟨b+1+1,0,none⟩ (.int .i64 (X9 s 4 1))):=L.setCell (p:=⟨b+1+1,0,none⟩) Qp _;have q1:=y.c0;have Y:=y.f0;go_wp2_with fail;clear q1 Y n c F y L;generalize w1.setCell ⟨b+1+1,0,none⟩ (.int .i64 (X9 s 4 1))=W1 at *;refine ft (Vx (b+1) s 5 1 W1 hs Qo Qo S1.r) ?_;rintro e w2 ⟨rfl,o,d,G⟩;have T:=S1.take o d;have M:Below b w w2:=R.grown d (by have:=R.size;omega) (λk a=>by cases a;omega);go_wp2_with fail;clear o d G;refine ft (Vx (b+1) s 6 1 w2 hs Qo Qo T.r) ?_;rintro e w3 ⟨rfl,q,f,H⟩;have z:=T.take q f;have N:Below b w w3:=M.grown f (by have:=M.size;omega) (λk a=>by cases a;omega);have U:=(z.set (X9 s 6 1)).2.1;have S:Below b w (w3.setCell ⟨b+1+1,1,none⟩ (.int .i64 (X9 s 6 1))):=N.setCell (p:=⟨b+1+1,1,none⟩) Qp _;have q3:=z.c1;have Z:=z.f1;go_wp2_with fail;clear q3 Z q f H z N;generalize w3.setCell ⟨b+1+1,1,none⟩ (.int .i64 (X9 s 6 1))=W3 at *;refine ft (Vx (b+1) s 7 2 W3 hs Qo Qo U.r) ?_;rintro e K ⟨rfl,t,g,I⟩;have A:=U.take t g;have O:Below b w K:=S.grown g (by have:=S.size;omega) (λk a=>by cases a;omega);have E:=(A.set (X9 s 7 2)).2.2.1;have C:Below b w (K.setCell ⟨b+1+1,2,none⟩ (.int .i64 (X9 s 7 2))):=O.setCell (p:=⟨b+1+1,2,none⟩) Qp _;have q4:=A.c2;have p4:=A.f2;go_wp2_with fail;clear q4 p4 t g I A O;generalize K.setCell ⟨b+1+1,2,none⟩ (.int .i64 (X9 s 7 2))=W4 at *;refine ft (Vx (b+1) s 9 1 W4 hs Qo Qo E.r) ?_;rintro e w5 ⟨rfl,u,h,J⟩;have V:=E.take u h;have Q:Below b w w5:=C.grown h (by have:=C.size;omega) (λk a=>by cases a;omega);have D:=hyd Q;obtain⟨_,c0,c1,c2,c3,f0,f1,f2,f3,z0,z1,z2,z3,y0,y1,y2,y3⟩:=V;clear u h J E C Q;go_wp2_with fail;have m:(loadVar 171 ⟨b,0,none⟩).run prog (((((w5.setCell ⟨b+1+1,3,none⟩ (.int .i64 (X9 s 9 1))).setCell ⟨b,0,none⟩ (.int .i64 (X9 s 4 1))).setCell ⟨b,1,none⟩ (.int .i64 (X9 s 6 1))).setCell ⟨b,2,none⟩ (.int .i64 (X9 s 7 2))).setCell ⟨b,3,none⟩ (.int .i64 (X9 s 9 1)))=.ok (.agg #[.int .i64 (X9 s 4 1),.int .i64 (X9 s 6 1),.int .i64 (X9 s 7 2),.int .i64 (X9 s 9 1)]) (((((w5.setCell ⟨b+1+1,3,none⟩ (.int .i64 (X9 s 9 1))).setCell ⟨b,0,none⟩ (.int .i64 (X9 s 4 1))).setCell ⟨b,1,none⟩ (.int .i64 (X9 s 6 1))).setCell ⟨b,2,none⟩ (.int .i64 (X9 s 7 2))).setCell ⟨b,3,none⟩ (.int .i64 (X9 s 9 1))):=by
  refine ZF (P:=prog) _ b 0 171 [.int .i64 (X9 s 4 1),.int .i64 (X9 s 6 1),.int .i64 (X9 s 7 2),.int .i64 (X9 s 9 1)] _ (λj v x=>?_) underlying171 rfl D2;rw[Zn];rcases j with _|_|_|_|j
  .cases x;go_simp
  .cases x;go_simp
  .cases x;go_simp
  .cases x;go_simp
  cases x
 refine Zr (v:=.agg #[.int .i64 (X9 s 4 1),.int .i64 (X9 s 6 1),.int .i64 (X9 s 7 2),.int .i64 (X9 s 9 1)]) (V0 results85 rfl m) rfl ⟨rfl,?_⟩;rw[X];exact((((D.o.setCell (p:=⟨b+1+1,3,none⟩) Qp _).setCell (p:=⟨b,0,none⟩) (Zg _) _).setCell (p:=⟨b,1,none⟩) (Zg _) _).setCell (p:=⟨b,2,none⟩) (Zg _) _).setCell (p:=⟨b,3,none⟩) (Zg _) _
def Vh(r st ce wd:Int):Prop:=(1<=r/\r<=8)/\(1<=st/\st<=96)/\ce<=24576/\(wd=1\/wd=2)
def DH(r st H z:Int)(w:World):
  Cp 86 #[.agg #[I6 r,I6 st,I6 H,I6 z]] w (Xz (Vh r st H z) w):=by
 have b:=X5 w (.cells #[I6 r,I6 st,I6 H,I6 z] 171);by_cases h1:r<1
 .have a:Hid (¬Vh r st H z):=λh=>by have:=h.1;omega
  go_enter func86,ntmps86;go_wp2;go_ret;exact Xz.f a b
 by_cases h2:8<r
 .have a:Hid (¬Vh r st H z):=λh=>by have:=h.1;omega
  go_enter func86,ntmps86;go_wp2;go_ret;exact Xz.f a b
 by_cases h3:st<1
 .have a:Hid (¬Vh r st H z):=λh=>by have:=h.2.1;omega
  go_enter func86,ntmps86;go_wp2;go_ret;exact Xz.f a b
 by_cases i:96<st
 .have a:Hid (¬Vh r st H z):=λh=>by have:=h.2.1;omega
  go_enter func86,ntmps86;go_wp2;go_ret;exact Xz.f a b
 by_cases d:H<=24576
 case neg=>
  have a:Hid (¬Vh r st H z):=λh=>d h.2.2.1
  go_enter func86,ntmps86;go_wp2;go_ret;exact Xz.f a b
 by_cases e:z=1
 .have c:Hid (Vh r st H z):=⟨Qo,Qo,d,Or.inl e⟩;subst e;go_enter func86,ntmps86;go_wp2;go_ret;exact Xz.t c b
 have j:(z==1)=false:=by simpa using e
 by_cases g:z=2
 .have c:Hid (Vh r st H z):=⟨Qo,Qo,d,Or.inr g⟩;subst g;go_enter func86,ntmps86;go_wp2;go_ret;exact Xz.t c b
 have a:Hid (¬Vh r st H z):=λh=>by have:=h.2.2.2;omega
 have k:(z==2)=false:=by simpa using g
 go_enter func86,ntmps86;go_wp2;go_ret;exact Xz.f a b
def CX(r:Int)(st H z:Nat)(w:World)(h1:st<=96)(h2:H<=24576)(h3:z=1\/z=2):
  Cp 87 #[.agg #[I6 r,I6 st,I6 H,I6 z]] w λe w'=>e=.returned (I6 ((266+st*(z+2)+H*2+4:Nat):Int))/\Bl w w':=by
 have a:=X5 w (.cells #[I6 r,I6 st,I6 H,I6 z] 171);rcases h3 with rfl|rfl
 .go_enter func87,ntmps87;go_wp2;go_ret;exact⟨Y2 Qs,a⟩
 go_enter func87,ntmps87;go_wp2;go_ret;exact⟨Y2 Qs,a⟩
def V7(s:ByteArray):Bool:=decide (4<=s.size)&&((s.extract 0 4).toList==[77,85,78,49])
def IC(s:ByteArray)(w:World)(hs:s.size<=maxLen):
  Cp 84 #[.string s] w λe w'=>e=.returned (.bool (V7 s))/\w'=w:=by
 unfold maxLen at hs;by_cases c:4<=s.size
 .have b:(4:Int)<=(s.size:Int):=Qo
  have a:Hid (V7 s=((s.extract 0 4).toList==[77,85,78,49])):=by show _=_;rw[V7,decide_eq_true c];rfl
  go_enter func84,ntmps84;go_wp2;go_ret;exact⟨YM a.o.symm,rfl⟩
 have b:¬(4:Int)<=(s.size:Int):=Qo
 have a:Hid (V7 s=false):=by show _=_;rw[V7,decide_eq_false c];rfl
 go_enter func84,ntmps84;go_wp2;go_ret;exact⟨YM a.o.symm,rfl⟩
def L1(s:ByteArray):Bool:=(s.extract (s.size-4) s.size).toList==(⟨(Uc (s.extract 0 (s.size-4)).data.toList).toArray⟩:ByteArray).toList
def FU(s:ByteArray)(w:World)(H:4<=s.size)(hs:s.size<=1000000):
  Cp 88 #[.string s] w λe w'=>e=.returned (.bool (L1 s))/\Bl w w':=by
 obtain⟨n,b⟩:∃n,s.size=n+4:=⟨s.size-4,Qo⟩;have f:(s.size:Int)-4=(n:Int):=Qo
 have g:¬(n:Int)<0:=Qo
 have h:(n:Int)<=(s.size:Int):=Qo
 obtain⟨z,hz⟩:∃z:ByteArray,z=⟨(Uc (s.extract 0 n).data.toList).toArray⟩:=⟨_,rfl⟩;have HS:Hid (∀w',w'.heap=w.heap->Cp 83 #[.string (s.extract 0 n)] w' λe w''=>e=.returned (.string z)/\Bl w' w''):=λw' _=>by rw[hz];exact Jk (s.extract 0 n) w' Qp
 have d:=hyd hz;have c:=hyd b;clear b hz;go_enter func88,ntmps88;go_wp2_with fail
 go_region_with ((go_at_call 83;refine ft (HS _ rfl) ?_;rintro e w2 ⟨rfl,a⟩))
 go_wp2_with fail;go_ret;refine⟨?_,(show Bl w w2 from (Zk _ _).drew.trans a)⟩;show Ending.returned (.bool ((s.extract n s.size).toList==z.toList))=_;rw[L1,show s.size-4=n by have:=c.o;omega,<-d.o]
end
