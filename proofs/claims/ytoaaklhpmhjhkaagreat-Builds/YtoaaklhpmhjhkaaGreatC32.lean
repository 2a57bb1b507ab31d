import Derived.Test.YtoaaklhpmhjhkaaGreatC31
set_option maxRecDepth 100000
set_option maxHeartbeats 4000000
set_option linter.all false
namespace Go.Proofs.YtoaaklhpmhjhkaaGreat
open Go.RowKit
open Bm
def clsL (E:Nat->Nat->Bool) (kf:Nat->Int) (i:Nat):List Int:=(List.range i).map λb=>idxI E (kf b).toNat
theorem y0P (E:Nat->Nat->Bool) (kf:Nat->Int) (i:Nat):clsL E kf (i+1)=clsL E kf i++[idxI E (kf i).toNat]:=by simp[clsL,List.range_succ]
theorem q3z (E:Nat->Nat->Bool) (kf:Nat->Int) (i:Nat):(clsL E kf i).length=i:=by simp[clsL]
variable {a : Act}{ops : Array Oper}{Q : Exit → Act → World → Prop}{l : List (Nat → Bool)}{P b base base' fuel gb k n nb : Nat}{F : Nat → Bool}{o : Oper}{ad : Option Addr}{md : Region.Mode}{v vb vh vl vt : Value}{w w' : World}
theorem q2P {P:Program}{S:World->Prop} (i k:Nat) {oi ok:Oper}{vi vk:Value}{listed L:Array Bool}{a A:Act}{w w':World}
  (hi:ops[i]?=some oi) (hk:ops[k]?=some ok) (gi:oi.guard=none) (gk:ok.guard=none) (r0:Region.ready md ops listed=[i,k]) (r1:Region.ready md ops (listed.setIfInBounds i true)=[k]) (r2:Region.ready md ops (listed.setIfInBounds k true)=[i])
  (xi:(execOp a.eval oi).run P w=.ok (.value vi) w) (yi:(execOp (a.put ok.dst vk).eval oi).run P w'=.ok (.value vi) w') (xk:(execOp a.eval ok).run P w=.ok (.value vk) w') (yk:(execOp (a.put oi.dst vi).eval ok).run P w=.ok (.value vk) w')
  (l1:(listed.setIfInBounds i true).setIfInBounds k true=L) (l2:(listed.setIfInBounds k true).setIfInBounds i true=L) (f1:(a.put oi.dst vi).put ok.dst vk=A) (f2:(a.put ok.dst vk).put oi.dst vi=A) (hS:S w) (hS':S w') (fin:wpAnyH P md ops Q S fuel L A w'):wpAnyH P md ops Q S (fuel+2) listed a w:=by
 refine wpAnyH_all r0 (by simp) (λq b=>?_);rcases List.mem_cons.1 b with rfl|b
 ·refine q1f hi (by simp[Region.wanted,gi]) xi ⟨hS,wpAnyH_all r1 (by simp) (λq b=>?_)⟩;rw[List.mem_singleton.1 b];refine q1f hk (by simp[Region.wanted,gk]) yk ⟨hS',?_⟩;rw[l1,f1];exact fin
 rw[List.mem_singleton.1 b];refine q1f hk (by simp[Region.wanted,gk]) xk ⟨hS',wpAnyH_all r2 (by simp) (λq b=>?_)⟩;rw[List.mem_singleton.1 b];refine q1f hi (by simp[Region.wanted,gi]) yi ⟨hS',?_⟩;rw[l2,f2];exact fin
theorem IL.heap {f:Nat->Int} (h:IL ad f n w) (hk:∀k,k<w.heap.size->(∃o,ad=some ⟨k,o,none⟩)->w'.heap[k]?=w.heap[k]?):IL ad f n w':=λi d=>by
 obtain⟨b,off,e,c⟩:=h i d;refine⟨b,off,e,?_⟩;rw[World.cell?_of_block (w:=w) (a:=⟨b,off+i,none⟩) (hk b (World.block_lt_of_cell? w _ c) ⟨off,e⟩)];exact c
theorem q2k {K:Act->World->Prop} (s x:Operand)
  (ho:o.op=.call { callee:=.builtin .append,args:=#[s,x],argTypes:=#[23,23] }) (base:Nat)
  (v:Value) (l:List Int) (hs:a.eval s=v) (hown:OwnL base v l w) (hn:l.length<=1000000)
  (B:Nat) (t:Int) (hx:a.eval x=.slice (some ⟨B,0,none⟩) 1 1) (hnews:w.cell? ⟨B,0,none⟩=some (.int .i64 t)) (hbase:base<=w.heap.size) (H:Nat) (hH:w.heap.size=H)
  (h:∀g cap w',OwnL base (.slice (some ⟨g,0,none⟩) (l.length+1) cap) (l++[t]) w'->w.grownBy w' v.ownBlock->(v.ownBlock=some g\/g=H)->g<w'.heap.size->K (a.put o.dst (.slice (some ⟨g,0,none⟩) (l.length+1) cap)) w'):Oper.wp Tryz.prog o a w K Q:=by
 obtain⟨i,p,c,d,e⟩:=eInfoInt;refine wp_append_lies w s x 23 ho base 3 i (.int .i64 0) 1 8 Tryz.underlying23 p c d e rfl (by omega) v l.length (ints l) hs hown ⟨B,0,none⟩ 1 1 [.int .i64 t] hx rfl (λj u b=>?_) (by simp[Value.oneCell']) (by omega) (by unfold maxLen;omega) (by omega) hbase H hH ?_
 ·rw[Addr.add_lit,Nat.zero_add];cases j with
  |zero=>simp at b;subst b;exact hnews
  |succ j=>simp at b
 intro g cap w' f k m n;refine h g cap w' ?_ k m n;unfold OwnL;rw[ints_append,List.length_append];exact f
def labL (A:Aut) (E:Nat->Nat->Bool) (i:Nat):List Int:=(List.range i).map λs=>A.vd ((reps E A.N).getD s 0)
theorem y0z (A:Aut) (E:Nat->Nat->Bool) (i:Nat):labL A E (i+1)=labL A E i++[A.vd ((reps E A.N).getD i 0)]:=by simp[labL,List.range_succ]
theorem q3o (A:Aut) (E:Nat->Nat->Bool) (i:Nat):(labL A E i).length=i:=by simp[labL]
def nxtR (rw:Nat->Nat->Int) (fs:List Nat) (s c:Nat):List Int:=(List.range c).map λj=>rw s (fs.getD j 0)
def nxtL (rw:Nat->Nat->Int) (fs:List Nat) (i:Nat):List Int:=(List.range i).flatMap λs=>nxtR rw fs s fs.length
theorem q7i (rw:Nat->Nat->Int) (fs:List Nat) (s c:Nat):nxtR rw fs s (c+1)=nxtR rw fs s c++[rw s (fs.getD c 0)]:=by simp[nxtR,List.range_succ]
theorem q4C (rw:Nat->Nat->Int) (fs:List Nat) (i:Nat):nxtL rw fs (i+1)=nxtL rw fs i++nxtR rw fs i fs.length:=by simp[nxtL,List.range_succ]
theorem q6g (rw:Nat->Nat->Int) (fs:List Nat) (s c:Nat):(nxtR rw fs s c).length=c:=by simp[nxtR]
theorem q3k (rw:Nat->Nat->Int) (fs:List Nat) (i:Nat):(nxtL rw fs i).length=i*fs.length:=by
 induction i with
 |zero=>simp[nxtL]
 |succ i ih=>rw[q4C,List.length_append,ih,q6g,Nat.succ_mul]
def MachPost (A:Aut) (E:Nat->Nat->Bool) (kf:Nat->Int) (w:World) (en:Ending) (w':World):Prop:=
 ∃vc vl vn,en=.returned (.agg #[.int .i64 0,vc,vl,vn])/\OwnL w.heap.size vc (clsL (Cl (rwOf A E) (cnt E A.N)) kf 256) w'/\OwnL w.heap.size vl (labL A E (cnt E A.N)) w'/\OwnL w.heap.size vn (nxtL (rwOf A E) (reps (Cl (rwOf A E) (cnt E A.N)) A.K) (cnt E A.N)) w' /\
  (∀k,vc.ownBlock=some k->vl.ownBlock≠some k)/\(∀k,vc.ownBlock=some k->vn.ownBlock≠some k)/\(∀k,vl.ownBlock=some k->vn.ownBlock≠some k)/\Below w.heap.size w w'
theorem q6n (gb:Nat) (A:Aut) (ta:Option Addr) (tc:Nat) (sa:Option Addr) (sc:Nat) (rl:Nat->Nat->Bool) (kb:Nat) (kf:Nat->Int) (E:Nat->Nat->Bool) (b1 b2:Nat) (vo vf:Value) (w:World) (hA:Aut.Small A) (hr:∀s k,s<A.N->k<A.K->-1<=A.to s k/\A.to s k<A.N) (hG:Gr gb A ta tc (.slice sa A.N sc) w) (hS:SR sa rl A.N w) (hv:∀i,i<A.N->A.vd i=vdF (rl i) 8 0) (hkb:w.rangeAt kb 0 (kl kf)) (hkf:∀b,b<256->0<=kf b/\kf b<A.K) (ho:OwnL b1 vo (ofL E A.N) w) (hf:OwnL b2 vf (firstL E A.N) w):
  Calls Tryz.prog 68 #[.pointer (some ⟨gb,0,none⟩),.pointer (some ⟨kb,0,none⟩),.agg #[vo,vf]] w (MachPost A E kf w):=by
 have hz:=q1i;have aT:=hA.k;have b5:=cnt_le E A.N;have hn:=hA.n;have h1:(w.alloc (.cells #[vo,vf] 150)).heap.size=w.heap.size+1:=by simp
 obtain⟨Wa,ag⟩:=nam (w.alloc (.cells #[vo,vf] 150));obtain⟨Wb,ah⟩:=nam (Wa.alloc (.cells #[.int .i64 0,.slice none 0 0,.slice none 0 0,.slice none 0 0] 25));obtain⟨W1,af⟩:=nam (Wb.alloc (.cells #[.int .i64 0,.slice none 0 0,.slice none 0 0,.slice none 0 0] 25));have za:Wa.heap.size=w.heap.size+1:=by rw[ag];simp
 have zb:Wb.heap.size=w.heap.size+2:=by rw[ah];simp[za]
 have z1:W1.heap.size=w.heap.size+3:=by rw[af];simp[zb]
 have Ta:TC w.heap.size [vo,vf] Wa:=by rw[ag];exact TC.boxed w [vo,vf] _
 have Tb:TC (w.heap.size+1) [.int .i64 0,.slice none 0 0,.slice none 0 0,.slice none 0 0] Wb:=by rw[ah,<-za];exact TC.boxed Wa [.int .i64 0,.slice none 0 0,.slice none 0 0,.slice none 0 0] _
 have Tc:TC (w.heap.size+2) [.int .i64 0,.slice none 0 0,.slice none 0 0,.slice none 0 0] W1:=by rw[af,<-zb];exact TC.boxed Wb [.int .i64 0,.slice none 0 0,.slice none 0 0,.slice none 0 0] _
 have xa:Below w.heap.size w Wa:=by rw[ag];exact box_bel _ _
 have xb:Below Wa.heap.size Wa Wb:=by rw[ah];exact box_bel _ _
 have xc:Below Wb.heap.size Wb W1:=by rw[af];exact box_bel _ _
 have B1:Below w.heap.size w W1:=(xa.trans (xb.mono (by omega))).trans (xc.mono (by omega));have U1:=(Ta.block (xb.block _ (by omega))).block (xc.block _ (by omega));have U2:=Tb.block (xc.block _ (by omega));have a7:=q9l gb A ta tc (.slice sa A.N sc) E b1 b2 vo vf W1 hA hr (hG.below B1) (ho.below B1) (hf.below B1);have Y:Hid (Calls Tryz.prog 132 #[.pointer (some ⟨gb,0,none⟩),.agg #[vo,vf]] W1 λe w'=>∃v,e=.returned v/\OwnL W1.heap.size v (rowsTo A.K (rwOf A E) (cnt E A.N*A.K)) w'/\Below W1.heap.size W1 w'):=a7;have bb:Hid (W1=((w.alloc (.cells #[vo,vf] 150)).alloc (.cells #[.int .i64 0,.slice none 0 0,.slice none 0 0,.slice none 0 0] 25)).alloc (.cells #[.int .i64 0,.slice none 0 0,.slice none 0 0,.slice none 0 0] 25)):=by show _=_;rw[af,ah,ag]
 have HT:=hyd5 U1 U2 Tc B1 z1;have HG:Hid (∀w',Below w.heap.size w w'->Gr gb A ta tc (.slice sa A.N sc) w'):=λw' h=>hG.below h
 have bM:Hid (∀w',Below w.heap.size w w'->SR sa rl A.N w'):=λw' h=>hS.below h
 have bK:Hid (∀w',Below w.heap.size w w'->w'.rangeAt kb 0 (kl kf)):=λw' h j v hv=>by
  have:=hkb j v hv;rw[h.cell (p:=⟨kb,0+j,none⟩) (World.block_lt_of_cell? w _ this)];exact this
 have bf:=hyd hkf;have HF:Hid (∀w',Below w.heap.size w w'->OwnL b2 vf (firstL E A.N) w'):=λw' h=>hf.below h
 have Hv:=hyd hv;have b6:=World.block_lt_of_cell? w _ hG.c0;obtain⟨l,aL⟩:=nam (cnt E A.N);have al:=hyd aL;rw[<-aL]at Y b5;clear hr hG hS hkb hkf ho hf hv h1 ag ah af za zb z1 Ta Tb Tc xa xb xc B1 U1 U2 a7 aL;go_enter Tryz.func68,Tryz.ntmps68;go_wp2_with fail;rw[<-bb.out];refine Y.out.mono ?_;rintro en w2 ⟨v,rfl,aN,V⟩;obtain⟨ra,rc,ev,ax⟩:=aN.il;rw[q5j]at ev ax;subst ev;obtain⟨t1,t2,t3,t4,t5⟩:=HT.out;have B2:Below w.heap.size w w2:=t4.trans (V.mono (by omega));have c0:=(HG.out w2 B2).c0;have aD:=hyd (q6E ra rc A.K l (rwOf A E) w2 aT (by omega) ax);have a6:Hid (∀k o,ra=some ⟨k,o,none⟩->w.heap.size+3<=k):=λk o e=>by
  have:=(aN.blk k (by rw[e];rfl)).1;omega
 have a0:=hyd ax;have a9:Hid (TC w.heap.size [vo,vf] w2/\TC (w.heap.size+1) [.int .i64 0,.slice none 0 0,.slice none 0 0,.slice none 0 0] w2/\TC (w.heap.size+2) [.int .i64 0,.slice none 0 0,.slice none 0 0,.slice none 0 0] w2/\Below w.heap.size w w2/\w.heap.size+3<=w2.heap.size):=⟨t1.block (V.block _ (by omega)),t2.block (V.block _ (by omega)),t3.block (V.block _ (by omega)),B2,by have:=V.size;omega⟩;obtain⟨M,hM⟩:=nam (l*A.K);have HM:=hyd hM;rw[<-hM]at aD;clear t1 t2 t3 t4 t5 B2 ax aN V HT Y bb;rw[<-hM];clear hM;go_wp2_with fail;refine aD.out.mono ?_;rintro en B ⟨cC,cB,rfl,C,aJ,Q⟩;obtain⟨oa,oc,eo,r⟩:=C.il;rw[q1h]at eo r;obtain⟨fa,fc,ef,m⟩:=aJ.il;rw[q0u]at ef m;subst eo;subst ef;obtain⟨t1,t2,t3,t4,t5⟩:=a9.out;obtain⟨CN,aI⟩:=nam (cnt (Cl (rwOf A E) l) A.K);have bJ:=hyd aI;have ci:CN<=256:=by have:=cnt_le (Cl (rwOf A E) l) A.K;omega
 rw[<-aI]at m ⊢;have cb:=Q.size;have B3:Below w.heap.size w B:=t4.trans (Q.mono (by omega));obtain⟨mb,av⟩:=nam (w.heap.size+2);have aE:=hyd av;have I:mb<B.heap.size:=by omega
 have M0:MS mb B (.slice none 0 0) (.slice none 0 0) (.slice none 0 0) [] [] [] B:=by
  rw[av];exact⟨t3.block (Q.block _ (by omega)),OwnL.nil _ _,OwnL.nil _ _,OwnL.nil _ _,λk hk=>(by cases hk),λk hk=>(by cases hk),λk hk=>(by cases hk),Below.refl _ _,λ_ _ _=>rfl⟩
 have u1:=t1.block (Q.block _ (by omega));have u2:=t2.block (Q.block _ (by omega));have t:=a0.out.below Q;have aW:=bK.out B B3;have D:Hid (∀(vc vl vn:Value) (lc ll ln:List Int) (w':World),MS mb B vc vl vn lc ll ln w'->Below w.heap.size w w'/\TC w.heap.size [vo,vf] w'/\TC (w.heap.size+1) [.int .i64 0,.slice none 0 0,.slice none 0 0,.slice none 0 0] w'/\IL oa (λi=>(ofL (Cl (rwOf A E) l) A.K).getD i 0) A.K w'/\IL fa (λi=>(firstL (Cl (rwOf A E) l) A.K).getD i 0) CN w'/\IL ra (λi=>(rowsTo A.K (rwOf A E) (l*A.K)).getD i 0) (l*A.K) w'):=λvc vl vn lc ll ln w' h=>by
  have aV:∀(ad:Option Addr) (f:Nat->Int) (n:Nat),IL ad f n B->(∀k o,ad=some ⟨k,o,none⟩->k≠mb)->IL ad f n w':=λad f n hI hk=>hI.heap (λk h1 ⟨o,e⟩=>h.k k h1 (hk k o e))
  refine⟨B3.trans (h.b.mono (by omega)),u1.block (h.k _ (by omega) (by omega)),u2.block (h.k _ (by omega) (by omega)),aV _ _ _ r ?_,aV _ _ _ m ?_,aV _ _ _ t ?_⟩
  ·intro k o e;have:=(C.blk k (by rw[e];rfl)).1;omega
  ·intro k o e;have:=(aJ.blk k (by rw[e];rfl)).1;omega
  intro k o e;have:=a6.out k o e;omega
 have a4:=hyd t;have bn:Hid (w.heap.size<=B.heap.size):=by show _<=_;omega
 have a5:=hyd M0;obtain⟨L4,ar⟩:=nam (kl kf);have bL:=hyd ar;have ay:Hid (L4.length=256):=by show _=_;rw[ar];exact y2m _
 rw[<-ar]at aW;rw[<-av];clear t1 t2 t3 t4 t5 C aJ Q r m B3 av u1 u2 t ar aI M0 a9 aD a0 cb c0;go_wp2_with (first|(with_reducible refine gld 140 ?_;refine wpList_load_mid rfl 140 _ rfl kb 0 rfl L4 _ aW Tryz.underlying140 rfl (by rw[ay.out];exact y2P) ?_));rw[bL.out];clear aW ay
 go_loopw [34] (λx w'=>∃(i:Nat) (vc:Value),i<=256/\x=.int .i64 i/\MS mb B vc (.slice none 0 0) (.slice none 0 0) (clsL (Cl (rwOf A E) l) kf i) [] [] w') (λx _=>256-(intOf x).toNat)
 ·exact⟨0,_,by omega,rfl,a5.out⟩
 clear a5;obtain⟨i,vc,hi,rfl,Z⟩:=hrel;by_cases W:i<256
 ·have bw:(i:Int)<256:=by omega
  obtain⟨κ,hκ⟩:=Int.eq_ofNat_of_zero_le (bf.out i W).1;have aw:κ<A.K:=by have:=(bf.out i W).2;omega
  have ck:(κ:Int)<(A.K:Int):=by omega
  obtain⟨O,T0,T1,r,m,t⟩:=D.out _ _ _ _ _ _ wr Z;obtain⟨gx,ox,bX,cx⟩:=r κ aw;subst bX;obtain⟨x,hx⟩:=nam (idxI (Cl (rwOf A E) l) (kf i).toNat);have H:(ofL (Cl (rwOf A E) l) A.K).getD κ 0=x:=by
   rw[hx,hκ,Int.toNat_natCast];simp[ofL,List.getD_eq_getElem?_getD,aw]
  simp only[H]at cx;have bS:Hid (clsL (Cl (rwOf A E) l) kf (i+1)=clsL (Cl (rwOf A E) l) kf i++[x]):=by show _=_;rw[y0P,hx]
  obtain⟨ca,az,ao,_⟩:=Z.oc.il;rw[q3z]at ao;have aF:=hyd ao;have cm:=(Z.c 1 _ rfl).1;rw[ao]at cm;have HZ:=hyd Z;have Hκ:=hyd hκ;clear Z hx H ao m t r T0 T1 O hκ;go_wp2_with (first|(with_reducible show wpList _ _ _ (⟨_,Op.index 140 _ _,_,_,_,_⟩::_) _ _;refine q9d rfl _ _ rfl kf rfl i rfl W ?_;rw[Hκ.out]));refine wp_region_any (by kernel_rfl) ?_;change wpAny _ _ _ _ 10 _ _ wr.drew;refine wpAny_take (i:=0) (oi:=?oT0) (v:=?vT0) ?hiT0 ?hsT0 ?hfT0 ?hrT0 ?hQT0 (Or.inl ⟨?hwT0,?hyT0⟩) ?restT0
  case hiT0=>simp only[List.getElem?_toArray,List.getElem?_cons_zero];rfl
  case hsT0=>kernel_rfl
  case hfT0=>kernel_rfl
  case hrT0=>kernel_rfl
  case hQT0=>exact λ_ _ _ h=>h
  case hwT0=>rfl
  case hyT0=>intro w';go_simp;first|done|with_reducible rfl
  (try simp only[psm])
  refine wpAny_take (i:=2) (oi:=?oT2) (v:=?vT2) ?hiT2 ?hsT2 ?hfT2 ?hrT2 ?hQT2 (Or.inl ⟨?hwT2,?hyT2⟩) ?restT2
  case hiT2=>simp only[gel];rfl
  case hsT2=>kernel_rfl
  case hfT2=>kernel_rfl
  case hrT2=>kernel_rfl
  case hQT2=>exact λ_ _ _ h=>h
  case hwT2=>rfl
  case hyT2=>intro w';go_simp;first|done|with_reducible rfl
  (try simp only[psm])
  refine wpAny_take (i:=3) (oi:=?oT3) (v:=?vT3) ?hiT3 ?hsT3 ?hfT3 ?hrT3 ?hQT3 (Or.inl ⟨?hwT3,?hyT3⟩) ?restT3
  case hiT3=>simp only[gel];rfl
  case hsT3=>kernel_rfl
  case hfT3=>kernel_rfl
  case hrT3=>kernel_rfl
  case hQT3=>exact λ_ _ _ h=>h
  case hwT3=>rfl
  case hyT3=>intro w';go_simp;first|done|with_reducible rfl
  (try simp only[psm])
  refine wpAny_take (i:=4) (oi:=?oT4) (v:=?vT4) ?hiT4 ?hsT4 ?hfT4 ?hrT4 ?hQT4 (Or.inl ⟨?hwT4,?hyT4⟩) ?restT4
  case hiT4=>simp only[gel];rfl
  case hsT4=>kernel_rfl
  case hfT4=>kernel_rfl
  case hrT4=>kernel_rfl
  case hQT4=>exact λ_ _ _ h=>h
  case hwT4=>rfl
  case hyT4=>intro w';go_simp;first|done|with_reducible rfl
  (try simp only[psm])
  obtain⟨W3,g⟩:=nam (wr.drew.alloc (.cells #[.int .i64 x] 3));have q4:=cm;have q5:=cx;have Zd:=HZ.out.below (Below.refl wr.heap.size wr).drew I;have x3:Below wr.drew.heap.size wr.drew W3:=by rw[g];exact box_bel wr.drew _
  have aX:W3.cell? ⟨mb,1,none⟩=some (.slice ca i az):=by rw[<-aF.out];exact((Zd.below x3 I).c 1 _ rfl).1
  refine q3d (fuel:=3) 1 5 6 (o4:=?o4) (o5:=?o5) (o6:=?o6) (v4:=.slice ca i az) (v5:=.int .i64 x) (v6:=.slice (some ⟨wr.drew.heap.size,0,none⟩) 1 1) (L:=#[true,true,true,true,true,true,true,false,false,false]) (A:=?A) (w':=W3)
   ?h4 ?h5 ?h6 ?g4 ?g5 ?g6 ?r0 ?r1 ?r2 ?r3 ?r4 ?r5 ?x4 ?y4 ?z4 ?x5 ?y5 ?x6 ?y6 ?z6 ?l1 ?l2 ?l3 ?f1 ?f2 ?f3 ?fin
  case h4=>simp only[gel];rfl
  case h5=>simp only[gel];rfl
  case h6=>simp only[gel];rfl
  case g4=>rfl
  case g5=>rfl
  case g6=>rfl
  case r0=>kernel_rfl
  case r1=>kernel_rfl
  case r2=>kernel_rfl
  case r3=>kernel_rfl
  case r4=>kernel_rfl
  case r5=>kernel_rfl
  case x4=>go_simp
  case y4=>simp only[psm];go_simp
  case z4=>clear g;simp only[psm];go_simp
  case x5=>go_simp
  case y5=>simp only[psm];go_simp
  case x6=>rw[g];exact q1a _ rfl x rfl
  case y6=>rw[g];exact q1a _ rfl x rfl
  case z6=>rw[g];exact q1a _ rfl x rfl
  case l1=>kernel_rfl
  case l2=>kernel_rfl
  case l3=>kernel_rfl
  case f1=>simp only[psm];rfl
  case f2=>simp only[psm]
  case f3=>simp only[psm]
  refine q1u 7 rfl (by kernel_rfl) ?_;simp only[List.drop_succ_cons,List.drop_zero];have J:W3.cell? ⟨wr.drew.heap.size,0,none⟩=some (.int .i64 x):=by rw[g,World.cell?_alloc_new];rfl
  have Z3:=Zd.below x3 I;have C:=Z3.oc;have G:=Z3.b.size;refine Bm.wpList_append_int (by rfl) _ _ (by rfl) B.heap.size vc (clsL (Cl (rwOf A E) l) kf i) (by rw[aF.out];rfl) C (by rw[q3z];omega) wr.drew.heap.size x (by rfl) J G _ rfl ?_;rw[q3z];intro g5 u w5 R a z aU;rw[<-bS.out]at R;rw[g]at a z;obtain⟨p1,p2,Z5⟩:=Zd.put1 I R a z;obtain⟨W6,T⟩:=nam (w5.setCell ⟨mb,1,none⟩ (.slice (some ⟨g5,0,none⟩) (i+1) u));rw[<-T]at Z5;have am:=hyd T;rw[aF.out]at p1;clear T R a z aU Z3 C G J Zd x3 q4 q5 aX g cm cx HZ;go_wp2_with fail
  (try simp only[Act.put])
  rw[<-am.out];go_roundw
  ·exact⟨i+1,_,by omega,by go_num,Z5⟩
  simp[intOf];omega
 have⟨hge,h256⟩:¬(i:Int)<256/\i=256:=by omega
 subst h256;obtain⟨O,T0,T1,_,_,_⟩:=D.out _ _ _ _ _ _ wr Z;obtain⟨va,co,ap,ak⟩:=(HF.out wr O).il;rw[q0u,<-al.out]at ap;have bT:=hyd ap;have cv:=(T0 1 _ rfl).1;rw[ap]at cv;obtain⟨F,bu⟩:=nam (reps (Cl (rwOf A E) l) A.K);have an:=hyd bu;obtain⟨U,ac⟩:=nam (clsL (Cl (rwOf A E) l) kf 256);have aY:=hyd ac;rw[<-ac]at Z;have bc:=hyd Z;have bH:(l:Int)<=200:=by omega
 clear Z O T0 T1 ak ap bu ac;go_wp2_with fail
 go_loopw [50] (λx w'=>∃(i:Nat) (vl vn:Value),i<=l/\x=.int .i64 i/\MS mb B vc vl vn U (labL A E i) (nxtL (rwOf A E) F i) w') (λx _=>l-(intOf x).toNat)
 ·exact⟨0,_,_,by omega,rfl,bc.out⟩
 clear bc cv;obtain⟨i,vl,vn,hi,rfl,Z⟩:=hrel;obtain⟨O,T0,T1,r,m,t⟩:=D.out _ _ _ _ _ _ wr Z;by_cases W:i<l
 ·have bw:(i:Int)<l:=by omega
  have b9:(reps E A.N).length=l:=by rw[al.out];rfl
  obtain⟨σ,hσ⟩:∃σ,(reps E A.N)[i]?=some σ:=⟨(reps E A.N)[i]'(by omega),List.getElem?_eq_getElem _⟩;obtain⟨bD,_,_⟩:=reps_mem hσ;obtain⟨cd,ce,aa,ak⟩:=(HF.out wr O).il;rw[q0u,<-al.out]at aa ak;have aH:cd=va:=by have:=bT.out;rw[aa]at this;exact(Value.slice.inj this).1
  subst aH;obtain⟨gv,ov,aH,cv⟩:=ak i W;subst aH;have H:(firstL E A.N).getD i 0=(σ:Int):=by simp[firstL,List.getD_eq_getElem?_getD,hσ]
  simp only[H]at cv;obtain⟨sb,so,bZ,bB⟩:=bM.out wr O σ bD;subst bZ;have bV:=(HG.out wr O).c1;have cn:(σ:Int)<(A.N:Int):=by omega
  obtain⟨y,hy⟩:=nam (A.vd σ);have aZ:Hid (Calls Tryz.prog 130 #[.pointer (some ⟨sb,so+σ*104,none⟩)] wr λe w'=>e=.returned (.int .i64 y)/\w'=wr):=by
   have:=q4o sb (so+σ*104) (rl σ) wr bB;rw[<-Hv.out σ bD,<-hy]at this;exact this
  have bi:Hid (labL A E (i+1)=labL A E i++[y]):=by show _=_;rw[y0z,hy,List.getD_eq_getElem?_getD,hσ];rfl
  obtain⟨cc,bF,ab,_⟩:=Z.ol.il;rw[q3o]at ab;have bm:=hyd ab;have cm:=(Z.c 2 _ rfl).1;rw[ab]at cm;have hx:=box_bel wr (.cells #[.int .i64 y] 3);have aM:=Z.ol.below hx;have J:(wr.alloc (.cells #[.int .i64 y] 3)).cell? ⟨wr.heap.size,0,none⟩=some (.int .i64 y):=by rw[World.cell?_alloc_new];rfl
  have G:B.heap.size<=(wr.alloc (.cells #[.int .i64 y] 3)).heap.size:=by have:=Z.b.size;have:=hx.size;omega
  have HZ:=hyd Z;have b8:(labL A E i).length<=1000000:=by rw[q3o];omega
  rw[ab]at aM;clear Z O T0 T1 r m t b9 hσ aa ak H bB hy ab hx;go_wp2_with fail;refine aZ.out.mono ?_;rintro en cg ⟨rfl,rfl⟩;go_wp2_with (first|(at_builtin;refine Bm.wpList_append_int (by rfl) _ _ (by rfl) B.heap.size (.slice cc i bF) (labL A E i) (by rfl) aM b8 cg.heap.size y (by rfl) J G _ rfl ?_;rw[q3o];intro g5 u w5 R a z aU;refine Stop.out ?_));refine⟨?_⟩
  (try simp only[psm])
  rw[<-bm.out]at a z;rw[<-bi.out]at R;obtain⟨p1,p2,Z5⟩:=HZ.out.put2 I R a z;obtain⟨W6,T⟩:=nam (w5.setCell ⟨mb,2,none⟩ (.slice (some ⟨g5,0,none⟩) (i+1) u));rw[<-T]at Z5;have am:=hyd T;rw[bm.out]at p1;have bd:Hid (MS mb B vc (.slice (some ⟨g5,0,none⟩) (i+1) u) vn U (labL A E (i+1)) (nxtL (rwOf A E) F i++nxtR (rwOf A E) F i 0) W6):=by
   show MS _ _ _ _ _ _ _ _ _;rw[show nxtR (rwOf A E) F i 0=[] from rfl,List.append_nil];exact Z5
  clear T R a z aU aM J G Z5 HZ cm cv bV aZ;go_wp2_with fail;rw[<-am.out];clear am p1 p2
  go_loopw [70] (λx w'=>∃(c:Nat) (vn:Value),c<=CN/\x=.int .i64 c/\MS mb B vc (.slice (some ⟨g5,0,none⟩) (i+1) u) vn U (labL A E (i+1)) (nxtL (rwOf A E) F i++nxtR (rwOf A E) F i c) w') (λx _=>CN-(intOf x).toNat)
  ·exact⟨0,_,by omega,rfl,bd.out⟩
  clear bd;obtain⟨c,vn,hc,rfl,Z⟩:=hrel;obtain⟨O,T0,T1,r,m,t⟩:=D.out _ _ _ _ _ _ wr Z;have au:F.length=CN:=by rw[an.out,bJ.out];rfl
  by_cases b4:c<CN
  ·have ch:(c:Int)<CN:=by omega
   obtain⟨κ,hκ⟩:∃κ,F[c]?=some κ:=⟨F[c]'(by omega),List.getElem?_eq_getElem _⟩;have aw:κ<A.K:=by have h:=hκ;rw[an.out]at h;exact(reps_mem h).1
   obtain⟨gf,cy,bW,cf⟩:=m c b4;subst bW;have H:(firstL (Cl (rwOf A E) l) A.K).getD c 0=(κ:Int):=by
    rw[firstL,<-an.out];simp[List.getD_eq_getElem?_getD,hκ]
   simp only[H]at cf;obtain⟨p,hp⟩:=nam (i*A.K);have ia:(i:Int)*(A.K:Int)=(p:Int):=by rw[hp];simp
   obtain⟨q,hq⟩:=nam (p+κ);have iq:(p:Int)+(κ:Int)=(q:Int):=by omega
   have X:q<l*A.K:=by
    have:(i+1)*A.K<=l*A.K:=Nat.mul_le_mul_right _ W;rw[Nat.add_mul]at this;omega
   obtain⟨rb,ro,bY,cr⟩:=t q X;subst bY;obtain⟨x,hx⟩:=nam (rwOf A E i κ);have aS:(rowsTo A.K (rwOf A E) (l*A.K)).getD q 0=x:=by
    have hd:=q5y (s:=i) aw;rw[hq,hp]at X ⊢;simp[rowsTo,List.getD_eq_getElem?_getD,X,hd.1,hd.2,hx]
   simp only[aS]at cr;have cj:(q:Int)<M:=by have:=HM.out;omega
   have ct:(p:Int)<=51200:=by
    have h1:p<=200*256:=by rw[hp];exact Nat.mul_le_mul (by omega) aT
    omega
   have cq:(M:Int)<=51200:=by
    have h1:M<=200*256:=by rw[HM.out];exact Nat.mul_le_mul (by omega) aT
    omega
   have cu:IntKind.i64.wrap (p:Int)=(p:Int):=by simp[IntKind.wrap,IntKind.bits,IntKind.signed];omega
   have cw:IntKind.i64.wrap (q:Int)=(q:Int):=by simp[IntKind.wrap,IntKind.bits,IntKind.signed];omega
   have bU:=(HG.out wr O).c0;have bj:Hid (nxtL (rwOf A E) F i++nxtR (rwOf A E) F i (c+1)=(nxtL (rwOf A E) F i++nxtR (rwOf A E) F i c)++[x]):=by
    show _=_;rw[q7i,List.append_assoc,List.getD_eq_getElem?_getD,hκ,hx];rfl
   obtain⟨LN,aK⟩:=nam (nxtL (rwOf A E) F i++nxtR (rwOf A E) F i c);rw[<-aK]at Z bj;have bv:LN.length<=1000000:=by
    rw[aK,List.length_append,q3k,q6g,au];have h1:i*CN<=200*256:=Nat.mul_le_mul (by omega) (by omega);omega
   obtain⟨na,aB,aq,_⟩:=Z.on.il;obtain⟨aC,bz⟩:=nam LN.length;rw[<-bz]at aq;have aG:=hyd aq;have cm:=(Z.c 3 _ rfl).1;rw[aq]at cm;have HZ:=hyd Z;have bQ:Hid (gb<w.heap.size/\gb≠mb):=⟨b6,by have:=aE.out;omega⟩;have aA:rb<B.heap.size/\rb≠mb:=by
    have h1:=a6.out rb ro rfl;refine⟨?_,by have:=aE.out;omega⟩;have h2:=a4.out q X;obtain⟨b',o',e',c'⟩:=h2;cases e';exact World.block_lt_of_cell? B _ c'
   have bR:=hyd aA;have a8:Hid (∀(bG:Value) (ln':List Int) (w':World),MS mb B vc (.slice (some ⟨g5,0,none⟩) (i+1) u) bG U (labL A E (i+1)) ln' w'->w'.cell? ⟨gb,0,none⟩=some (.int .i64 A.K)/\w'.cell? ⟨rb,ro+q,none⟩=some (.int .i64 x)):=λbG ln' w' h=>by
    obtain⟨bI,_,_,_,_,bE⟩:=D.out _ _ _ _ _ _ w' h;obtain⟨cz,cA,e',c'⟩:=bE q X;cases e';simp only[aS]at c';exact⟨(HG.out w' bI).c0,c'⟩
   clear Z O T0 T1 r m t H aS hx hp hq X aK aq hκ au aA bz;go_wp2_with fail;have bt:wr.drew.cell? ⟨gb,0,none⟩=some (.int .i64 A.K)/\wr.drew.cell? ⟨rb,ro+q,none⟩=some (.int .i64 x):=⟨bU,cr⟩;refine wp_region_held_drew (S:=λw'=>w'.cell? ⟨gb,0,none⟩=some (.int .i64 A.K)/\w'.cell? ⟨rb,ro+q,none⟩=some (.int .i64 x)) (by kernel_rfl) bt (λhHeld=>?_);refine wpAnyH_take (i:=0) (oi:=?oH0) (v:=?vH0) ?hiH0 ?hsH0 ?hfH0 ?hrH0 ?hQH0 (Or.inl ⟨?hwH0,?hyH0⟩) ?hSH0 ?restH0
   case hiH0=>simp only[List.getElem?_toArray,List.getElem?_cons_zero];rfl
   case hsH0=>kernel_rfl
   case hfH0=>kernel_rfl
   case hrH0=>kernel_rfl
   case hQH0=>exact λ_ _ _ h=>h
   case hSH0=>assumption
   case hwH0=>rfl
   case hyH0=>intro w' d;(try dsimp only at d);go_simp;first|done|with_reducible rfl
   (try simp only[psm])
   refine wpAnyH_take (i:=2) (by simp only[gel];rfl) (by kernel_rfl) (by kernel_rfl) (by kernel_rfl) (by exact λ_ _ _ h=>h) (Or.inl ⟨by rfl,by intro w' d;(try dsimp only at d);go_simp;first|done|with_reducible rfl⟩) (by assumption) ?_
   (try simp only[psm])
   refine wpAnyH_take (i:=3) (by simp only[gel];rfl) (by kernel_rfl) (by kernel_rfl) (by kernel_rfl) (by exact λ_ _ _ h=>h) (Or.inl ⟨by rfl,by intro w' d;(try dsimp only at d);go_simp;first|done|with_reducible rfl⟩) (by assumption) ?_
   (try simp only[psm])
   refine wpAnyH_take (i:=4) (by simp only[gel];rfl) (by kernel_rfl) (by kernel_rfl) (by kernel_rfl) (by exact λ_ _ _ h=>h) (Or.inl ⟨by rfl,by intro w' d;(try dsimp only at d);go_simp;first|done|with_reducible rfl⟩) (by assumption) ?_
   (try simp only[psm])
   refine wpAnyH_take (i:=5) (by simp only[gel];rfl) (by kernel_rfl) (by kernel_rfl) (by kernel_rfl) (by exact λ_ _ _ h=>h) (Or.inl ⟨by rfl,by intro w' d;(try dsimp only at d);go_simp;first|done|with_reducible rfl⟩) (by assumption) ?_
   (try simp only[psm])
   refine wpAnyH_take (i:=6) (by simp only[gel];rfl) (by kernel_rfl) (by kernel_rfl) (by kernel_rfl) (by exact λ_ _ _ h=>h) (Or.inl ⟨by rfl,by intro w' d;(try dsimp only at d);go_simp;first|done|with_reducible rfl⟩) (by assumption) ?_
   (try simp only[psm])
   refine wpAnyH_take (i:=7) (by simp only[gel];rfl) (by kernel_rfl) (by kernel_rfl) (by kernel_rfl) (by exact λ_ _ _ h=>h) (Or.inl ⟨by rfl,by intro w' d;(try dsimp only at d);go_simp;first|done|with_reducible rfl⟩) (by assumption) ?_
   (try simp only[psm])
   refine wpAnyH_take (i:=8) (by simp only[gel];rfl) (by kernel_rfl) (by kernel_rfl) (by kernel_rfl) (by exact λ_ _ _ h=>h) (Or.inl ⟨by rfl,by intro w' d;(try dsimp only at d);go_simp;first|done|with_reducible rfl⟩) (by assumption) ?_
   (try simp only[psm])
   refine wpAnyH_take (i:=9) (by simp only[gel];rfl) (by kernel_rfl) (by kernel_rfl) (by kernel_rfl) (by exact λ_ _ _ h=>h) (Or.inl ⟨by rfl,by intro w' d;(try dsimp only at d);go_simp;first|done|with_reducible rfl⟩) (by assumption) ?_
   (try simp only[psm])
   refine wpAnyH_take (i:=10) (by simp only[gel];rfl) (by kernel_rfl) (by kernel_rfl) (by kernel_rfl) (by exact λ_ _ _ h=>h) (Or.inl ⟨by rfl,by intro w' d;(try dsimp only at d);go_simp;first|done|with_reducible rfl⟩) (by assumption) ?_
   (try simp only[psm])
   refine wpAnyH_take (i:=11) (by simp only[gel];rfl) (by kernel_rfl) (by kernel_rfl) (by kernel_rfl) (by exact λ_ _ _ h=>h) (Or.inl ⟨by rfl,by intro w' d;(try dsimp only at d);go_simp;first|done|with_reducible rfl⟩) (by assumption) ?_
   (try simp only[psm])
   refine wpAnyH_take (i:=12) (by simp only[gel];rfl) (by kernel_rfl) (by kernel_rfl) (by kernel_rfl) (by exact λ_ _ _ h=>h) (Or.inl ⟨by rfl,by intro w' d;(try dsimp only at d);go_simp;first|done|with_reducible rfl⟩) (by assumption) ?_
   (try simp only[psm])
   obtain⟨W3,g⟩:=nam (wr.drew.alloc (.cells #[.int .i64 x] 3));have q4:=cm;have Zd:=HZ.out.below (Below.refl wr.heap.size wr).drew I;have x3:Below wr.drew.heap.size wr.drew W3:=by rw[g];exact box_bel wr.drew _
   have Z3:=Zd.below x3 I;have aX:W3.cell? ⟨mb,3,none⟩=some (.slice na aC aB):=by rw[<-aG.out];exact(Z3.c 3 _ rfl).1
   have aP:=a8.out _ _ W3 Z3;refine q2P (fuel:=3) 1 13 (oi:=?Jp1) (ok:=?Jp13) (vi:=.slice na aC aB) (vk:=.slice (some ⟨wr.drew.heap.size,0,none⟩) 1 1) (L:=#[true,true,true,true,true,true,true,true,true,true,true,true,true,true,false,false,false]) (A:=?JA) (w':=W3)
    ?Jh1 ?Jh13 ?Jg1 ?Jg13 ?Jr0 ?Jr1 ?Jr2 ?Jxi ?Jyi ?Jxk ?Jyk ?Jl1 ?Jl2 ?Jf1 ?Jf2 ?JhS ?JhS' ?Jfin
   case Jh1=>simp only[gel];rfl
   case Jh13=>simp only[gel];rfl
   case Jg1=>rfl
   case Jg13=>rfl
   case Jr0=>kernel_rfl
   case Jr1=>kernel_rfl
   case Jr2=>kernel_rfl
   case Jxi=>go_simp
   case Jyi=>clear g;simp only[psm];go_simp
   case Jxk=>rw[g];exact q1a _ rfl x rfl
   case Jyk=>rw[g];exact q1a _ rfl x rfl
   case Jl1=>kernel_rfl
   case Jl2=>kernel_rfl
   case Jf1=>simp only[psm];rfl
   case Jf2=>simp only[psm]
   case JhS=>exact hHeld
   case JhS'=>exact aP
   have J:W3.cell? ⟨wr.drew.heap.size,0,none⟩=some (.int .i64 x):=by rw[g,World.cell?_alloc_new];rfl
   have C:=Z3.on;have G:=Z3.b.size;refine wpAnyH_ready (rs:=[14]) (by kernel_rfl) (by simp) ?_;refine AllReadyH.cons (o:=?oH14) ?hiH14 (λK hK=>?_) AllReadyH.nil
   case hiH14=>simp only[gel];rfl
   rw[if_pos (by rfl)];refine q2k _ _ rfl B.heap.size vn LN (by rw[aG.out];rfl) C bv wr.drew.heap.size x rfl J G _ rfl ?_;intro g6 bo w6 aO a aj b7;rw[<-bj.out]at aO;rw[g]at a aj;obtain⟨p1,p2,Z6⟩:=Zd.put3 I aO a aj;have b0:w6.cell? ⟨gb,0,none⟩=some (.int .i64 A.K)/\w6.cell? ⟨rb,ro+q,none⟩=some (.int .i64 x):=by
    have bC:=Zd.on.blk;obtain⟨y1,y2⟩:=aP;rw[g]at y1 y2;have z1:=bQ.out.1;have z2:=bR.out.1;have zw:=bn.out;exact⟨by rw[a.cell_far ⟨gb,0,none⟩ (World.block_lt_of_cell? _ _ y1) (λe=>by have:=(bC _ e.symm).1;simp only at this;omega)];exact y1,by rw[a.cell_far ⟨rb,ro+q,none⟩ (World.block_lt_of_cell? _ _ y2) (λe=>by have:=(bC _ e.symm).1;simp only at this;omega)];exact y2⟩
   refine hK.out _ _ b0 (λhHeld=>?_);clear hK K;obtain⟨W7,aQ⟩:=nam (w6.setCell ⟨mb,3,none⟩ (.slice (some ⟨g6,0,none⟩) (LN.length+1) bo));rw[<-aQ]at Z6;have bN:=hyd aQ;have b3:=a8.out _ _ W7 Z6;rw[aG.out]at p1
   (try simp only[psm])
   clear aQ aO a aj b7 Z3 C G J Zd x3 q4 aX g cm cf cr HZ aP bt;refine wpAnyH_take (i:=15) (by simp only[gel];rfl) (by kernel_rfl) (by kernel_rfl) (by kernel_rfl) (by exact λ_ _ _ h=>h) (Or.inl ⟨by rfl,by intro w' d;(try dsimp only at d);go_simp;first|done|with_reducible rfl⟩) (by assumption) ?_
   (try simp only[psm])
   refine wpAnyH_ready (rs:=[16]) (by kernel_rfl) (by simp) ?_;refine AllReadyH.cons (o:=?oH16) ?hiH16 (λK hK=>?_) AllReadyH.nil
   case hiH16=>simp only[gel];rfl
   go_simp;rw[<-bN.out];refine hK.out _ _ b3 (λhHeld=>?_);clear hK K;refine wpAnyH_done (by kernel_rfl) ?_ _;go_wp2_with fail
   (try simp only[Act.put])
   go_roundw
   ·exact⟨c+1,_,by omega,by go_num,Z6⟩
   simp[intOf];omega
  have⟨hge,hcc⟩:¬(c:Int)<CN/\c=CN:=by omega
  subst hcc;have Z2:MS mb B vc (.slice (some ⟨g5,0,none⟩) (i+1) u) vn U (labL A E (i+1)) (nxtL (rwOf A E) F (i+1)) wr:=by
   rw[q4C,au];exact Z
  clear Z O T0 T1 r m t au;go_wp2_with fail;go_roundw
  ·exact⟨i+1,_,_,by omega,by go_num,Z2⟩
  simp[intOf];omega
 have⟨hge,hiN⟩:¬(i:Int)<l/\i=l:=by omega
 subst hiN;have rM:=Z.c.range;have tz:=T1.there;have bx:=aE.out;obtain⟨a1,c1,e1,_⟩:=Z.oc.il;obtain⟨a2,c2,e2,_⟩:=Z.ol.il;obtain⟨a3,c3,e3,_⟩:=Z.on.il;have bP:Hid ((#[.int .i64 0,vc,vl,vn]:Array Value).all (·.oneCell')=true):=by
  show([.int .i64 0,vc,vl,vn]:List Value).toArray.all (·.oneCell')=true;rw[List.all_toArray,e1,e2,e3];rfl
 have ae:=q0e (w.heap.size+1) [.int .i64 0,vc,vl,vn] 0 wr;have bA:=World.rangeAt_setCells_same wr (w.heap.size+1) 0 [.int .i64 0,vc,vl,vn] tz;have ai:=run_loadVar_mid (P:=Tryz.prog) (wr.setCells (w.heap.size+1) 0 [.int .i64 0,vc,vl,vn]) (w.heap.size+1) 0 25 [.int .i64 0,vc,vl,vn] _ bA Tryz.underlying25 rfl q0D;have BX:=O.grown ae O.size (λq hq=>by cases hq;omega);have bp:=Z.oc.blk;have bq:=Z.ol.blk;have br:=Z.on.blk;have O1:=Z.oc.grown ae (λq hq e=>by have:=Option.some.inj e;have:=(bp q hq).1;omega);have O2:=Z.ol.grown ae (λq hq e=>by have:=Option.some.inj e;have:=(bq q hq).1;omega);have O3:=Z.on.grown ae (λq hq e=>by have:=Option.some.inj e;have:=(br q hq).1;omega);obtain⟨WX,aR⟩:=nam (wr.setCells (w.heap.size+1) 0 [.int .i64 0,vc,vl,vn]);rw[<-aR]at ai BX O1 O2 O3;have bO:=hyd aR;have be:=hyd ai;have HO:Hid (OwnL w.heap.size vc U WX/\OwnL w.heap.size vl (labL A E i) WX/\OwnL w.heap.size vn (nxtL (rwOf A E) F i) WX/\(∀k,vc.ownBlock=some k->vl.ownBlock≠some k)/\(∀k,vc.ownBlock=some k->vn.ownBlock≠some k)/\(∀k,vl.ownBlock=some k->vn.ownBlock≠some k)/\Below w.heap.size w WX):=⟨O1.mono (by omega),O2.mono (by omega),O3.mono (by omega),Z.n1,Z.n2,Z.n3,BX⟩;clear Z O T0 T1 r m t ae bA ai BX bp bq br O1 O2 O3 aR e1 e2 e3 bx;go_wp2_with (first|(with_reducible refine gld 25 ?_;refine Stop.out ?_));refine⟨?_⟩;refine wpList_load_mid rfl 25 _ rfl mb 0 rfl [.int .i64 0,vc,vl,vn] _ rM Tryz.underlying25 rfl q0D ?_
 (try simp only[psm])
 refine wpList_store_mid rfl 25 _ _ rfl (w.heap.size+1) 0 #[.int .i64 0,vc,vl,vn] rfl rfl tz q0D bP.out ?_;rw[List.toList_toArray,<-bO.out];go_wp2_with fail;refine bodyPost_ret (v:=.agg #[.int .i64 0,vc,vl,vn]) (res_load1 Tryz.results68 rfl be.out) rfl ?_;obtain⟨o1,o2,o3,o4,o5,o6,o7⟩:=HO.out;have e1:=al.out;have e2:=aY.out;have e3:=an.out;rw[e1]at e2 e3 o2 o3;rw[e2]at o1;rw[e3]at o3;exact⟨vc,vl,vn,rfl,o1,o2,o3,o4,o5,o6,o7⟩
theorem OwnH.hs {f:Nat->Nat->Bool} (h:OwnH base v (mkL n f) w):∃ha hc,v=.slice ha n hc/\HS ha f n w:=by
 obtain⟨ad,cap,e,c⟩:=h.at_;rw[q0V]at e;refine⟨ad,cap,e,λp b j i=>?_⟩;obtain⟨g,a,d⟩:=c p _ (q4G f j);exact⟨g,0,a,by rw[Nat.zero_add];exact d b _ (q0x _ i)⟩
theorem OwnS.bh {f:Nat->Nat->Bool} (h:OwnS base v (mkL n f) w):∃ba bc,v=.slice ba n bc/\BH ba f n w:=by
 obtain⟨ad,cap,e,b⟩:=h.at_;rw[q0V]at e;refine⟨ad,cap,e,λp d=>?_⟩;obtain⟨g,a,c⟩:=b p _ (q4G f d);exact⟨g,0,a,by rw[Nat.zero_add];exact c⟩
theorem OwnS.sr (h:OwnS base v l w):∃sa sc,v=.slice sa l.length sc/\SR sa (λi r=>(l.getD i noB) (96+r)) l.length w:=by
 obtain⟨ad,cap,e,c⟩:=h.at_;refine⟨ad,cap,e,λi a=>?_⟩;obtain⟨g,b,d⟩:=c i _ (List.getElem?_eq_getElem a);refine⟨g,0,b,λr f=>?_⟩;have:=d (96+r) _ (q0x _ (by omega));show w.cell? ⟨g,0+i*104+96+r,none⟩=some (.bool ((l.getD i noB) (96+r)));rw[Nat.zero_add,Nat.add_assoc,List.getD_eq_getElem?_getD,List.getElem?_eq_getElem a];exact this
theorem OwnU.lb {l:List Nat} (h:OwnU base v l w) (hb:∀(k b:Nat),l[k]?=some b->b<256):∃la lc,v=.slice la l.length lc/\LB la l w:=by
 obtain⟨ad,cap,e,d⟩:=h.at_;refine⟨ad,cap,e,λk b a=>?_⟩;obtain⟨g,c,f⟩:=d k b a;exact⟨hb k b a,g,0,c,by rw[Nat.zero_add];exact f⟩
def kdL (hs:Nat->Nat->Bool) (P:Nat):List Nat:=reps (Kq hs P) 256
variable {hs : Nat → Nat → Bool}
theorem y3A (h:(kdL hs P)[k]?=some b):b<256:=(reps_mem h).1
theorem q3M (hs:Nat->Nat->Bool) (P:Nat):0<(kdL hs P).length/\(kdL hs P).length<=256:=
 ⟨Nat.lt_of_le_of_lt (Nat.zero_le _) (idx_lt (q3D hs P 256) (a:=0) (by omega)),cnt_le _ _⟩
theorem q8N (hs:Nat->Nat->Bool) (P:Nat):Reps hs P (kdL hs P):=λb d=>by
 have a:=q3D hs P 256;have h1:=idx_lt a d;obtain⟨c,e⟩:∃c,(kdL hs P)[idx (Kq hs P) b]?=some c:=⟨(kdL hs P)[idx (Kq hs P) b]'h1,List.getElem?_eq_getElem _⟩;obtain⟨f,g,h⟩:=reps_mem e;have:idx (Kq hs P) c=idx (Kq hs P) b:=by rw[idx_rep g,h]
 exact⟨_,c,e,(q2B hs P c b).1 ((idx_eq a f d).1 this)⟩
variable {bh : Nat → Nat → Bool}
theorem y1z (hr:w.rangeAt nb 0 (netV vh vb F)) (hH:OwnH base vh (mkL P hs) w) (hB:OwnS base' vb (mkL P bh) w):∃ha hc ba bc,NR nb ha hc P hs ba bc bh F w:=by
 obtain⟨ha,hc,rfl,a⟩:=hH.hs;obtain⟨ba,bc,rfl,b⟩:=hB.bh;refine⟨ha,hc,ba,bc,by simpa using hr 0 _ rfl,by simpa using hr 1 _ rfl,λj v c=>?_,a,b⟩;have:=hr (2+j) v (by rw[Nat.add_comm];exact c);simpa using this
theorem y0A {kb:Nat}{f:Nat->Int} (hr:w.rangeAt kb 0 (kcells f vl)):w.rangeAt kb 0 (kl f)/\w.cell? ⟨kb,256,none⟩=some vl:=by
 refine⟨λj v a=>hr j v ?_,by simpa using hr 256 vl (q1r f vl)⟩;have b:j<256:=by have:=(List.getElem?_eq_some_iff.1 a).1;rw[y2m]at this;exact this
 rw[q1O f vl j b];simp[kl,b]at a;rw[a]
theorem q9E {A:(Nat->Bool)->Nat->Nat->Bool}{ls:List Nat}{t:List Int}{vs:Value} (hK:0<ls.length) (h:Exp A F ls l.length 0 l t) (hS:OwnS base vs l w) (hT:OwnL base vt t w) (hr:w.rangeAt gb 0 [.int .i64 ls.length,vs,vt]):∃ta tc sa sc,Gr gb (autOf l t ls.length) ta tc (.slice sa l.length sc) w/\SR sa (λi r=>(l.getD i noB) (96+r)) l.length w:=by
 obtain⟨sa,sc,rfl,d⟩:=hS.sr;obtain⟨ta,tc,rfl,f⟩:=hT.il;obtain⟨_,_,j,_⟩:=h.size;have a:t.length=l.length*ls.length:=by omega
 refine⟨ta,tc,sa,sc,⟨by show _=some (Value.int .i64 (ls.length:Int));simpa using hr 0 _ rfl,by simpa using hr 1 _ rfl,?_,?_⟩,d⟩
 ·have:=hr 2 _ rfl;rw[a]at this;show _=some (Value.slice ta (l.length*ls.length) tc);simpa using this
 show IL ta (fl (autOf l t ls.length)) (l.length*ls.length) w;rw[<-a];intro i c;obtain⟨b,o,e,g⟩:=f i c;refine⟨b,o,e,?_⟩;rw[q6H _ _ _ _ hK,List.getD_eq_getElem?_getD,List.getElem?_eq_getElem c];simpa[List.getD_eq_getElem?_getD,List.getElem?_eq_getElem c]using g
end Go.Proofs.YtoaaklhpmhjhkaaGreat
