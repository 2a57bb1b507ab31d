import Derived.Test.YtoaaklhpmhjhkaaGreatC33
set_option maxRecDepth 100000
set_option maxHeartbeats 4000000
set_option linter.all false
namespace Go.Proofs.YtoaaklhpmhjhkaaGreat
open Go.RowKit
open Bm
theorem eInfoNode:∃i,Tryz.prog.info? 118=some i/\i.zero=some (.agg nodZ.toArray)/\i.size=5/\i.bytes=72:=by
 have h:(Tryz.prog.info? 118).isSome=true:=by kernel_rfl
 obtain⟨i,a⟩:=Option.isSome_iff_exists.1 h;refine⟨i,a,?_,?_,?_⟩
 ·have:((Tryz.prog.info? 118).bind (·.zero))=some (.agg nodZ.toArray):=by kernel_rfl
  rw[a]at this;simpa using this
 ·have:((Tryz.prog.info? 118).map (·.size))=some 5:=by kernel_rfl
  rw[a]at this;simpa using this
 have:((Tryz.prog.info? 118).map (·.bytes))=some 72:=by kernel_rfl
 rw[a]at this;simpa using this
theorem q6U (cs:List Value) (hl:cs.length=5) (w:World):(Instr.buildSlice 114 1 #[(0,.agg cs.toArray)]).run Tryz.prog w=.ok (.slice (some ⟨w.heap.size,0,none⟩) 1 1) (w.alloc (.cells cs.toArray 118)):=by
 have hs:(sizeOf 118).run Tryz.prog w=.ok 5 w:=by kernel_rfl
 have c:=q1Z w;have a:=q6y (λi=>some (i*5,5)) ((Array.range (1*5)).map (nodZ.toArray[·%nodZ.toArray.size]!)) (.agg cs.toArray) 5 rfl (by simp[Value.cells,hl]) (by simp);have b:(Value.agg cs.toArray).cells=cs.toArray:=rfl;have e2:(Value.agg #[.int .i64 0,.slice none 0 0,.slice none 0 0,.int .i64 0,.int .i64 0]).cells=nodZ.toArray:=rfl;rw[b]at a;simp only[Instr.buildSlice,Sem.run_bind,run_underlying Tryz.underlying114,Result.andThen_ok,hs,Sem.run_ite,c,e2,Sem.run_pure,a,newRow];simp
variable {a : Act}{ops : Array Oper}{Q : Exit → Act → World → Prop}{l : List (Nat → Bool)}{t0 : List Int}{kids : List Nat}{rest : List Oper}{M N P R b base cap g gb i k kind n q s tb : Nat}{F : Nat → Bool}{to : Nat → Int}{Ns ix nd ti : Nat → Nat}{E : Nat → Nat → Bool}{S S' : Nat → Prop}{o op : Oper}{v vr : Value}{W w w' w5 : World}
theorem q4k (hgd:op.guard=none) (x:Operand) (ho:op.op=.buildSlice 114 1 #[(0,x)])
  (cs:List Value) (hl:cs.length=5) (hx:a.eval x=.agg cs.toArray) (h:wpList Tryz.prog ops Q rest (a.put op.dst (.slice (some ⟨w.heap.size,0,none⟩) 1 1)) (w.alloc (.cells cs.toArray 118))):wpList Tryz.prog ops Q (op::rest) a w:=
 wpList_plain hgd λ_ b=>by
  unfold Oper.wp execOp;have c:=q6U cs hl w;have e:(#[((0:Nat),x)].map λ(p:Nat × Operand)=>(p.1,a.eval p.2))=#[(0,.agg cs.toArray)]:=by simp[hx]
  simp only[ho,Sem.run_bind,e,c,Result.andThen_ok,Sem.run_pure];exact b _ _ h
theorem q3b (hgd:o.guard=none) (s x:Operand)
  (ho:o.op=.call { callee:=.builtin .append,args:=#[s,x],argTypes:=#[114,114] }) (base:Nat)
  (v:Value) (N:Nat) (xs:List Value) (hs:a.eval s=v) (hown:w.ownsRow base 118 5 v N xs) (hn:N<=1000000)
  (B:Nat) (cs:List Value) (hl:cs.length=5) (hone:∀u∈cs,u.oneCell'=true) (hx:a.eval x=.slice (some ⟨B,0,none⟩) 1 1) (hnews:w.rangeAt B 0 cs) (hbase:base<=w.heap.size) (H:Nat) (hH:w.heap.size=H)
  (h:∀g cap w',w'.ownsRow base 118 5 (.slice (some ⟨g,0,none⟩) (N+1) cap) (N+1) (xs++cs)->w.grownBy w' v.ownBlock->(v.ownBlock=some g\/g=H)->g<w'.heap.size->wpList Tryz.prog ops Q rest (a.put o.dst (.slice (some ⟨g,0,none⟩) (N+1) cap)) w'):wpList Tryz.prog ops Q (o::rest) a w:=by
 obtain⟨i,e,b,c,d⟩:=eInfoNode;exact wpList_append_lies w hgd s x 114 ho base 118 i _ 5 72 Tryz.underlying114 e b c d (by simp[Value.cells,nodZ]) (by omega) v N xs hs hown ⟨B,0,none⟩ 1 1 cs hx (by omega) (λj u f=>by rw[Addr.add_lit];exact hnews j u f) hone (by omega) (by unfold maxLen;omega) (by omega) hbase H hH h
variable {T T' : Nat → Nd}
theorem TW.poke (h:TW tb base T N M (.slice (some ⟨g,0,none⟩) N cap) vr S w) (htb:tb<base) (k j:Nat) (hk:k<N) (hj:j<5) (u:Value)
  (h1:∀m i,i<N->ndL T' m i=if i=k then (ndL T m k).set j u else ndL T m i) (h2:∀i,i<N->(T' i).kind=(T i).kind/\(T' i).kids=(T i).kids/\(T' i).inn=(T i).inn):
  TW tb base T' N M (.slice (some ⟨g,0,none⟩) N cap) vr S (w.setCell ⟨g,k*5+j,none⟩ u):=by
 have n:=(h.blk g rfl).1;obtain⟨m,f,l⟩:=h.o;have b:∀q,q≠g->(w.setCell ⟨g,k*5+j,none⟩ u).heap[q]?=w.heap[q]?:=λq a=>Below.heap_setCell w ⟨g,k*5+j,none⟩ _ q (λe=>a e)
 refine⟨h.c.block (b tb (by omega)),⟨m,?_,(l.congr h2).move (λq a=>b q (λe=>(h.s q a).2.2 (by rw[e];rfl))) (λ_ h=>h)⟩,λq a=>⟨by rw[World.size_setCell];exact(h.s q a).1,(h.s q a).2⟩⟩;have:=(f.stored (k*5+j) u).1;rw[q7u (q2V T m) k j hk hj,q2X (E:=ndL T' m) (λi d=>(h1 m i d).symm)]at this;exact this
theorem TF.poke (h:TF tb v (.slice (some ⟨g,0,none⟩) n cap) S S' w w') (hg:tb<=g) (q:Nat) (u:Value):TF tb v (.slice (some ⟨g,0,none⟩) n cap) S S' w (w'.setCell ⟨g,q,none⟩ u):=
 ⟨h.b.setCell (p:=⟨g,q,none⟩) hg u,λk f d a=>by
  rw[Below.heap_setCell w' ⟨g,q,none⟩ _ k (λe=>?_)]
  ·exact h.k k f d a
  have e':=e;subst e';rcases h.o k rfl with c|c
  ·exact a c
  omega,h.o,h.s⟩
def newN (kind:Nat) (kids:List Nat):Nd:=⟨kind,kids,-1,0,λ_=>false⟩
def addK (T:Nat->Nd) (N kind:Nat) (kids:List Nat) (i:Nat):Nat->Nd:=λn=>
 if n=N then newN kind kids else if n∈kids.take i then { T n with up:=N,at_:=kids.idxOf n } else T n
theorem y2d (T:Nat->Nd) (N kind:Nat) (kids:List Nat):addK T N kind kids kids.length=addN T N kind kids (fun _=>false):=by
 funext n
 unfold addK addN newN;rw[List.take_length]
theorem y3J (T:Nat->Nd) (N kind:Nat) (kids:List Nat) (i n:Nat):(addK T N kind kids i n).kind=(addK T N kind kids 0 n).kind/\(addK T N kind kids i n).kids=(addK T N kind kids 0 n).kids/\(addK T N kind kids i n).inn=(addK T N kind kids 0 n).inn:=by
 unfold addK;by_cases h:n=N
 ·simp[h]
 simp only[h,if_false,List.take_zero,List.not_mem_nil];split<;>exact⟨rfl,rfl,rfl⟩
def addU (T:Nat->Nd) (N kind:Nat) (kids:List Nat) (i k:Nat):Nat->Nd:=λn=>if n=k then { addK T N kind kids i n with up:=N } else addK T N kind kids i n
theorem q7D (hd:kids.Nodup) (hk:kids[i]?=some k) (hkN:k<N) (n:Nat):addK T N kind kids (i+1) n=if n=k then { addU T N kind kids i k n with at_:=i } else addU T N kind kids i k n:=by
 obtain⟨d,c⟩:=List.getElem?_eq_some_iff.1 hk;have a:kids.idxOf k=i:=by rw[<-c];exact hd.idxOf_getElem i d
 unfold addU addK;rw[List.take_add_one,hk];by_cases h:n=k
 ·subst h;have e:¬n=N:=by omega
  simp only[if_true,e,if_false,Option.toList_some,List.mem_append,List.mem_singleton,or_true,a];split<;>rfl
 by_cases b:n=N
 ·subst b;simp[h]
 simp only[h,b,if_false,Option.toList_some,List.mem_append,List.mem_singleton,or_false]
theorem q9w {P:Nat->Prop}{ka:Option Addr}{kc:Nat}{m:Lie} (hT:TW tb base T N N v vr S w) (o2:LieOK S T m N N w) (hK:∀w',AgX P w w'->IL ka (λk=>((kids.getD k 0:Nat):Int)) kids.length w') (hP:∀k,P k->k<w.heap.size/\k≠tb/\v.ownBlock≠some k) (htb:tb<base) (_hb:base<=w.heap.size)
  (BW:Below w.heap.size w W) (hO:w5.ownsRow base 118 5 (.slice (some ⟨g,0,none⟩) (N+1) cap) (N+1) (flatN N (ndL T m)++ndC (newN kind kids) (.slice none 0 0) ka kc)) (hg:W.grownBy w5 v.ownBlock) (hgb:v.ownBlock=some g\/g=W.heap.size):
  TW tb base (addK T N kind kids 0) (N+1) N (.slice (some ⟨g,0,none⟩) (N+1) cap) vr (λk=>S k\/P k) (w5.setCell ⟨tb,0,none⟩ (.slice (some ⟨g,0,none⟩) (N+1) cap))/\TF tb v (.slice (some ⟨g,0,none⟩) (N+1) cap) S S w (w5.setCell ⟨tb,0,none⟩ (.slice (some ⟨g,0,none⟩) (N+1) cap)):=by
 have J:=BW.size;have H:=hg.size;have z:=hT.c.lt;have F:=(hO.lt g rfl).1;have n:=hT.blk;obtain⟨r,f⟩:∃r,r=w5.setCell ⟨tb,0,none⟩ (.slice (some ⟨g,0,none⟩) (N+1) cap):=⟨_,rfl⟩;have j:∀k,k≠tb->r.heap[k]?=w5.heap[k]?:=λk a=>by rw[f];exact Below.heap_setCell w5 ⟨tb,0,none⟩ _ k (λe=>a e)
 have I:r.heap.size=w5.heap.size:=by rw[f,World.size_setCell]
 have b:∀k,k<w.heap.size->k≠tb->v.ownBlock≠some k->r.heap[k]?=w.heap[k]?:=λk t D E=>by
  rw[j k D,hg.block k (by omega) (λe=>E e.symm),BW.block k t]
 have c5:TC tb [v,vr] w5:=hT.c.block (by rw[hg.block tb (by omega) (λe=>by have:=(n tb e.symm).1;omega),BW.block tb z]);have d:∀i,i<N->addK T N kind kids 0 i=T i:=λi l=>by
  unfold addK;rw[if_neg (by omega),List.take_zero,if_neg (by simp)]
 have new:addK T N kind kids 0 N=newN kind kids:=by unfold addK;rw[if_pos rfl]
 rw[<-f];refine⟨⟨by rw[f];exact c5.set 0 (by simp) _,⟨⟨λi=>if i=N then .slice none 0 0 else m.vin i,λi=>if i=N then ka else m.ka i,λi=>if i=N then kc else m.kc i⟩,?_,?_⟩,λk a=>?_⟩,?_,b,λk a=>?_,λk a=>Or.inl a⟩
 ·have e:flatN (N+1) (ndL (addK T N kind kids 0) ⟨λi=>if i=N then .slice none 0 0 else m.vin i,λi=>if i=N then ka else m.ka i,λi=>if i=N then kc else m.kc i⟩)=flatN N (ndL T m)++ndC (newN kind kids) (.slice none 0 0) ka kc:=by
   rw[q2f];congr 1
   ·refine q2X (λi l=>?_);have y:¬i=N:=by omega
    simp only[ndL,d i l,y,if_false]
   simp only[ndL,new,if_true]
  rw[e];exact q0R hO (λk a=>j k (by cases a;show g≠tb;omega))
 ·refine⟨λi l=>?_,λi l w' u=>?_,λi l x A=>?_⟩
  ·by_cases e:i=N
   ·simp only[e,if_true];rfl
   simp only[e,if_false];exact o2.o i (by omega)
  ·by_cases e:i=N
   ·subst e;simp only[if_true,new];exact hK w' (λk a=>by rw[u k (Or.inr a)];exact b k (hP k a).1 (hP k a).2.1 (hP k a).2.2)
   simp only[e,if_false,d i (by omega)];exact o2.k i (by omega) w' (λk a=>by rw[u k (Or.inl a)];exact b k (hT.s k a).1 (hT.s k a).2.1 (hT.s k a).2.2)
  have e:¬i=N:=by omega
  rw[d i x]at A ⊢;obtain⟨K,L,C,e2⟩:=o2.i i x x A;refine⟨K,L,by simp only[e,if_false];exact C,λw' u=>e2 w' (λk a=>by rw[u k (Or.inl a)];exact b k (hT.s k a).1 (hT.s k a).2.1 (hT.s k a).2.2)⟩
 ·have t:k<w.heap.size/\k≠tb/\v.ownBlock≠some k:=by
   rcases a with h|h
   ·exact hT.s k h
   exact hP k h
  refine⟨by omega,t.2.1,λe=>?_⟩;have e':g=k:=Option.some.inj e;rcases hgb with h|h
  ·exact t.2.2 (e'▸h)
  omega
 ·have B:Below tb w w5:=(BW.mono (by omega)).grown hg (by omega) (λq G=>by have:=(n q G).1;omega);rw[f];exact B.setCell (p:=⟨tb,0,none⟩) (Nat.le_refl _) _
 cases a;rcases hgb with h|h
 ·exact Or.inl h
 exact Or.inr (by show w.heap.size<=g;omega)
theorem q6O (tb base:Nat) (T:Nat->Nd) (N:Nat) (v vr:Value) (S P:Nat->Prop) (kind:Nat) (vk:Value) (kids:List Nat) (w:World) (hT:TW tb base T N N v vr S w) (hK:KiL P vk kids w) (hP:∀k,P k->k<w.heap.size/\k≠tb/\v.ownBlock≠some k)
  (hk:∀k∈kids,k<N) (hd:kids.Nodup) (htb:tb<base) (hb:base<=w.heap.size) (hN:N<=1000000) (hl:kids.length<=1000):
  Calls Tryz.prog 148 #[.pointer (some ⟨tb,0,none⟩),.int .i64 kind,vk] w λe w'=>∃v',e=.returned (.int .i64 N)/\TW tb base (addN T N kind kids (λ_=>false)) (N+1) N v' vr (λk=>S k\/P k) w'/\TF tb v v' S S w w':=by
 have hz:=q1Z;obtain⟨A,B,rfl,y⟩:=hK;obtain⟨n,Z⟩:=nam kids.length;have X:=hyd Z;have G:=hyd y;have D:=hyd hP;obtain⟨m,M,o2⟩:=hT.o;have af:∃na nc,v=.slice na N nc:=by
  rcases M.2 with ⟨I,h2⟩|⟨g,cap,ai,I,_⟩
  ·exact⟨none,0,by rw[I,h2]⟩
  exact⟨_,_,I⟩
 obtain⟨na,nc,hv⟩:=af;have Hv:=hyd hv;have c0:=(hT.c 0 _ rfl).1;rw[hv]at c0;have ae:=hT.c.lt;have al:(n:Int)<=1000:=by omega
 rw[<-Z];obtain⟨W,Y⟩:=nam (w.alloc (.cells (ndC (newN kind kids) (.slice none 0 0) A B).toArray 118));have HW:=hyd Y;have C:Below w.heap.size w W:=by rw[Y];exact box_bel _ _
 have r:W.rangeAt w.heap.size 0 (ndC (newN kind kids) (.slice none 0 0) A B):=by rw[Y];exact(TC.boxed w _ _).range
 have oW:=q0R M (λk hk=>C.block k (M.lt k hk).2);have J:base<=W.heap.size:=by have:=C.size;omega
 have p:Hid (∀u∈ndC (newN kind kids) (.slice none 0 0) A B,u.oneCell'=true):=by
  show ∀u∈_,_;intro u hu;simp only[ndC,List.mem_cons,List.not_mem_nil,or_false]at hu;rcases hu with rfl|rfl|rfl|rfl|rfl<;>rfl
 have F:Hid (ndC (newN kind kids) (.slice none 0 0) A B=[.int .i64 kind,.slice none 0 0,.slice A n B,.int .i64 (-1),.int .i64 0]):=by show _=_;rw[Z];rfl
 have HK:Hid (∀w5,W.grownBy w5 v.ownBlock->TC tb [v,vr] w5):=λw5 hg=>hT.c.block (by rw[hg.block tb (by have:=C.size;omega) (λe=>by have:=(M.lt tb e.symm).1;omega),C.block tb ae])
 have HS:Hid (∀g cap w5,w5.ownsRow base 118 5 (.slice (some ⟨g,0,none⟩) (N+1) cap) (N+1) (flatN N (ndL T m)++ndC (newN kind kids) (.slice none 0 0) A B)->W.grownBy w5 v.ownBlock->(v.ownBlock=some g\/g=W.heap.size)->TW tb base (addK T N kind kids 0) (N+1) N (.slice (some ⟨g,0,none⟩) (N+1) cap) vr (λk=>S k\/P k) (w5.setCell ⟨tb,0,none⟩ (.slice (some ⟨g,0,none⟩) (N+1) cap))/\TF tb v (.slice (some ⟨g,0,none⟩) (N+1) cap) S S w (w5.setCell ⟨tb,0,none⟩ (.slice (some ⟨g,0,none⟩) (N+1) cap))):=
  λg cap w5 I h2 h3=>q9w hT o2 y hP htb hb C I h2 h3
 clear hv hT y hP M o2 Y Z;go_enter Tryz.func148,Tryz.ntmps148;go_wp2_with (first|(with_reducible show wpList _ _ _ (⟨_,Op.buildSlice 114 _ _,_,_,_,_⟩::_) _ _;refine Stop.out ?_));refine⟨?_⟩;refine q4k rfl _ rfl (ndC (newN kind kids) (.slice none 0 0) A B) rfl (by rw[F.out];rfl) ?_;rw[<-HW.out]
 (try simp only[psm])
 go_wp2_with (first|(at_builtin;refine q3b (by rfl) _ _ (by rfl) base v N _ (by rw[Hv.out];rfl) oW hN w.heap.size _ rfl p.out (by rfl) r J _ rfl ?_;intro g cap w5 t a K ac;have c5:=(HK.out w5 a 0 _ rfl).1;have aa:=(HK.out w5 a 0 _ rfl).2));obtain⟨R,O⟩:=HS.out g cap w5 t a K;have ak:=(t.lt g rfl).1;clear c5 aa t a HS HK r oW J HW C c0 p F ac K
 go_loopw [8] (λx w'=>∃i:Nat,i<=n/\x=.int .i64 i/\TW tb base (addK T N kind kids i) (N+1) N (.slice (some ⟨g,0,none⟩) (N+1) cap) vr (λk=>S k\/P k) w'/\TF tb v (.slice (some ⟨g,0,none⟩) (N+1) cap) S S w w') (λx _=>n-(intOf x).toNat)
 ·exact⟨0,by omega,rfl,R,O⟩
 clear R O;obtain⟨i,hi,rfl,E,tf⟩:=hrel;by_cases am:i<n
 ·have ah:(i:Int)<n:=by omega
  obtain⟨k,d⟩:∃k,kids[i]?=some k:=⟨kids[i]'(by have:=X.out;omega),List.getElem?_eq_getElem _⟩;have L:=hk k (List.mem_of_getElem? d);have ag:(k:Int)<N+1:=by omega
  obtain⟨kb,ko,ek,ck⟩:=G.out wr (λq z=>tf.k q (D.out q z).1 (D.out q z).2.1 (D.out q z).2.2) i (by have:=X.out;omega);simp only[List.getD_eq_getElem?_getD,d,Option.getD_some]at ck;have ab:=(E.c 0 _ rfl).1;obtain⟨d3,f3⟩:(∃u,wr.cell? ⟨g,k*5+3,none⟩=some (.int .i64 u))/\wr.frozen? ⟨g,k*5+3,none⟩=false:=by
   obtain⟨m',f,_⟩:=E.o;refine⟨⟨(addK T N kind kids i k).up,?_⟩,f.frozenAt _⟩;rw[f.cellAt _ (by omega),q2q (q2V _ _) k 3 (by omega) (by omega)];rfl
  obtain⟨u3,d3⟩:=d3;have h:=E.poke (T':=addU T N kind kids i k) htb k 3 (by omega) (by omega) (.int .i64 (N:Int)) (λm' j _=>by
   unfold addU ndL;by_cases e:j=k
   ·subst e;simp only[if_true];rfl
   simp only[e,if_false]) (λj _=>by unfold addU;split<;>exact⟨rfl,rfl,rfl⟩)
  have l:=tf.poke (show tb<=g by omega) (k*5+3) (.int .i64 (N:Int));obtain⟨V,h7⟩:=nam (wr.setCell ⟨g,k*5+3,none⟩ (.int .i64 (N:Int)));rw[<-h7]at h l;have s:=(G.out V (λq z=>l.k q (D.out q z).1 (D.out q z).2.1 (D.out q z).2.2)) i (by have:=X.out;omega);obtain⟨an,ao,H,s⟩:=s;simp only[List.getD_eq_getElem?_getD,d,Option.getD_some]at s;rw[ek]at H;cases H;subst ek;have aj:=(h.c 0 _ rfl).1;obtain⟨d4,f4⟩:(∃u,V.cell? ⟨g,k*5+4,none⟩=some (.int .i64 u))/\V.frozen? ⟨g,k*5+4,none⟩=false:=by
   obtain⟨m',f,_⟩:=h.o;refine⟨⟨(addU T N kind kids i k k).at_,?_⟩,f.frozenAt _⟩;rw[f.cellAt _ (by omega),q2q (q2V _ _) k 4 (by omega) (by omega)];rfl
  obtain⟨u4,d4⟩:=d4;have U:=h.poke (T':=addK T N kind kids (i+1)) htb k 4 (by omega) (by omega) (.int .i64 (i:Int)) (λm' j _=>by
   unfold ndL;rw[q7D hd d L];by_cases e:j=k
   ·subst e;simp only[if_true];rfl
   ·simp only[e,if_false]) (λj _=>by
   rw[q7D hd d L];split<;>exact⟨rfl,rfl,rfl⟩)
  have Q:=l.poke (show tb<=g by omega) (k*5+4) (.int .i64 (i:Int));have b:=hyd2 U Q;have H7:=hyd h7;clear E tf h l U Q h7;go_wp2_with fail;refine wp_region_still_tail 11 (by kernel_rfl) (by kernel_rfl) ?_;simp only[List.take_succ_cons,List.take_zero,List.drop_succ_cons,List.drop_zero];change wpStill _ _ wr.drew (λa'=>wpList _ _ _ _ a' wr.drew) _ _
  repeat still_step
  refine wpStill_nil ?_;go_wp2_with fail;rw[<-H7.out];clear ab ck d3 f3;refine wp_region_still_tail 11 (by kernel_rfl) (by kernel_rfl) ?_;simp only[List.take_succ_cons,List.take_zero,List.drop_succ_cons,List.drop_zero];change wpStill _ _ V.drew.drew (λa'=>wpList _ _ _ _ a' V.drew.drew) _ _
  repeat still_step
  refine wpStill_nil ?_;go_wp2_with fail;go_roundw
  ·exact⟨i+1,by omega,by go_num,b.out.1.below (Below.refl _ _).drew.drew,b.out.2.trans (TF.of _ _ (Nat.le_of_lt b.out.1.c.lt) (Below.refl _ _).drew.drew)⟩
  simp[intOf];omega
 have⟨hge,hin⟩:¬(i:Int)<n/\i=n:=by omega
 subst hin;go_wp2_with fail;go_ret;rw[X.out,y2d]at E;exact⟨rfl,_,E,tf⟩
def hsR (Ts:Nat->Nat->Nd) (ti nd:Nat->Nat) (p b:Nat):Bool:=(Ts (ti p) (nd p)).inn b
theorem y1f (gb P R:Nat) (tr:Nat->Nat) (Ts:Nat->Nat->Nd) (Ns ti nd:Nat->Nat) (b:Nat) (w:World) (hP:P<=1000000) (hR:R<=1000000) (hNs:∀r,r<R->Ns r<=1000000) (hG:GR gb P R tr Ts Ns ti nd w) (hb:b<256):
  Calls Tryz.prog 54 #[.pointer (some ⟨gb,0,none⟩),.int .i64 b] w λe w'=>e=.returned (.int .i64 (least (Kq (hsR Ts ti nd) P) b))/\Below w.heap.size w w':=by
 have g:Hid (∀(p c:Nat) (w':World),p<P->c<256->Below w.heap.size w w'->Calls Tryz.prog 116 #[.pointer (some ⟨gb,0,none⟩),.int .i64 p,.int .i64 c] w' λe w''=>e=.returned (.bool (hsR Ts ti nd p c))/\Below w'.heap.size w' w''):=λp c w' y k h=>q6N gb P R tr Ts Ns ti nd p c w' hP hR hNs (hG.below h) y k
 have l:Hid (∃a x,∀w',Below w.heap.size w w'->w'.cell? ⟨gb,1,none⟩=some (.slice a P x)):=by
  obtain⟨a,x,c,_⟩:=hG.p;exact⟨a,x,λw' h=>by rw[h.cell (p:=⟨gb,1,none⟩) (World.block_lt_of_cell? w _ c)];exact c⟩
 obtain⟨V,x1,o⟩:=l.out;have A:=hyd o;have N:(P:Int)<=1000000:=by omega
 have O:(b:Int)<256:=by omega
 obtain⟨hs,t⟩:=nam (hsR Ts ti nd);rw[<-t]at g ⊢;have I:=hyd (q3D hs P 256);clear l o hG hNs t;go_enter Tryz.func54,Tryz.ntmps54;go_wp2_with fail
 go_loopw [5] (λx w'=>∃a:Nat,a<=b/\x=.int .i64 a/\Hid (∀c,c<a->Kq hs P c b=false)/\Below w.heap.size w w') (λx _=>b-(intOf x).toNat)
 ·exact⟨0,by omega,rfl,λc K=>by omega,Below.refl _ _⟩
 obtain⟨a,ha,rfl,d,B⟩:=hrel;by_cases Q:a<b
 ·have L:(a:Int)<b:=by omega
  go_wp2_with fail
  go_loopw [6,7] (λs x w'=>∃(p:Nat) (S:Bool),p<=P/\x=.int .i64 p/\s=.bool S/\Hid (S=(List.range p).all λq=>hs q a==hs q b)/\Below w.heap.size w w') (λs x _=>P-(intOf x).toNat)
  ·exact⟨0,true,by omega,rfl,rfl,rfl,B⟩
  clear B;obtain⟨p,S,W,rfl,rfl,HS,B⟩:=hrel;have c1:=A.out wr B;by_cases u:p<P
  ·have M:(p:Int)<P:=by omega
   cases S
   ·-- parted: the loop ends
    have C:Hid (∀c,c<a+1->Kq hs P c b=false):=λc K=>by
     by_cases e:c=a
     ·subst e;cases hk:Kq hs P c b
      ·rfl
      have y:=(q2B hs P c b).1 hk;have k:(List.range p).all (λq=>hs q c==hs q b)=true:=by
       rw[List.all_eq_true];intro q T;rw[y q (by have:=List.mem_range.1 T;omega)];simp
      have J:=HS.out;rw[k]at J;cases J
     exact d.out c (by omega)
    clear d HS;go_wp2_with fail;go_roundw
    ·exact⟨a+1,by omega,by go_num,C,B⟩
    simp[intOf];omega
   have i:=hyd (g.out p a wr u (by omega) B);have j:Hid (∀w',Below w.heap.size w w'->Calls Tryz.prog 116 #[.pointer (some ⟨gb,0,none⟩),.int .i64 p,.int .i64 b] w' λe w''=>e=.returned (.bool (hs p b))/\Below w'.heap.size w' w''):=λw' h=>g.out p b w' u hb h
   have m:Hid ((hs p a==hs p b)=(List.range (p+1)).all λq=>hs q a==hs q b):=by
    show _=_;rw[List.range_succ,List.all_append,<-HS.out];simp
   obtain⟨X,E⟩:=nam (hs p a);obtain⟨Y,F⟩:=nam (hs p b);rw[<-E,<-F]at m;rw[<-E]at i;rw[<-F]at j;clear E F HS;go_wp2_with fail;refine i.out.mono ?_;rintro e U ⟨rfl,G⟩;have f:=B.trans (G.mono B.size);have n:=hyd (j.out U f);clear i j G c1;go_wp2_with fail;refine n.out.mono ?_;rintro e Z ⟨rfl,H⟩;have z:=f.trans (H.mono f.size);clear n H;cases X<;>cases Y<;>(go_wp2_with fail;go_roundw;(case rel=>exact⟨p+1,_,by omega,by go_num,rfl,m,z⟩);(case measure=>simp[intOf];omega))
  have⟨hge,hpP⟩:¬(p:Int)<P/\p=P:=by omega
  subst hpP;have v:Hid (Kq hs p a b=S):=by show _=_;rw[HS.out];rfl
  cases S
  ·have C:Hid (∀c,c<a+1->Kq hs p c b=false):=λc K=>by
    by_cases e:c=a
    ·subst e;exact v.out
    exact d.out c (by omega)
   clear d HS v;go_wp2_with fail;go_roundw
   ·exact⟨a+1,by omega,by go_num,C,B⟩
   simp[intOf];omega
  have D:Hid ((least (Kq hs p) b:Int)=a):=by
   show _=_;rw[least_eq v.out d.out (least_like I.out hb)]
  clear d HS v;go_wp2_with fail;go_ret;exact⟨q0l D.out.symm,B⟩
 have⟨hge,hab⟩:¬(a:Int)<b/\a=b:=by omega
 subst hab;have D:Hid ((least (Kq hs P) a:Int)=a):=by
  show _=_;have y:=least_le (Kq hs P) a;by_cases e:least (Kq hs P) a=a
  ·rw[e]
  have k:=d.out (least (Kq hs P) a) (by omega);rw[least_like I.out hb]at k;cases k
 clear d;go_wp2_with fail;go_ret;exact⟨q0l D.out.symm,B⟩
end Go.Proofs.YtoaaklhpmhjhkaaGreat
namespace Go.Proofs.YtoaaklhpmhjhkaaGreat
open Bm
namespace Rx
theorem fst_add:∀(e:Rx) (o p d:Nat),e.fst (o+d) (p+d)=e.fst o p
 |eps,_,_,_=>rfl
 |lit _,o,p,d=>by
  simp only[fst];by_cases h:p=o
  ·subst h;simp only[beq_self_eq_true]
  rw[show(p+d==o+d)=false from beq_eq_false_iff_ne.2 (by omega),show(p==o)=false from beq_eq_false_iff_ne.2 h]
 |cat a b,o,p,d=>by simp only[fst];rw[fst_add a,show o+d+a.sz=(o+a.sz)+d by omega,fst_add b]
 |alt a b,o,p,d=>by simp only[fst];rw[fst_add a,show o+d+a.sz=(o+a.sz)+d by omega,fst_add b]
 |star a,o,p,d=>fst_add a o p d
 |plus a,o,p,d=>fst_add a o p d
 |opt a,o,p,d=>fst_add a o p d
theorem lst_add:∀(e:Rx) (o p d:Nat),e.lst (o+d) (p+d)=e.lst o p
 |eps,_,_,_=>rfl
 |lit _,o,p,d=>by
  simp only[lst];by_cases h:p=o
  ·subst h;simp only[beq_self_eq_true]
  rw[show(p+d==o+d)=false from beq_eq_false_iff_ne.2 (by omega),show(p==o)=false from beq_eq_false_iff_ne.2 h]
 |cat a b,o,p,d=>by simp only[lst];rw[lst_add a,show o+d+a.sz=(o+a.sz)+d by omega,lst_add b]
 |alt a b,o,p,d=>by simp only[lst];rw[lst_add a,show o+d+a.sz=(o+a.sz)+d by omega,lst_add b]
 |star a,o,p,d=>lst_add a o p d
 |plus a,o,p,d=>lst_add a o p d
 |opt a,o,p,d=>lst_add a o p d
theorem fol_add:∀(e:Rx) (o p q d:Nat),e.fol (o+d) (p+d) (q+d)=e.fol o p q
 |eps,_,_,_,_=>rfl
 |lit _,_,_,_,_=>rfl
 |cat a b,o,p,q,d=>by simp only[fol];rw[fol_add a,show o+d+a.sz=(o+a.sz)+d by omega,fol_add b,lst_add,fst_add]
 |alt a b,o,p,q,d=>by simp only[fol];rw[fol_add a,show o+d+a.sz=(o+a.sz)+d by omega,fol_add b]
 |star a,o,p,q,d=>by simp only[fol];rw[fol_add a,lst_add,fst_add]
 |plus a,o,p,q,d=>by simp only[fol];rw[fol_add a,lst_add,fst_add]
 |opt a,o,p,q,d=>fol_add a o p q d
theorem has_add:∀(e:Rx) (o p c d:Nat),e.has (o+d) (p+d) c=e.has o p c
 |eps,_,_,_,_=>rfl
 |lit _,o,p,c,d=>by
  simp only[has];by_cases h:p=o
  ·subst h;simp only[beq_self_eq_true]
  rw[show(p+d==o+d)=false from beq_eq_false_iff_ne.2 (by omega),show(p==o)=false from beq_eq_false_iff_ne.2 h]
 |cat a b,o,p,c,d=>by simp only[has];rw[has_add a,show o+d+a.sz=(o+a.sz)+d by omega,has_add b]
 |alt a b,o,p,c,d=>by simp only[has];rw[has_add a,show o+d+a.sz=(o+a.sz)+d by omega,has_add b]
 |star a,o,p,c,d=>has_add a o p c d
 |plus a,o,p,c,d=>has_add a o p c d
 |opt a,o,p,c,d=>has_add a o p c d
end Rx
theorem y2Y (T:Nat->Nd):∀(N j:Nat),j<clN T N->∃m,m<N/\(T m).kind=0/\clN T m=j
 |0,j,h=>by simp[clN]at h
 |N+1,j,h=>by
  by_cases e:j<clN T N
  ·obtain⟨m,c,a,b⟩:=y2Y T N j e;exact⟨m,by omega,a,b⟩
  simp only[clN]at h;by_cases k:(T N).kind=0
  ·rw[if_pos k]at h;exact⟨N,by omega,k,by omega⟩
  rw[if_neg k]at h;omega
structure Gm (R:Nat) (Ts:Nat->Nat->Nd) (Ns:Nat->Nat) (es:Nat->Rx) (ti nd:Nat->Nat):Prop where
 t:∀r,r<R->Tre (Ts r) (Ns r)/\1<=Ns r/\Good (Ts r) (Ns r) 0 (Ns r-1) (es r)
 p:∀p,p<netN es R->ti p<R/\nd p<Ns (ti p)/\(Ts (ti p) (nd p)).kind=0/\p=netN es (ti p)+clN (Ts (ti p)) (nd p)
def jnR (T:Nat->Nd) (N:Nat) (ix:Nat->Nat) (h:Nat->Bool) (q:Nat):Bool:=(List.range N).any λm=>decide ((T m).kind=0)&&h m&&decide (q=ix m)
variable {l : List (Nat → Bool)}{t0 : List Int}{N P R b gb q s : Nat}{F : Nat → Bool}{to : Nat → Int}{Ns ix nd ti : Nat → Nat}{E : Nat → Nat → Bool}{T : Nat → Nd}{w w' : World}
theorem q1X {h:Nat->Bool}:jnR T N ix h q=true<->∃m,m<N/\(T m).kind=0/\h m=true/\q=ix m:=by
 unfold jnR;simp only[List.any_eq_true,List.mem_range,Bool.and_eq_true,decide_eq_true_eq];constructor
 ·rintro ⟨m,a,⟨b,c⟩,d⟩;exact⟨m,a,b,c,d⟩
 rintro ⟨m,a,b,c,d⟩;exact⟨m,a,⟨b,c⟩,d⟩
def emb (P q:Nat):Nat:=if q<P then q else 96+(q-P)
def ixR (es:Nat->Rx) (Ts:Nat->Nat->Nd) (r m:Nat):Nat:=netN es r+clN (Ts r) m
def bhS (T:Nat->Nd) (N:Nat) (ix:Nat->Nat) (P r n:Nat) (q:Nat):Bool:=jnR T N ix (λm=>bhT T N n (some m)) q || (decide (q=P+r)&&bhT T N n none)
def nxR (es:Nat->Rx) (Ts:Nat->Nat->Nd) (Ns ti nd:Nat->Nat) (P p q:Nat):Bool:=bhS (Ts (ti p)) (Ns (ti p)) (ixR es Ts (ti p)) P (ti p) (nd p) q
structure TreeIs (T:Nat->Nd) (N:Nat) (e:Rx):Prop where
 c:clN T N=e.sz
 n:nlT T (N-1)=e.nul
 f:∀m,(T m).kind=0->bgT T (N-1) m=e.fst 0 (clN T m)
 b:∀m x,m<N->(T m).kind=0->(T x).kind=0->bhT T N m (some x)=e.fol 0 (clN T m) (clN T x)
 b0:∀m,m<N->(T m).kind=0->bhT T N m none=e.lst 0 (clN T m)
 h:∀m b,m<N->(T m).kind=0->b<256->(T m).inn b=e.has 0 (clN T m) b
variable {e : Rx}
theorem q9e (ht:Tre T N) (hN:1<=N) (g:Good T N 0 (N-1) e):TreeIs T N e:=by
 obtain⟨k,rfl⟩:∃k,N=k+1:=⟨N-1,by omega⟩;simp only[Nat.add_sub_cancel]at g ⊢;obtain⟨j,l,n,h,o⟩:=y1g ht.w ht.u g;have p:=q2r ht.w ht.u;have d:(T k).up<0:=by
  have:=ht.u k (by omega);omega
 have i:∀q,bhT T (k+1) k q=(q==none):=λq=>p.bhR k q (by omega) d
 refine⟨j,by simpa using l,λm c=>by simpa using n m c,λm x c a s=>?_,λm c a=>?_,λm b c a r=>o m b (by omega) a r⟩
 ·rw[h m (some x) (by omega) a (λy f=>by cases f;exact s),i];simp
 rw[h m none (by omega) a (λy f=>by cases f),i];simp
variable {Ts : Nat → Nat → Nd}{es : Nat → Rx}
theorem Gm.tree (h:Gm R Ts Ns es ti nd) {r:Nat} (hr:r<R):TreeIs (Ts r) (Ns r) (es r):=by
 obtain⟨a,b,c⟩:=h.t r hr;exact q9e a b c
theorem Gm.ixlt (h:Gm R Ts Ns es ti nd) {r m:Nat} (hr:r<R) (hm:m<Ns r) (hk:(Ts r m).kind=0):netN es r<=ixR es Ts r m/\ixR es Ts r m<netN es (r+1):=by
 have a:=(h.tree hr).c;have:=q4S hk hm;unfold ixR;simp only[netN];omega
theorem q5v (h:Gm R Ts Ns es ti nd) {p b:Nat} (hp:p<netN es R) (hb:b<256):hsR Ts ti nd p b=netH es R p b:=by
 obtain⟨c,d,e,f⟩:=h.p p hp;have a:=h.ixlt c d e;unfold ixR at a;rw[<-f]at a;rw[y0q es R (ti p) p b c a.1 a.2];unfold hsR;rw[(h.tree c).h _ b d e hb];have:=Rx.has_add (es (ti p)) 0 (clN (Ts (ti p)) (nd p)) b (netN es (ti p));rw[Nat.zero_add,Nat.add_comm (clN _ _),<-f]at this;exact this.symm
theorem y0H (h:Gm R Ts Ns es ti nd) {p q:Nat} (hp:p<netN es R) (_hq:q<netN es R+R) (hP:netN es R<=96):nxR es Ts Ns ti nd (netN es R) p q=netB es R p (emb (netN es R) q):=by
 obtain⟨d,f,g,i⟩:=h.p p hp;obtain⟨r,C⟩:=nam (ti p);obtain⟨n,B⟩:∃n,n=nd p:=⟨_,rfl⟩;unfold nxR;rw[<-C]at d f g i ⊢;rw[<-B]at f g i ⊢;have o:=h.ixlt d f g;unfold ixR at o;rw[<-i]at o;have l:=h.tree d;have D:netN es (r+1)<=netN es R:=q0M es d;rw[q4E es R r p _ d o.1 o.2];have a:∀y,(es r).fol (netN es r) p (y+netN es r)=(es r).fol 0 (clN (Ts r) n) y:=λy=>by
  have:=Rx.fol_add (es r) 0 (clN (Ts r) n) y (netN es r);rw[Nat.zero_add,Nat.add_comm (clN _ _),<-i]at this;exact this
 have j:(es r).lst (netN es r) p=(es r).lst 0 (clN (Ts r) n):=by
  have:=Rx.lst_add (es r) 0 (clN (Ts r) n) (netN es r);rw[Nat.zero_add,Nat.add_comm (clN _ _),<-i]at this;exact this
 have w:netN es (r+1)=netN es r+(es r).sz:=rfl;unfold bhS emb;by_cases k:q<netN es R
 ·rw[if_pos k,show decide (q=netN es R+r)=false by simp;omega,show decide (q=96+r)=false by simp;omega];simp only[Bool.false_and,Bool.or_false];rw[Bool.eq_iff_iff,q1X];constructor
  ·rintro ⟨m,s,m2,t,u⟩;rw[l.b n m f g m2]at t;have:=a (clN (Ts r) m);unfold ixR at u;rw[u,Nat.add_comm (netN es r),this];exact t
  intro v;obtain⟨F,G,z,H⟩:=Rx.fol_rng _ _ _ _ v;obtain⟨m,s,m2,t⟩:=y2Y (Ts r) (Ns r) (q-netN es r) (by rw[l.c];omega);refine⟨m,s,m2,?_,by unfold ixR;omega⟩;rw[l.b n m f g m2,t,<-a (q-netN es r),Nat.sub_add_cancel z];exact v
 rw[if_neg k];have E:jnR (Ts r) (Ns r) (ixR es Ts r) (λm=>bhT (Ts r) (Ns r) n (some m)) q=false:=by
  rw[Bool.eq_false_iff];intro A;obtain⟨m,s,m2,_,u⟩:=q1X.1 A;have:=(h.ixlt d s m2).2;omega
 have x:(es r).fol (netN es r) p (96+(q-netN es R))=false:=Rx.fol_lt (by omega);rw[E,x,l.b0 n f g,j,Bool.false_or,Bool.false_or];congr 1;by_cases e:q=netN es R+r
 ·simp[e]
 rw[show decide (q=netN es R+r)=false by simp[e],show decide (96+(q-netN es R)=96+r)=false by simp;omega]
def atS (es:Nat->Rx) (Ts:Nat->Nat->Nd) (Ns:Nat->Nat) (P R q:Nat):Bool:=(List.range R).any λr=>jnR (Ts r) (Ns r) (ixR es Ts r) (bgT (Ts r) (Ns r-1)) q || (decide (q=P+r)&&nlT (Ts r) (Ns r-1))
theorem y3L (h:Gm R Ts Ns es ti nd) {q:Nat} (_hq:q<netN es R+R) (hP:netN es R<=96):atS es Ts Ns (netN es R) R q=netF es R (emb (netN es R) q):=by
 have b:∀r y,(es r).fst (netN es r) (y+netN es r)=(es r).fst 0 y:=λr y=>by
  have:=Rx.fst_add (es r) 0 y (netN es r);rw[Nat.zero_add]at this;exact this
 unfold emb;rw[Bool.eq_iff_iff];unfold atS;simp only[List.any_eq_true,List.mem_range,Bool.or_eq_true,Bool.and_eq_true,decide_eq_true_eq];by_cases d:q<netN es R
 ·rw[if_pos d,q2G es R q (by omega)];constructor
  ·rintro ⟨r,a,j|⟨p,_⟩⟩
   ·obtain⟨m,i,m2,e,k⟩:=q1X.1 j;rw[(h.tree a).f m m2]at e;refine⟨r,a,?_⟩;unfold ixR at k;rw[k,Nat.add_comm,b];exact e
   omega
  rintro ⟨r,a,l⟩;obtain⟨o,s⟩:=Rx.fst_rng _ _ _ l;obtain⟨m,i,m2,e⟩:=y2Y (Ts r) (Ns r) (q-netN es r) (by rw[(h.tree a).c];omega);refine⟨r,a,Or.inl (q1X.2 ⟨m,i,m2,?_,by unfold ixR;omega⟩)⟩;rw[(h.tree a).f m m2,e,<-b,Nat.sub_add_cancel o];exact l
 rw[if_neg d,q4D];simp only[Bool.and_eq_true,decide_eq_true_eq];constructor
 ·rintro ⟨r,a,j|⟨p,g⟩⟩
  ·obtain⟨m,i,m2,e,k⟩:=q1X.1 j;have:=(h.ixlt a i m2).2;have:=q0M es (show r+1<=R from a);omega
  rw[(h.tree a).n]at g;have:q-netN es R=r:=by omega
  rw[this];exact⟨a,g⟩
 rintro ⟨a,g⟩;exact⟨q-netN es R,a,Or.inr ⟨by omega,by rw[(h.tree a).n];exact g⟩⟩
def Sup (P R:Nat) (g:Nat->Bool):Prop:=∀q,q<104->g q=true->q<P\/(96<=q/\q<96+R)
def em (P:Nat) (g:Nat->Bool) (q:Nat):Bool:=g (emb P q)
theorem q8X (g:Nat->Bool) {q:Nat} (h:q<P):em P g q=g q:=by unfold em emb;rw[if_pos h]
theorem q8r (P:Nat) (g:Nat->Bool) (r:Nat):em P g (P+r)=g (96+r):=by unfold em emb;rw[if_neg (by omega)];congr 1;omega
theorem y2U {g h:Nat->Bool} (hP:P<=96) (hR:R<=8) (hg:Sup P R g) (hh:Sup P R h):(∀q,q<P+R->em P g q=em P h q)<->sameB g h 104=true:=by
 rw[q1x];constructor
 ·intro e q c;by_cases d:q<P
  ·have:=e q (by omega)
   rwa [q8X g d,q8X h d]at this
  by_cases f:96<=q/\q<96+R
  ·have:=e (P+(q-96)) (by omega);rw[q8r,q8r,show 96+(q-96)=q by omega]at this;exact this
  cases a:g q
  ·cases b:h q
   ·rfl
   have:=hh q c b;omega
  have:=hg q c a;omega
 intro e q c;unfold em emb;split
 ·exact e q (by omega)
 exact e _ (by omega)
theorem q4f {g h:Nat->Bool} (hP:P<=96) (hR:R<=8) (hg:Sup P R g) (hh:Sup P R h):keyS (em P g) (P+R)=keyS (em P h) (P+R)<->sameB g h 104=true:=by
 rw[y1D];exact y2U hP hR hg hh
theorem q5O (P R:Nat):Sup P R noB:=λq _ h=>by cases h
theorem q9S (es:Nat->Rx) (R:Nat) (_hP:netN es R<=96):Sup (netN es R) R (netF es R):=λq g h=>by
 by_cases a:q<96
 ·obtain⟨k,d,c⟩:=(q2G es R q a).1 h;have f:=(Rx.fst_rng _ _ _ c).2;have b:=q0M es (show k+1<=R from d);simp only[netN]at b;exact Or.inl (by omega)
 have e:=q4D es R (q-96);rw[show 96+(q-96)=q by omega,h]at e;have:q-96<R:=by
  have:=e.symm;simp only[Bool.and_eq_true,decide_eq_true_eq]at this;exact this.1
 exact Or.inr (by omega)
theorem y1h (es:Nat->Rx) (R:Nat) (_hP:netN es R<=96) (f:Nat->Bool) (b:Nat):Sup (netN es R) R (aftN es R f b):=λq n h=>by
 unfold aftN aftTo at h;obtain⟨p,i,d⟩:=List.any_eq_true.1 h;have c:=List.mem_range.1 i;simp only[Bool.and_eq_true]at d;obtain⟨k,e,j,l⟩:=q8G es R p c;have a:=d.2;rw[q4E es R k p q e j l]at a;simp only[Bool.or_eq_true,Bool.and_eq_true,decide_eq_true_eq]at a;rcases a with a|⟨a,_⟩
 ·have m:=(Rx.fol_rng _ _ _ _ a).2.2.2;have g:=q0M es (show k+1<=R from e);simp only[netN]at g;exact Or.inl (by omega)
 exact Or.inr (by omega)
theorem y2V (h:Gm R Ts Ns es ti nd) (hP:netN es R<=96) (g:Nat->Bool) {b q:Nat} (hb:b<256) (hq:q<netN es R+R):
  aftTo (hsR Ts ti nd) (nxR es Ts Ns ti nd (netN es R)) (em (netN es R) g) b (netN es R) q=em (netN es R) (aftN es R g b) q:=by
 unfold em aftN aftTo;rw[Bool.eq_iff_iff];simp only[List.any_eq_true,List.mem_range];constructor
 ·rintro ⟨p,a,c⟩;refine⟨p,a,?_⟩;rw[q5v h a hb,y0H h a hq hP]at c;rw[show emb (netN es R) p=p by unfold emb;rw[if_pos a]]at c;exact c
 rintro ⟨p,a,c⟩;refine⟨p,a,?_⟩;rw[q5v h a hb,y0H h a hq hP,show emb (netN es R) p=p by unfold emb;rw[if_pos a]];exact c
theorem q9P (h:Gm R Ts Ns es ti nd) {b:Nat} (hb:b<256):least (Kq (hsR Ts ti nd) (netN es R)) b=least (Kq (netH es R) (netN es R)) b:=by
 refine least_congr (n:=256) (q3D _ _ _) (q3D _ _ _) (λa c ha f=>?_) hb;rw[q2B,q2B];constructor
 ·intro e p d;rw[<-q5v h d ha,<-q5v h d f];exact e p d
 intro e p d;rw[q5v h d ha,q5v h d f];exact e p d
theorem q5J {f:Nat->Bool}:∀(u d r:Nat),(∀x,r+u<=x->x<r+u+d->f x=false)->vdF f (u+d) r=vdF f u r
 |0,0,r,_=>rfl
 |0,d+1,r,h=>by
  have:=q5J 0 d (r+1) (λx a b=>h x (by omega) (by omega));rw[Nat.zero_add]at this ⊢;show(if f r then (r:Int) else vdF f d (r+1))=-1;rw[h r (by omega) (by omega),if_neg (by simp),this];rfl
 |u+1,d,r,h=>by
  rw[show u+1+d=(u+d)+1 by omega,vdF,vdF];split
  ·rfl
  exact q5J u d (r+1) (λx a b=>h x (by omega) (by omega))
theorem y2r {g:Nat->Bool} (hP:P<=96) (hR:R<=8) (hg:Sup P R g):vdF (fun r=>em P g (P+r)) R 0=vdF (fun r=>g (96+r)) 8 0:=by
 have e:=funext (fun r=>q8r P g r);rw[e];obtain⟨d,hd⟩:∃d,8=R+d:=⟨8-R,by omega⟩;rw[hd]
 symm
 refine q5J R d 0 (fun x h1 h2=>?_);cases a:g (96+x)
 ·rfl
 ·have:=hg (96+x) (by omega) a;omega
theorem y1R {g:Nat->Bool} (hP:P<=96) (hR:R<=8) (hg:Sup P R g) (hl:∀h∈l,Sup P R h) (hne:sameB g noB 104=false):
  (numR l g<l.length/\fndN (λi=>keyS (em P (l.getD i noB)) (P+R)) (keyS (em P g) (P+R)) l.length=numR l g/\numL l g=l)\/(numR l g=l.length/\fndN (λi=>keyS (em P (l.getD i noB)) (P+R)) (keyS (em P g) (P+R)) l.length=-1/\numL l g=l++[g]):=by
 have m:∀(i:Nat) (h:Nat->Bool),l[i]?=some h->(keyS (em P (l.getD i noB)) (P+R)=keyS (em P g) (P+R)<->sameB h g 104=true):=λi h n=>by
  rw[List.getD_eq_getElem?_getD,n,Option.getD_some];exact q4f hP hR (hl h (List.mem_of_getElem? n)) hg
 unfold numR numL;rw[if_neg (by rw[hne];simp),if_neg (by rw[hne];simp)];by_cases b:l.findIdx (λh=>sameB h g 104)<l.length
 ·rw[if_pos b];refine Or.inl ⟨by omega,?_,rfl⟩;have d:=List.findIdx_getElem (w:=b) (xs:=l) (p:=λh=>sameB h g 104);refine q8R b ((m _ _ (List.getElem?_eq_getElem b)).2 d) (λj c e=>?_);have k:j<l.length:=by omega
  have f:=(m j _ (List.getElem?_eq_getElem k)).1 e;have a:=List.not_of_lt_findIdx c;rw[f]at a;exact absurd a (by simp)
 rw[if_neg b];have d:l.findIdx (λh=>sameB h g 104)=l.length:=by
  have:=List.findIdx_le_length (xs:=l) (p:=λh=>sameB h g 104);omega
 refine Or.inr ⟨by omega,q7r (λj c e=>?_),rfl⟩;have f:=(m j _ (List.getElem?_eq_getElem c)).1 e;have a:=List.findIdx_eq_length.1 d _ (List.getElem_mem c);rw[f]at a;cases a
def Ov (A:(Nat->Bool)->Nat->Nat->Bool) (F:Nat->Bool) (ls:List Nat):Prop:=∃s k l t f b,Exp A F ls s k l t/\l[s]?=some f/\ls[k]?=some b/\200<=numR l (A f b)
def Gh (A:(Nat->Bool)->Nat->Nat->Bool) (F:Nat->Bool) (E:Nat->Nat->Bool) (s:Nat) (t0:List Int) (b:Nat) (l:List (Nat->Bool)) (to:Nat->Int):Prop:=
 (∃t,Exp A F (reps E 256) s (cnt E b) l t/\(∃u,t=t0++u)/\∀c,c<b->to c=t.getD (s*(reps E 256).length+idx E c) (-1))\/(200<l.length/\Ov A F (reps E 256))
theorem Gh.first {A:(Nat->Bool)->Nat->Nat->Bool}{t:List Int} (h:Exp A F (reps E 256) s 0 l t) (to:Nat->Int):Gh A F E s t 0 l to:=
 Or.inl ⟨t,h,⟨[],by simp⟩,λc a=>by omega⟩
theorem Gh.copy {A:(Nat->Bool)->Nat->Nat->Bool} (hE:Eqv E 256) (h:Gh A F E s t0 b l to) (hb:b<256) (hl:least E b<b):Gh A F E s t0 (b+1) l (λc=>if c=b then to (least E b) else to c):=by
 rcases h with ⟨t,d,f,a⟩|h
 ·refine Or.inl ⟨t,by rw[cnt_succ,if_neg (by omega),Nat.add_zero];exact d,f,λc i=>?_⟩;by_cases e:c=b
  ·subst e;simp only[if_true];rw[a _ hl];congr 2;have g:=least_idem hE hb;rw[idx_rep g];rfl
  simp only[e,if_false];exact a c (by omega)
 exact Or.inr h
theorem Gh.step {A:(Nat->Bool)->Nat->Nat->Bool}{g:Nat->Bool} (hE:Eqv E 256) (h:Gh A F E s t0 b l to) (hb:b<256) (hl:least E b=b) (hg:l[s]?=some g):Gh A F E s t0 (b+1) (numL l (A g b)) (λc=>if c=b then numR l (A g b) else to c):=by
 rcases h with ⟨t,a,⟨u,d⟩,j⟩|⟨a,d⟩
 ·have i:=reps_get E 256 b hb hl;have f:=a.size;by_cases o:numR l (A g b)<200
  ·refine Or.inl ⟨t++[numR l (A g b)],by rw[cnt_succ,if_pos hl];exact a.kind hg i o,⟨u++[numR l (A g b)],by rw[d,List.append_assoc]⟩,λc p=>?_⟩;by_cases e:c=b
   ·subst e;simp only[if_true];rw[idx_rep hl,<-f.2.2.1];simp[List.getD_eq_getElem?_getD]
   simp only[e,if_false];rw[j c (by omega)];have k:idx E c<cnt E b:=by
    have m:=least_le E c;exact cnt_lt (least_idem hE (by omega)) (by omega)
   simp only[List.getD_eq_getElem?_getD];rw[List.getElem?_append_left (by omega)]
  refine Or.inr ⟨?_,s,_,l,t,g,b,a,hg,i,by omega⟩;have n:=q6h l (A g b);omega
 refine Or.inr ⟨?_,d⟩;rcases q2F l (A g b)with h|h
 ·omega
 omega
theorem Gh.last {A:(Nat->Bool)->Nat->Nat->Bool} (h:Gh A F E s t0 256 l to) (hs:s<l.length):(200<l.length/\Ov A F (reps E 256))\/(l.length<=200/\∃t,Exp A F (reps E 256) (s+1) 0 l t/\(∃u,t=t0++u)/\∀c,c<256->to c=t.getD (s*(reps E 256).length+idx E c) (-1)):=by
 rcases h with ⟨t,a,b,d⟩|h
 ·have e:cnt E 256=(reps E 256).length:=rfl;rw[e]at a;exact Or.inr ⟨a.size.2.1,t,Exp.set a hs,b,d⟩
 exact Or.inl h
open Go.RowKit
def NX (gb P R:Nat) (nx:Nat->Nat->Bool) (w:World):Prop:=∃a c,w.cell? ⟨gb,4,none⟩=some (.slice a P c)/\∀p,p<P->∃nb o ra rc,a=some ⟨nb,o,none⟩/\w.cell? ⟨nb,o+p,none⟩=some (.slice ra (P+R) rc)/\BR ra (nx p) (P+R) w
theorem NX.below {nx:Nat->Nat->Bool} (h:NX gb P R nx w) (hW:Below w.heap.size w w'):NX gb P R nx w':=by
 obtain⟨a,c,b,h⟩:=h;refine⟨a,c,by rw[hW.cell (p:=⟨gb,4,none⟩) (World.block_lt_of_cell? w _ b)];exact b,λp f=>?_⟩;obtain⟨nb,o,ra,g,e,c1,d⟩:=h p f;exact⟨nb,o,ra,g,e,by rw[hW.cell (p:=⟨nb,o+p,none⟩) (World.block_lt_of_cell? w _ c1)];exact c1,d.below hW⟩
theorem y0I (gb P R:Nat) (tr:Nat->Nat) (Ts:Nat->Nat->Nd) (Ns ti nd:Nat->Nat) (nx:Nat->Nat->Bool) (sa:Option Addr) (sc:Nat) (f:Nat->Bool) (b:Nat) (w:World) (hP:P<=1000) (hR:R<=1000) (hNs:∀r,r<R->Ns r<=1000000) (hG:GR gb P R tr Ts Ns ti nd w) (hX:NX gb P R nx w) (hS:BR sa f (P+R) w) (hb:b<256):
  Calls Tryz.prog 58 #[.pointer (some ⟨gb,0,none⟩),.slice sa (P+R) sc,.int .i64 b] w λe w'=>e=.returned (.slice (some ⟨w.heap.size,0,none⟩) (P+R) (P+R))/\TC w.heap.size (bl (aftTo (hsR Ts ti nd) nx f b P) (P+R)) w'/\Below w.heap.size w w'/\w.heap.size+1<=w'.heap.size:=by
 have s:=hyd (q3s gb P R w hP hR hG.gl);have t:Hid (∀(p:Nat) (w':World),p<P->Below w.heap.size w w'->Calls Tryz.prog 116 #[.pointer (some ⟨gb,0,none⟩),.int .i64 p,.int .i64 b] w' λe w''=>e=.returned (.bool (hsR Ts ti nd p b))/\Below w'.heap.size w' w''):=λp w' h1 h=>q6N gb P R tr Ts Ns ti nd p b w' (by omega) (by omega) hNs (hG.below h) h1 hb
 obtain⟨a1,x1,A⟩:∃a x,∀w',Below w.heap.size w w'->w'.cell? ⟨gb,1,none⟩=some (.slice a P x):=by
  obtain⟨a,x,c,_⟩:=hG.p;exact⟨a,x,λw' h=>by rw[h.cell (p:=⟨gb,1,none⟩) (World.block_lt_of_cell? w _ c)];exact c⟩
 have J:=hyd A;have L:Hid (∀w',Below w.heap.size w w'->BR sa f (P+R) w'):=λw' h=>hS.below h
 obtain⟨V,nc,l,j⟩:=hX;have I:Hid (∀w',Below w.heap.size w w'->w'.cell? ⟨gb,4,none⟩=some (.slice V P nc)):=λw' h=>by rw[h.cell (p:=⟨gb,4,none⟩) (World.block_lt_of_cell? w _ l)];exact l
 have K:Hid (∀p,p<P->∃nb o ra G,V=some ⟨nb,o,none⟩/\∀w',Below w.heap.size w w'->w'.cell? ⟨nb,o+p,none⟩=some (.slice ra (P+R) G)/\BR ra (nx p) (P+R) w'/\∀k W,ra=some ⟨k,W,none⟩->k≠w.heap.size):=λp U=>by
  obtain⟨nb,o,ra,G,e,c1,y⟩:=j p U;refine⟨nb,o,ra,G,e,λw' h=>⟨by rw[h.cell (p:=⟨nb,o+p,none⟩) (World.block_lt_of_cell? w _ c1)];exact c1,y.below h,λk W ek=>?_⟩⟩;obtain⟨k2,o2,e2,c2⟩:=y 0 (by omega);have:=World.block_lt_of_cell? w _ c2;rw[ek]at e2;cases e2;simp only at this;omega
 have aa:(P:Int)<=1000:=by omega
 obtain⟨hs,C⟩:=nam (hsR Ts ti nd);rw[<-C]at t ⊢;clear A hG hNs C hS j l;go_enter Tryz.func58,Tryz.ntmps58;go_wp2_with fail;refine s.out.mono ?_;rintro e w1 ⟨rfl,S,N,X⟩;clear s;go_wp2_with fail
 go_loopw [8] (λx w'=>∃p:Nat,p<=P/\x=.int .i64 p/\TC w.heap.size (bl (aftTo hs nx f b p) (P+R)) w'/\Below w.heap.size w w'/\w.heap.size+1<=w'.heap.size) (λx _=>P-(intOf x).toNat)
 ·exact⟨0,by omega,rfl,by rw[q0o (g:=λ_=>false) (λi _=>by simp[aftTo])];exact S,N,X⟩
 clear S N X;obtain⟨p,U,rfl,T,B,sz⟩:=hrel;have c1:=J.out wr B;by_cases E:p<P
 ·have⟨hpl',hpl2⟩:(p:Int)<P/\(p:Int)<P+(R:Int):=by omega
  have u:=hyd (t.out p wr E B);have O:=hyd T;clear T;go_wp2_with fail;refine u.out.mono ?_;rintro e n ⟨rfl,H⟩;have d:=B.trans (H.mono B.size);have v:=O.out.block (H.block _ (by omega));have Y:w.heap.size+1<=n.heap.size:=by have:=H.size;omega
  obtain⟨sb,so,es,cs⟩:=L.out n d p (by omega);subst es;have q:Hid ((f p&&hs p b)=false->TC w.heap.size (bl (aftTo hs nx f b (p+1)) (P+R)) n):=λh=>by
   rw[q0o (g:=aftTo hs nx f b p) (λi _=>by rw[q3R,h];simp)];exact v
  clear c1 u O B H;cases hf:f p
  ·rw[hf]at cs;have m:=q.out (by rw[hf];rfl);clear q v;cases hh:hs p b<;>(go_wp2_with fail;go_roundw;(case rel=>exact⟨p+1,by omega,by go_num,m,d,Y⟩);(case measure=>simp[intOf];omega))
  rw[hf]at cs;cases hh:hs p b
  ·have m:=q.out (by rw[hf,hh];rfl);clear q v;go_wp2_with fail;go_roundw
   ·exact⟨p+1,by omega,by go_num,m,d,Y⟩
   simp[intOf];omega
  clear q;obtain⟨nb,o,ra,G,en,F⟩:=K.out p E;subst en;obtain⟨cn,y,D⟩:=F n d;have c4:=I.out n d;have Q:=hyd (q9O w.heap.size (P+R) (P+R) (aftTo hs nx f b p) ra (P+R) G (nx p) n (by omega) v (Nat.le_refl _) y D);have M:Hid (∀i,aftTo hs nx f b (p+1) i=(aftTo hs nx f b p i || nx p i)):=λi=>by rw[q3R,hf,hh];simp
  clear v y D F;go_wp2_with fail;refine Q.out.mono ?_;rintro e Z ⟨rfl,m,_,z4,z⟩;have T5:TC w.heap.size (bl (aftTo hs nx f b (p+1)) (P+R)) Z:=by
   rw[q0o (g:=λi=>aftTo hs nx f b p i || nx p i) (λi _=>M.out i)];exact m
  have B5:=z w.heap.size w (Nat.le_refl _) d;have s5:w.heap.size+1<=Z.heap.size:=by omega
  clear m z Q z4 cn c4 cs;go_wp2_with fail;go_roundw
  ·exact⟨p+1,by omega,by go_num,T5,B5,s5⟩
  simp[intOf];omega
 have⟨hge,hpP⟩:¬(p:Int)<P/\p=P:=by omega
 subst hpP;go_wp2_with fail;go_ret;exact⟨rfl,T,B,sz⟩
end Go.Proofs.YtoaaklhpmhjhkaaGreat
