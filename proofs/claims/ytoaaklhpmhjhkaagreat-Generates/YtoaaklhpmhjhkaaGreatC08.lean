import Derived.ChangeKeysEq
import Derived.Laws.StructEq
import Derived.Test.YtoaaklhpmhjhkaaGreatC07
set_option maxRecDepth 100000
set_option maxHeartbeats 4000000
set_option linter.all false
namespace Go.Proofs.YtoaaklhpmhjhkaaGreat
open Go.RowKit
open Bm
def Yu (f g:Nat->Bool) (n:Nat):Bool:=(List.range n).all λi=>f i==g i
theorem WA (f g:N_) (n:Nat):Yu f g n=true<->∀i,i<n->f i=g i:=by simp[Yu]
theorem QP (d n:Nat) (f g:N_) (w:World):∀is:List Nat,(∀i∈is,i<n)->(Op.eqItems (d+1) 4 1 (bl f n).toArray (bl g n).toArray is).run Tryz.prog w=.ok (is.all λi=>f i==g i) w
 |[],_=>by simp[Op.eqItems]
 |i::is,h=>by
  have a:=h i (by simp);have c:(part 4 (bl f n).toArray (i*1)).run Tryz.prog w=.ok (.bool (f i)) w:=run_part_plain w (by kernel_rfl) (by rw[Nat.mul_one];simpa using YO f a);have e:(part 4 (bl g n).toArray (i*1)).run Tryz.prog w=.ok (.bool (g i)) w:=run_part_plain w (by kernel_rfl) (by rw[Nat.mul_one];simpa using YO g a);have ih:=QP d n f g w is (λj b=>h j (by simp[b]));simp only[Op.eqItems,Sem.run_bind,c,e,Zu,run_equalIn_bool' w d 4 (f i) (g i) Tryz.underlying4];cases hfg:(f i==g i)
  ·simp[hfg]
  simp[hfg,ih]
theorem IJ:Tryz.prog.cellsOf 4=1:=by kernel_rfl
theorem JY (d n:Nat) (t:TypeId) (y:Tryz.prog.underlying t=some (.array n 4)) (f g:N_) (w:World):(Op.equalIn (d+2) t (.agg (bl f n).toArray) (.agg (bl g n).toArray)).run Tryz.prog w=.ok (Yu f g n) w:=by
 obtain⟨i,a,_⟩:=Qh;rw[run_equalIn_array w (d+1) _ _ y a,IJ];exact QP d n f g w (List.range n) (λi a=>by simpa using a)
theorem Ny (f:N_) (n o m:Nat) (h:o+m<=n):(bl f n).toArray.extract o (o+m)=(bl (λi=>f (o+i)) m).toArray:=by
 apply Array.ext';simp only[Array.toList_extract,List.extract_eq_take_drop];refine List.ext_getElem? (λj=>?_);rcases ZD j m with a|a
 ·rw[List.getElem?_take_of_lt (by omega),List.getElem?_drop,YO _ a];exact YO f (by omega)
 rw[ZB (by rw[List.length_take];omega),ZB (by rw[Y9];omega)]
theorem Ja (f:N_) (w:World):(part 132 (bl f 104).toArray 0).run Tryz.prog w=.ok (.agg (bl f 96).toArray) w:=by
 have h:=Ny f 104 0 96 (by omega);have e:(bl (λi=>f (0+i)) 96)=bl f 96:=YU (λi _=>by rw[Zn]);rw[e]at h;have hs:(sizeOf 132).run Tryz.prog w=.ok 96 w:=by kernel_rfl
 have ha:(isAgg 132).run Tryz.prog w=.ok true w:=by kernel_rfl
 simp only[part,Sem.run_bind,ha,Zu,if_true,hs,Sem.run_pure,h]
theorem Jb (f:N_) (w:World):(part 133 (bl f 104).toArray 96).run Tryz.prog w=.ok (.agg (bl (λi=>f (96+i)) 8).toArray) w:=by
 have h:=Ny f 104 96 8 (by omega);have hs:(sizeOf 133).run Tryz.prog w=.ok 8 w:=by kernel_rfl
 have ha:(isAgg 133).run Tryz.prog w=.ok true w:=by kernel_rfl
 simp only[part,Sem.run_bind,ha,Zu,if_true,hs,Sem.run_pure,h]
theorem Kz : (Tryz.prog.fieldsOf 135).toList = [{ name := "Places", type := 132, offset := 0, embedded := false, tag := "", pkgPath := "", byteOffset := 0 }, { name := "Rules", type := 133, offset := 96, embedded := false, tag := "", pkgPath := "", byteOffset := 96 }] := by kernel_rfl
theorem DA (f g:N_) (w:World):(binOp .eql 135 (.agg (bl f 104).toArray) (.agg (bl g 104).toArray)).run Tryz.prog w=.ok (.bool (Yu f g 104)) w:=by
 rw[run_eql_struct,show(10000:Nat)=9999+1 from rfl,run_equalIn_agg w 9999 135 _ _ (by kernel_rfl) (by kernel_rfl),Kz];have hs:Yu f g 104=(Yu f g 96&&Yu (λi=>f (96+i)) (λi=>g (96+i)) 8):=by
  rw[Bool.eq_iff_iff,ZS,WA,WA,WA];constructor
  ·exact λh=>⟨λi a=>h i (by omega),λi a=>h (96+i) (by omega)⟩
  intro ⟨h1,h2⟩ i a;rcases ZD i 96 with h|h
  ·exact h1 i h
  have:=h2 (i-96) (by omega)
  rwa [show 96+(i-96)=i by omega]at this
 have b:=JY 9997 96 132 u_a f g w;have c:=JY 9997 8 133 Tryz.underlying133 (λi=>f (96+i)) (λi=>g (96+i)) w;simp only[Op.eqFields,Sem.run_bind,Sem.run_ite];rw[if_pos (by decide)];simp only[Ja,Zu];rw[b];simp only[Zu];rw[hs];cases h1:Yu f g 96
 ·simp
 simp only[Bool.not_true,Bool.false_eq_true,if_false];rw[if_pos (by decide)];simp only[Jb,Zu];rw[c];simp only[Zu];cases h2:Yu (λi=>f (96+i)) (λi=>g (96+i)) 8<;>simp
variable {a:Act}{listed:Array Bool}{ops:Array Oper}{Q:Exit->Act->World->Prop}{l:List (N_)}{rest:List Oper}{b base fuel gb i k n t:Nat}{F f:N_}{o op:Oper}{row:Option Nat}{v vt:Value}{W W' w w':World}
theorem RX (z:op.guard=none) (x y:Operand) (H:op.op=.binOp .eql 135 x y 135)
  (f g:N_) (J:a.eval x=.agg (bl f 104).toArray) (Y:a.eval y=.agg (bl g 104).toArray) (h:wpList Tryz.prog ops Q rest (a.put op.dst (.bool (Yu f g 104))) w):wpList Tryz.prog ops Q (op::rest) a w:=
 wpList_plain z λ_ b=>by
  unfold Oper.wp execOp;have c:(eqGuard .eql 135 x y (.agg (bl f 104).toArray) (.agg (bl g 104).toArray)).run Tryz.prog w=.ok () w:=
   run_eqGuard_agg (P:=Tryz.prog) w .eql 135 x y _ _ (by kernel_rfl)
  simp only[H,J,Y,Sem.run_bind,c,Zu,DA,Sem.run_pure];exact b _ _ h
def Xf (l:List (Nat->Bool)):List Value:=l.flatMap λf=>bl f 104
theorem Lo (a b:List (N_)):Xf (a++b)=Xf a++Xf b:=by simp[Xf]
theorem Gt (f:N_):Xf [f]=bl f 104:=by simp[Xf]
theorem Um:∀(l:List (N_)) (s j:Nat) (f:N_),l[s]?=some f->j<104->(Xf l)[s*104+j]?=some (.bool (f j))
 |[],s,j,f,h,_=>by simp at h
 |g::l,0,j,f,h,hj=>by
  simp at h;subst h;rw[show Xf (g::l)=bl g 104++Xf l from by simp[Xf],Zv (by rw[Y9];omega),Nat.zero_mul,Zn,YO _ hj]
 |g::l,s+1,j,f,h,hj=>by
  rw[show Xf (g::l)=bl g 104++Xf l from by simp[Xf],ZG (by rw[Y9];omega),Y9,show(s+1)*104+j-104=s*104+j by omega];exact Um l s j f (by simpa using h) hj
def XV (base:Nat) (v:Value) (l:List (Nat->Bool)) (w:World):Prop:=w.ownsRow base 135 104 v l.length (Xf l)
theorem XV.nil (base:Nat) (w:World):XV base (sN) [] w:=⟨rfl,Or.inl ⟨rfl,rfl⟩⟩
theorem XV.blk (h:XV base v l w):∀k,v.ownBlock=some k->base<=k/\k<w.heap.size:=λk a=>h.lt k a
theorem XV.keep (h:XV base v l w) (y:∀k,v.ownBlock=some k->w'.heap[k]?=w.heap[k]?):XV base v l w':=by
 refine⟨h.1,?_⟩;rcases h.2 with h0|⟨g,cap,a,rfl,h1,h2,h3⟩
 ·exact Or.inl h0
 exact Or.inr ⟨g,cap,a,rfl,h1,by rw[y g rfl];exact h2,h3⟩
theorem XV.below (h:XV base v l w) (y:Bl w w'):XV base v l w':=h.keep (λk a=>y.block k (h.blk k a).2)
theorem XV.grown (h:XV base v l w) (z:w.grownBy w' row) (y:∀k,v.ownBlock=some k->row≠some k):XV base v l w':=
 h.keep (λk a=>z.block k (h.blk k a).2 (λe=>y k a e.symm))
theorem XV.at_ (h:XV base v l w):∃ad cap,v=.slice ad l.length cap/\∀(s:Nat) (f:N_),l[s]?=some f->∃g,ad=some (a_ g 0)/\w.rangeAt g (s*104) (bl f 104):=by
 rcases h.2 with ⟨rfl,h0⟩|⟨g,cap,d,rfl,h1,h2,h3,k,m,n⟩
 ·refine⟨none,0,by rw[h0],λi x e=>?_⟩;have o:=(Zi.1 e).1;omega
 refine⟨some (a_ g 0),cap,rfl,λs f hs=>⟨g,rfl,λj v a=>?_⟩⟩;have b:j<104:=by have:=(Zi.1 a).1;rw[Y9]at this;exact this
 rw[YO _ b]at a;cases a;have c:=h.cells (g:=g) rfl (s*104+j) (.bool (f j)) (Um l s j f hs b);rw[Addr.add_lit,Zn]at c;exact c
theorem Gl:∃i,Tryz.prog.info? 135=some i/\i.zero=some (.agg (bl (λ_=>false) 104).toArray)/\i.size=104/\i.bytes=104:=by
 have h:(Tryz.prog.info? 135).isSome=true:=by kernel_rfl
 obtain⟨i,a⟩:=Zx.1 h;refine⟨i,a,?_,?_,?_⟩
 ·have:((Tryz.prog.info? 135).bind (·.zero))=some (.agg (bl (λ_=>false) 104).toArray):=by kernel_rfl
  rw[a]at this;simpa using this
 ·have:((Tryz.prog.info? 135).map (·.size))=some 104:=by kernel_rfl
  rw[a]at this;simpa using this
 have:((Tryz.prog.info? 135).map (·.bytes))=some 104:=by kernel_rfl
 rw[a]at this;simpa using this
theorem WI (hgd:o.guard=none) (s x:Operand)
  (ho:o.op=.call { callee:=.builtin .append,args:=#[s,x],argTypes:=#[130,130] }) (base:Nat)
  (v:Value) (l:List (N_)) (hs:a.eval s=v) (hown:XV base v l w) (hn:l.length<=100000)
  (B:Nat) (f:N_) (hx:a.eval x=sL B 1 1) (hnews:w.rangeAt B 0 (bl f 104)) (hbase:base<=w.heap.size) (H:Nat) (hH:w.heap.size=H)
  (h:∀g cap w',XV base (sL g (l.length+1) cap) (l++[f]) w'->w.grownBy w' v.ownBlock->(v.ownBlock=some g\/g=H)->g<w'.heap.size->wpList Tryz.prog ops Q rest (a.put o.dst (sL g (l.length+1) cap)) w'):wpList Tryz.prog ops Q (o::rest) a w:=by
 obtain⟨i,m,c,d,e⟩:=Gl;refine wpList_append_lies w hgd s x 130 ho base 135 i _ 104 104 Tryz.underlying130 m c d e (by simp[Value.cells,Y9]) (by omega) v l.length (Xf l) hs hown (a_ B 0) 1 1 (bl f 104) hx (by rw[Y9]) (λj u b=>by rw[Addr.add_lit];exact hnews j u b) (λu b=>?_) (by omega) (by unfold maxLen;omega) (by omega) hbase H hH ?_
 ·have:=YL f 104;rw[Array.all_eq_true']at this;exact this u (by simpa using b)
 intro g cap w' h1 h2 h3 k;refine h g cap w' ?_ h2 h3 k;unfold XV;rw[Zl,Lo,Gt];exact h1
theorem Js (y:Nat):∀(cs:List Value) (k:Nat) (Z:Array Value),y+k+cs.length<=Z.size ->
  ((cs.zipIdx k).foldl (λ(Z:Array Value) (c,j)=>Z.setIfInBounds (y+j) c) Z).size=Z.size /\
  ∀i,((cs.zipIdx k).foldl (λ(Z:Array Value) (c,j)=>Z.setIfInBounds (y+j) c) Z)[i]?=if y+k<=i/\i<y+k+cs.length then cs[i-(y+k)]? else Z[i]?
 |[],k,Z,_=>⟨rfl,λi=>by rw[if_neg (by simp)];rfl⟩
 |c::cs,k,Z,h=>by
  simp only[List.length_cons]at h;obtain⟨h1,h2⟩:=Js y cs (k+1) (Z.setIfInBounds (y+k) c) (by simp;omega);simp only[List.zipIdx_cons,List.foldl_cons];refine⟨by rw[h1];simp,λi=>?_⟩;rw[h2 i];by_cases e:i=y+k
  ·subst e;rw[g_,if_pos (by simp),Array.getElem?_setIfInBounds_self_of_lt (by omega)];simp
  by_cases e2:y+k<=i/\i<y+k+(cs.length+1)
  ·rw[p_,if_pos (by simpa using e2),show i-(y+k)=(i-(y+(k+1)))+1 by omega];rfl
  rw[g_,if_neg (by simpa using e2),Array.getElem?_setIfInBounds_ne (λx=>e x.symm)]
theorem NI (y:Nat->Option (Nat × Nat)) (Z:Array Value) (v:Value) (n:Nat) (H:y 0=some (0,n)) (J:v.cells.size=n) (z:Z.size=n):Instr.fill y Z [(0,v)]=some v.cells:=by
 obtain⟨C,b⟩:=nam v.cells;have a:C.size=n:=by rw[b];exact J
 have h0:Instr.fill y Z [(0,v)]=if (v.cells.size≠n || 0+v.cells.size > Z.size)=true then none else Instr.fill y (v.cells.zipIdx.foldl (λcs (c,j)=>cs.setIfInBounds (0+j) c) Z) []:=by
  simp only[Instr.fill,H]
 rw[h0,<-b,if_neg (by simp[a,z]),Instr.fill];congr 1;obtain⟨h1,h2⟩:=Js 0 C.toList 0 Z (by simp;omega);have e:C.zipIdx.foldl (λcs (x:Value × Nat)=>cs.setIfInBounds (0+x.2) x.1) Z=(C.toList.zipIdx 0).foldl (λcs (x:Value × Nat)=>cs.setIfInBounds (0+x.2) x.1) Z:=by
  rw[<-Array.foldl_toList,Array.toList_zipIdx]
 rw[e];refine Array.ext_getElem? (λi=>?_);rw[h2 i];by_cases d:i<n
 ·rw[if_pos (by simp;omega)];simp
 rw[if_neg (by simp;omega),Array.getElem?_eq_none (by omega),Array.getElem?_eq_none (by omega)]
theorem Ri (f:N_) (w:World):(Instr.buildSlice 130 1 #[(0,.agg (bl f 104).toArray)]).run Tryz.prog w=.ok (.slice (some (a_ w.heap.size 0)) 1 1) (w.alloc (.cells (bl f 104).toArray 135)):=by
 have hs:(sizeOf 135).run Tryz.prog w=.ok 104 w:=by kernel_rfl
 have hz:=SI w;have a:=NI (λi=>some (i*104,104)) ((Array.range (1*104)).map ((bl (λ_=>false) 104).toArray[·%(bl (λ_=>false) 104).toArray.size]!)) (.agg (bl f 104).toArray) 104 rfl (by simp[Value.cells,Y9]) (by simp);have b:(Value.agg (bl f 104).toArray).cells=(bl f 104).toArray:=rfl;have e2:(Value.agg (bl (λ_=>false) 104).toArray).cells=(bl (λ_=>false) 104).toArray:=rfl;rw[b]at a;simp only[Instr.buildSlice,Sem.run_bind,run_underlying Tryz.underlying130,Zu,hs,Sem.run_ite,hz,e2,Sem.run_pure,a,newRow];simp
theorem PD (y:op.guard=none) (x:Operand) (z:op.op=.buildSlice 130 1 #[(0,x)])
  (f:N_) (H:a.eval x=.agg (bl f 104).toArray) (h:wpList Tryz.prog ops Q rest (a.put op.dst (.slice (some (a_ w.heap.size 0)) 1 1)) (w.alloc (.cells (bl f 104).toArray 135))):wpList Tryz.prog ops Q (op::rest) a w:=
 wpList_plain y λ_ b=>by
  unfold Oper.wp execOp;have c:=Ri f w;have e:(#[((0:Nat),x)].map λ(p:Nat × Operand)=>(p.1,a.eval p.2))=#[(0,.agg (bl f 104).toArray)]:=by simp[H]
  simp only[z,Sem.run_bind,e,c,Zu,Sem.run_pure];exact b _ _ h
theorem M6 (w:World):(Instr.build 135 #[]).run Tryz.prog w=.ok (.agg (bl (λ_=>false) 104).toArray) w:=by kernel_rfl
theorem V6 (y:op.guard=none) (z:op.op=.build 135 #[])
  (h:wpList Tryz.prog ops Q rest (a.put op.dst (.agg (bl (λ_=>false) 104).toArray)) w):wpList Tryz.prog ops Q (op::rest) a w:=
 wpList_plain y λ_ b=>by
  unfold Oper.wp execOp;have c:=M6 w;have e:((#[]:Array (Nat × Operand)).map λ(p:Nat × Operand)=>(p.1,a.eval p.2))=#[]:=by simp
  simp only[z,Sem.run_bind,e,c,Zu,Sem.run_pure];exact b _ _ h
def U9:Nat->Bool:=λ_=>false
def Xz (l:List (Nat->Bool)) (f:Nat->Bool):Int:=if Yu f U9 104=true then -1 else (l.findIdx (λg=>Yu g f 104):Int)
def WP (l:List (Nat->Bool)) (f:Nat->Bool):List (Nat->Bool):=if Yu f U9 104=true then l else if l.findIdx (λg=>Yu g f 104)<l.length then l else l++[f]
structure GN (gb base:Nat) (K:Int) (vs vt:Value) (l:List (Nat->Bool)) (w:World):Prop where
 c:TC gb [.int .i64 K,vs,vt] w
 o:XV base vs l w
theorem GN.below {K:Int}{vs:Value} (h:GN gb base K vs vt l w) (y:Bl w w'):GN gb base K vs vt l w':=⟨h.c.below y,h.o.below y⟩
def Sj (gb base:Nat) (K:Int) (vs vt:Value) (l:List (Nat->Bool)) (f:Nat->Bool) (w:World) (e:Ending) (w':World):Prop:=
 ∃vs',e=.returned (.int .i64 (Xz l f))/\GN gb base K vs' vt (WP l f) w'/\Below gb w w'/\w.heap.size<=w'.heap.size /\
  (∀k,k<w.heap.size->k≠gb->vs.ownBlock≠some k->w'.heap[k]?=w.heap[k]?)/\(∀k,vs'.ownBlock=some k->vs.ownBlock=some k\/w.heap.size<=k)
theorem Sj.same {K:Int}{vs:Value}{r:Int} (h:GN gb base K vs vt l w) (H:r=Xz l f) (z:WP l f=l) (y:Bl w w'):
  Sj gb base K vs vt l f w (.returned (I6 r)) w':=
 ⟨vs,by rw[H],by rw[z];exact h.below y,y.mono (ZM h.c.lt),y.size,λk a _ _=>y.block k a,λ_ a=>Or.inl a⟩
theorem IT {α:Type}{p:α->Bool}{l:List α}{s:Nat}{g:α} (hs:l[s]?=some g) (z:p g=true) (y:∀i x,i<s->l[i]?=some x->p x=false):l.findIdx p=s:=by
 have a:=(Zi.1 hs).1;rw[List.findIdx_eq a];refine⟨by rw[(Zi.1 hs).2];exact z,λj b=>y j _ b (Zd (by omega))⟩
theorem Xh {P:Program}{K:Act->World->Prop} (y:ops[i]?=some o) (H:Region.wanted o (yielded ops a.tmps)=true)
  (z:(execOp a.eval o).run P w=.ok (.value v) w') (h:K (a.put o.dst v) w'):wpOp P ops Q i K a w:=
 wpOp_step y λK' b=>by
  rw[if_pos H];unfold Oper.wp;rw[z];exact b _ _ h
theorem XR {P:Program} (y:TypeId) (x:Operand) (Y:o.op=.load y x) (b c:Nat) (hx:a.eval x=.pointer (some (a_ b c))) (cs:List Value) (d:TypeDesc) (z:w.rangeAt b c cs)
  (Z:P.underlying y=some d) (H:d.isRow=true) (J:(P.info? y).map (·.size)=some cs.length):(execOp a.eval o).run P w=.ok (.value (.agg cs.toArray)) w:=by
 unfold execOp;simp only[Y,hx,Instr.loadAt,Instr.sureAddr,Sem.run_bind,Sem.run_pure,Zu,ZF w b c y cs d z Z H J]
theorem V4 (x:Operand) (y:o.op=.buildSlice 130 1 #[(0,x)]) (f:N_) (z:a.eval x=.agg (bl f 104).toArray):
  (execOp a.eval o).run Tryz.prog w=.ok (.value (.slice (some (a_ w.heap.size 0)) 1 1)) (w.alloc (.cells (bl f 104).toArray 135)):=by
 unfold execOp;have b:=Ri f w;have e:(#[((0:Nat),x)].map λ(p:Nat × Operand)=>(p.1,a.eval p.2))=#[(0,.agg (bl f 104).toArray)]:=by simp[z]
 simp only[y,Sem.run_bind,e,b,Zu,Sem.run_pure]
variable {md:Region.Mode}
theorem Wn {P:Program}{ops:List Oper} (k:Nat) (z:(ops.drop k).length=fuel) (y:Region.seqB md ops.toArray fuel k listed=true)
  (h:wpList P ops.toArray Q (ops.drop k) a w):wpAny P md ops.toArray Q fuel listed a w:=by
 subst z;exact wpAny_of_seq (ops.drop k) k listed a w (λj=>by simp[List.getElem?_drop]) y h
theorem SG {P:Program} (i j k:Nat) {o4 o5 o6:Oper}{v4 v5 v6:Value}{listed L:Array Bool}{a A:Act}{w w':World}
  (J:ops[i]?=some o4) (h5:ops[j]?=some o5) (Y:ops[k]?=some o6) (z:o4.guard=none) (Z:o5.guard=none) (H:o6.guard=none)
  (r0:Region.ready md ops listed=[i,j]) (r1:Region.ready md ops (listed.setIfInBounds i true)=[j]) (r2:Region.ready md ops ((listed.setIfInBounds i true).setIfInBounds j true)=[k])
  (r3:Region.ready md ops (listed.setIfInBounds j true)=[i,k]) (r4:Region.ready md ops ((listed.setIfInBounds j true).setIfInBounds i true)=[k]) (r5:Region.ready md ops ((listed.setIfInBounds j true).setIfInBounds k true)=[i])
  (x4:(execOp a.eval o4).run P w=.ok (.value v4) w) (y4:(execOp (a.put o5.dst v5).eval o4).run P w=.ok (.value v4) w) (z4:(execOp ((a.put o5.dst v5).put o6.dst v6).eval o4).run P w'=.ok (.value v4) w')
  (x5:(execOp a.eval o5).run P w=.ok (.value v5) w) (y5:(execOp (a.put o4.dst v4).eval o5).run P w=.ok (.value v5) w)
  (x6:(execOp (a.put o5.dst v5).eval o6).run P w=.ok (.value v6) w') (y6:(execOp ((a.put o4.dst v4).put o5.dst v5).eval o6).run P w=.ok (.value v6) w') (z6:(execOp ((a.put o5.dst v5).put o4.dst v4).eval o6).run P w=.ok (.value v6) w')
  (l1:((listed.setIfInBounds i true).setIfInBounds j true).setIfInBounds k true=L) (l2:((listed.setIfInBounds j true).setIfInBounds i true).setIfInBounds k true=L) (l3:((listed.setIfInBounds j true).setIfInBounds k true).setIfInBounds i true=L)
  (f1:((a.put o4.dst v4).put o5.dst v5).put o6.dst v6=A) (f2:((a.put o5.dst v5).put o4.dst v4).put o6.dst v6=A) (f3:((a.put o5.dst v5).put o6.dst v6).put o4.dst v4=A)
  (y:wpAny P md ops Q fuel L A w'):wpAny P md ops Q (fuel+3) listed a w:=by
 refine wpAny_all r0 (by simp) (λq b=>?_);rcases ZR.1 b with rfl|b
 ·refine Xh J (by simp[Region.wanted,z]) x4 (wpAny_all r1 (by simp) (λq b=>?_));rw[ZC.1 b];refine Xh h5 (by simp[Region.wanted,Z]) y5 (wpAny_all r2 (by simp) (λq b=>?_));rw[ZC.1 b];refine Xh Y (by simp[Region.wanted,H]) y6 ?_;rw[l1,f1];exact y
 rw[ZC.1 b];refine Xh h5 (by simp[Region.wanted,Z]) x5 (wpAny_all r3 (by simp) (λq b=>?_));rcases ZR.1 b with rfl|b
 ·refine Xh J (by simp[Region.wanted,z]) y4 (wpAny_all r4 (by simp) (λq b=>?_));rw[ZC.1 b];refine Xh Y (by simp[Region.wanted,H]) z6 ?_;rw[l2,f2];exact y
 rw[ZC.1 b];refine Xh Y (by simp[Region.wanted,H]) x6 (wpAny_all r5 (by simp) (λq b=>?_));rw[ZC.1 b];refine Xh J (by simp[Region.wanted,z]) z4 ?_;rw[l3,f3];exact y
theorem J4 (gb base:Nat) (K:Int) (vs vt:Value) (l:List (N_)) (f:N_) (w:World) (hG:GN gb base K vs vt l w) (ar:gb<base) (aq:base<=w.heap.size) (hl:l.length<=1000):
  Cp 129 #[pT gb,.agg (bl f 104).toArray] w (Sj gb base K vs vt l f w):=by
 obtain⟨W,hW⟩:∃W,W=w.alloc (.cells (bl f 104).toArray 135):=⟨_,rfl⟩;have E:Bl w W:=by rw[hW];exact box_bel _ _
 have I:TC w.heap.size (bl f 104) W:=by rw[hW];exact TC.boxed w (bl f 104) 135
 obtain⟨x,B⟩:∃x,x=Yu f U9 104:=⟨_,rfl⟩;have d:=I.range;have N:Hid (GN gb base K vs vt l w):=hG;have HW:Hid (W=w.alloc (.cells (bl f 104).toArray 135)):=hW;have R:Hid (x=Yu f (λ_=>false) 104):=B;clear hG hW B;have V:=E.size;cases x
 case true=>
  go_enter Tryz.func129,Tryz.ntmps129;go_wp2_with (first|(rw[<-HW.out];refine Zb rfl 135 _ rfl w.heap.size 0 rfl (bl f 104) _ d u_d rfl (by rw[Y9];exact Yw) ?_)|(refine V6 rfl rfl ?_)|(refine RX rfl _ _ rfl f (λ_=>false) rfl rfl ?_;rw[<-R.out]));go_ret;have t:Yu f U9 104=true:=R.out.symm;exact Sj.same N.out (by rw[Xz,if_pos t]) (by rw[WP,if_pos t]) E
 go_enter Tryz.func129,Tryz.ntmps129;go_wp2_with (first|(rw[<-HW.out];refine Zb rfl 135 _ rfl w.heap.size 0 rfl (bl f 104) _ d u_d rfl (by rw[Y9];exact Yw) ?_)|(refine V6 rfl rfl ?_)|(refine RX rfl _ _ rfl f (λ_=>false) rfl rfl ?_;rw[<-R.out]));have t:¬Yu f U9 104=true:=by have:=R.out;rw[show Yu f U9 104=false from this.symm];simp
 have HR:Hid (Xz l f=(l.findIdx (λg=>Yu g f 104):Int)):=by show _=_;rw[Xz,if_neg t]
 have HL:Hid (WP l f=if l.findIdx (λg=>Yu g f 104)<l.length then l else l++[f]):=by show _=_;rw[WP,if_neg t]
 clear t R HW
 go_loopw [5] (λx w'=>∃s:Nat,s<=l.length/\x=I6 s/\Hid (∀i g,i<s->l[i]?=some g->Yu g f 104=false)/\Bl w w'/\TC w.heap.size (bl f 104) w') (λx _=>l.length-(intOf x).toNat)
 ·exact⟨0,by omega,rfl,λi g hi=>by omega,E,I⟩
 clear E I d V;obtain⟨s,hs,rfl,HF,T,hn⟩:=hrel;have G:=N.out.below T;obtain⟨ad,cap,S,h2⟩:=G.o.at_;have c1:=(G.c 1 _ rfl).1;have d:=hn.range;by_cases H:s<l.length
 ·have aa:(s:Int)<(l.length:Int):=by omega
  obtain⟨g,Y⟩:∃g,l[s]?=some g:=⟨_,Zd H⟩;obtain⟨gk,e2,k2⟩:=h2 s g Y;subst e2;rw[S]at c1;have Hg:=hyd Y;obtain⟨y,hy⟩:=nam (Yu g f 104);have Hy:=hyd hy;obtain⟨n,b⟩:=nam l.length;have C:=hyd b;rw[<-b]at c1 aa hl;clear h2 S Y hy b G;go_wp2;refine wp_region_still_tail 8 (by kernel_rfl) (by kernel_rfl) ?_;simp only[ZK,List.take_zero,ZL,Zw];change wpStill _ _ wr.drew (λa'=>wpList _ _ _ _ a' wr.drew) _ _
  repeat still_step
  refine Vv rfl 135 _ rfl gk (s*104) rfl (bl g 104) _ (λj v J=>k2 j v J) u_d rfl (by rw[Y9];exact Yw) ?_;refine Vv rfl 135 _ rfl w.heap.size 0 rfl (bl f 104) _ (λj v J=>d j v J) u_d rfl (by rw[Y9];exact Yw) ?_;refine wpStill_nil ?_;refine RX rfl _ _ rfl g f rfl rfl ?_;rw[<-Hy.out];have m:=T.drew;have ai:=hn;clear c1 k2 d hn T;cases y
  ·go_wp2;go_roundw
   ·refine⟨s+1,by omega,by go_num,λi x hi B=>?_,m,ai⟩;rcases ZD i s with h|h
    ·exact HF i x h B
    rw[show i=s by omega,Hg.out]at B;cases B;exact Hy.out.symm
   simp[intOf];omega
  go_wp2;go_ret;have e:=IT Hg.out Hy.out.symm (λi x hi B=>HF.out i x hi B);exact Sj.same N.out (by rw[HR.out,e]) (by rw[HL.out,e,if_pos H]) m
 have ah:¬(s:Int)<(l.length:Int):=by omega
 have e:l.findIdx (λg=>Yu g f 104)=l.length:=List.findIdx_eq_length.2 (λx B=>by
  obtain⟨i,hi,rfl⟩:=List.mem_iff_getElem.1 B;exact HF i _ (by omega) (Zd hi))
 have ac:Hid (Xz l f=(l.length:Int)):=by show _=_;rw[HR.out,e]
 have ab:Hid (WP l f=l++[f]):=by show _=_;rw[HL.out,e,g_]
 obtain⟨n,b⟩:=nam l.length;have C:=hyd b;rw[<-b]at ah hl;rw[S,<-b]at c1;have Q:Hid (vs=.slice ad n cap):=by show _=_;rw[S,<-b]
 clear h2 S HF HR HL hs H b e;go_wp2;refine wp_region_any (by kernel_rfl) ?_;change wpAny _ _ _ _ 11 _ _ wr.drew;refine tJ 0 ?_
 refine tJ 1 ?_
 refine tJ 2 ?_
 refine tJ 3 ?_
 have m:=T.drew;have Gd:=N.out.below m;obtain⟨O,r⟩:=nam (wr.drew.alloc (.cells (bl f 104).toArray 135));have z:O.rangeAt wr.drew.heap.size 0 (bl f 104):=by rw[r];exact(TC.boxed wr.drew (bl f 104) 135).range
 have x3:Below wr.drew.heap.size wr.drew O:=by rw[r];exact box_bel _ _
 have P:=Gd.below x3;have M:=m.trans (x3.mono m.size);have ag:base<=O.heap.size:=by have:=M.size;omega
 have q4:=c1;have al:O.cell? (a_ gb 1)=some (.slice ad n cap):=by rw[<-Q.out];exact(P.c 1 _ rfl).1
 refine SG (fuel:=4) 4 5 6 (o4:=?o4) (o5:=?o5) (o6:=?o6) (v4:=.slice ad n cap) (v5:=.agg (bl f 104).toArray) (v6:=.slice (some (a_ wr.drew.heap.size 0)) 1 1) (L:=#[true,true,true,true,true,true,true,false,false,false,false]) (A:=?A) (w':=O)
  ?h4 ?h5 ?h6 ?g4 ?g5 ?g6 ?r0 ?r1 ?r2 ?r3 ?r4 ?r5 ?x4 ?y4 ?z4 ?x5 ?y5 ?x6 ?y6 ?z6 ?l1 ?l2 ?l3 ?f1 ?f2 ?f3 ?fin
 case h4=>simp only[gel];rfl
 case h5=>simp only[gel];rfl
 case h6=>simp only[gel];rfl
 case g4=>rfl
 case g5=>rfl
 case g6=>rfl
 case r0=>kernel_rfl
 case r1=>kernel_rfl
 case r2=>kernel_rfl
 case r3=>kernel_rfl
 case r4=>kernel_rfl
 case r5=>kernel_rfl
 case x4=>go_simp
 case y4=>simp only[psm];go_simp
 case z4=>clear r;simp only[psm];go_simp
 case x5=>exact XR 135 _ rfl w.heap.size 0 rfl (bl f 104) _ (λj v J=>d j v J) u_d rfl (by rw[Y9];exact Yw)
 case y5=>exact XR 135 _ rfl w.heap.size 0 rfl (bl f 104) _ (λj v J=>d j v J) u_d rfl (by rw[Y9];exact Yw)
 case x6=>rw[r];exact V4 _ rfl f rfl
 case y6=>rw[r];exact V4 _ rfl f rfl
 case z6=>rw[r];exact V4 _ rfl f rfl
 case l1=>kernel_rfl
 case l2=>kernel_rfl
 case l3=>kernel_rfl
 case f1=>simp only[psm];rfl
 case f2=>simp only[psm]
 case f3=>simp only[psm]
 refine Wn 7 rfl (by kernel_rfl) ?_;simp only[ZL,Zw];obtain⟨D,hD⟩:=nam wr.drew.heap.size;rw[<-hD]at z ⊢;have HK:Hid (∀w5,O.grownBy w5 vs.ownBlock->TC gb [I6 K,vs,vt] w5):=λw5 Y=>
  P.c.block (Y.block _ P.c.lt (λe=>by have:=(P.o.blk _ e.symm).1;omega))
 have af:=P.o;clear c1 d hn T G m Gd r x3 hD q4 al;refine WI (by rfl) _ _ (by rfl) base vs l (by rw[Q.out];rfl) af (by rw[<-C.out];omega) D f (by rfl) z ag _ rfl ?_;rw[<-C.out];intro g u w5 U a Z ap;obtain⟨c6,am⟩:=HK.out w5 a 1 _ rfl;have an:=(U.blk g rfl).1;clear z;go_wp2;go_ret;have ae:=HK.out w5 a;have ao:=N.out.c.lt;have X:=N.out.o.blk;have B5:Below gb w w5:=(M.mono (by omega)).grown a (by have:=M.size;omega) (λq hq=>by have:=(X q hq).1;omega);have hb:∀k,k≠gb->(w5.setCell (a_ gb 1) (sL g (n+1) u)).heap[k]?=w5.heap[k]?:=λk F=>Zq w5 (a_ gb 1) _ k (λe=>F e)
 have B6:=B5.setCell (p:=(a_ gb 1)) (Zg _) (sL g (n+1) u);refine⟨sL g (n+1) u,?_,⟨ae.set 1 (by simp) _,?_⟩,B6,B6.size,λk F aj ak=>?_,λk F=>?_⟩
 ·rw[ac.out,C.out];rfl
 ·rw[ab.out];exact U.keep (λk F=>hb k (by cases F;show g≠gb;omega))
 ·rw[hb k aj,a.block k (by have:=M.size;omega) (λe=>ak e.symm),M.block k F]
 cases F;rcases Z with h|h
 ·exact Or.inl h
 exact Or.inr (by have:=M.size;show w.heap.size<=g;omega)
inductive WS (A:(Nat->Bool)->Nat->Nat->Bool) (F:Nat->Bool) (ls:List Nat):Nat->Nat->List (Nat->Bool)->List Int->Prop
 |first:WS A F ls 0 0 [F] []
 |kind {s k:Nat}{l:List (Nat->Bool)}{t:List Int}{f:Nat->Bool}{b:Nat} (h:WS A F ls s k l t) (hf:l[s]?=some f) (hb:ls[k]?=some b) (hr:Xz l (A f b)<200):
   WS A F ls s (k+1) (WP l (A f b)) (t++[Xz l (A f b)])
 |set {s:Nat}{l:List (Nat->Bool)}{t:List Int} (h:WS A F ls s ls.length l t) (hs:s<l.length):WS A F ls (s+1) 0 l t
theorem LA (l:List (N_)) (f:N_):-1<=Xz l f:=by unfold Xz;split<;>omega
theorem Uq (l:List (N_)) (f:N_):(WP l f).length=l.length\/((WP l f).length=l.length+1/\Xz l f=l.length):=by
 unfold WP Xz;split
 ·exact Or.inl rfl
 split
 ·exact Or.inl rfl
 have:=List.findIdx_le_length (p:=λg=>Yu g f 104) (xs:=l);exact Or.inr ⟨by simp,by omega⟩
theorem Fa (l:List (N_)) (f:N_):∃u,WP l f=l++u:=by
 unfold WP;split
 ·exact⟨[],by simp⟩
 split
 ·exact⟨[],by simp⟩
 exact⟨[f],rfl⟩
theorem Lz {g:N_}{s:Nat} (h:l[s]?=some g):(WP l f)[s]?=some g:=by
 obtain⟨u,e⟩:=Fa l f;rw[e,Zv (Zi.1 h).1];exact h
theorem Pm (l:List (N_)) (f:N_):Xz l f<(WP l f).length:=by
 unfold WP Xz;split
 ·omega
 split
 ·omega
 have:=List.findIdx_le_length (p:=λg=>Yu g f 104) (xs:=l);simp;omega
theorem DN (h:Yu f U9 104=false):∃(k:Nat) (g:N_),Xz l f=k/\(WP l f)[k]?=some g/\Yu g f 104=true:=by
 have b:¬Yu f U9 104=true:=by simp[h]
 rw[Xz,WP,if_neg b,if_neg b];by_cases a:l.findIdx (λg=>Yu g f 104)<l.length
 ·rw[if_pos a];exact⟨_,_,rfl,Zd a,List.findIdx_getElem (p:=λg=>Yu g f 104) (w:=a)⟩
 rw[if_neg a];have e:l.findIdx (λg=>Yu g f 104)=l.length:=by have:=List.findIdx_le_length (p:=λg=>Yu g f 104) (xs:=l);omega
 rw[e];exact⟨_,f,rfl,by simp,(WA _ _ _).2 (λ_ _=>rfl)⟩
theorem WS.size {A:(N_)->Nat->N_}{ls:List Nat}{s:Nat}{t:List Int} (h:WS A F ls s k l t):0<l.length/\l.length<=200/\t.length=s*ls.length+k/\k<=ls.length/\s<=l.length:=by
 induction h with
 |first=>simp
 |kind h hf hb hr ih=>
  have a:=(Zi.1 hb).1;rename_i l t f b;have:=Uq l (A f b);refine⟨by omega,by omega,by simp;omega,by omega,by omega⟩
 |set h hs ih=>exact⟨by omega,by omega,by rw[Nat.succ_mul];omega,by omega,by omega⟩
theorem WS.range {A:(N_)->Nat->N_}{ls:List Nat}{s:Nat}{t:List Int} (h:WS A F ls s k l t):∀x∈t,-1<=x/\x<l.length:=by
 induction h with
 |first=>intro x a;cases a
 |kind h hf hb hr ih=>
  rename_i l t f b;intro x a;rcases ZU.1 a with h1|h1
  ·have:=ih x h1;have:=Uq l (A f b);omega
  rw[ZC.1 h1];exact⟨LA _ _,Pm _ _⟩
 |set h hs ih=>exact ih
theorem Wo (w:World):(zeroValue 247).run Tryz.prog w=.ok (.agg (bl (λ_=>false) 193).toArray) w:=by kernel_rfl
theorem Y4:(Tryz.prog.info? 247).map (·.size)=some 193:=by kernel_rfl
def RM:Nat->Bool:=λi=>i==0
theorem LT (w:World):(Instr.build 247 #[(0,.bool true)]).run Tryz.prog w=.ok (.agg (bl RM 193).toArray) w:=by kernel_rfl
theorem PB (y:op.guard=none) (x:Operand) (z:op.op=.build 247 #[(0,x)]) (H:a.eval x=.bool true)
  (h:wpList Tryz.prog ops Q rest (a.put op.dst (.agg (bl RM 193).toArray)) w):wpList Tryz.prog ops Q (op::rest) a w:=
 wpList_plain y λ_ b=>by
  unfold Oper.wp execOp;have c:=LT w;have e:(#[((0:Nat),x)].map λ(p:Nat × Operand)=>(p.1,a.eval p.2))=#[(0,.bool true)]:=by simp[H]
  simp only[z,Sem.run_bind,e,c,Zu,Sem.run_pure];exact b _ _ h
theorem Yi (h:TC t (bl f n) w):w.there t 0 n:=by have:=h.there;rw[Y9]at this;exact this
theorem Te (w:World):Cp 208 #[] w λe w'=>e=.returned (.agg (bl RM 193).toArray)/\Bl w w':=by
 have hz:=Wo;obtain⟨W,j⟩:=nam (w.alloc (.cells (bl (λ_=>false) 193).toArray 247));have T:TC w.heap.size (bl (λ_=>false) 193) W:=by rw[j];exact TC.boxed _ _ _
 have B:Bl w W:=by rw[j];exact box_bel _ _
 obtain⟨L,i⟩:=nam (bl RM 193);have b:L.length=193:=by rw[i];exact Y9 _ _
 have h:=Yi T;have o:=Y8 w.heap.size L 0 W;have g:=Zo W w.heap.size 0 L (by rw[b];exact h);have a:=ZF (P:=Tryz.prog) (W.setCells w.heap.size 0 L) w.heap.size 0 247 L _ g u_b rfl (by rw[b];exact Y4);have m:=B.grown o B.size (λq r=>by cases r;omega);obtain⟨s,c⟩:=nam (W.setCells w.heap.size 0 L);rw[<-c]at a m;have l:=hyd c;have p:=hyd j;have f:=hyd a;have k:Hid (L.toArray.all (·.oneCell')=true):=by show _=true;rw[i];exact YL _ _
 have d:=hyd b;have n:=hyd i;clear j i b o g a c T B;go_enter Tryz.func208,Tryz.ntmps208;go_wp2_with (first|(refine PB rfl _ rfl rfl ?_;rw[<-n.out,<-p.out])|(refine Za rfl 247 _ _ rfl w.heap.size 0 L.toArray rfl rfl (by simpa[d.out]using h) (by simpa[d.out]using Y4) k.out ?_;rw[Zc,<-l.out]));refine Zr (v:=.agg L.toArray) (res_load1 Tryz.results208 rfl f.out) rfl ?_;exact⟨by rw[n.out],m⟩
theorem Bm.TC.sub (h:TC b (bl f n) w) (o m:Nat) (y:o+m<=n):w.rangeAt b o (bl (λi=>f (o+i)) m):=λk v a=>by
 have c:k<m:=by have:=(Zi.1 a).1;rw[Y9]at this;exact this
 rw[YO _ c]at a;exact(h (o+k) v (by rw[YO _ (by omega)];exact a)).1
theorem Bm.TC.thereAt (h:TC b (bl f n) w) (o m:Nat) (y:o+m<=n):w.there b o m:=λj a=>by
 obtain⟨h1,h2⟩:=h (o+j) _ (YO f (by omega));exact⟨by rw[h1];rfl,h2⟩
def Xp (f:Nat->Bool) (o m:Nat) (g:Nat->Bool):Nat->Bool:=λj=>if o<=j/\j<o+m then g (j-o) else f j
theorem Bm.TC.setPart (h:TC b (bl f n) w) (o m:Nat) (g:N_) (y:o+m<=n):TC b (bl (Xp f o m g) n) (w.setCells b o (bl g m)):=by
 have h1:=h.setBools ((List.range m).map g) o f w (by simpa using y);rw[<-Es]at h1;rw[YU (λi a=>?_)]
 ·exact h1
 unfold Xp;simp only[Zy,List.length_range];by_cases e:o<=i/\i<o+m
 ·rw[if_pos e,if_pos e];simp[Zf,show i-o<m by omega]
 rw[if_neg e,if_neg e]
theorem KU (b:Bool) (w:World):(Instr.build 247 #[(0,.bool b)]).run Tryz.prog w=.ok (.agg (bl (λi=>i==0&&b) 193).toArray) w:=by
 cases b
 ·kernel_rfl
 kernel_rfl
theorem Tr (y:op.guard=none) (x:Operand) (z:op.op=.build 247 #[(0,x)]) (b:Bool) (H:a.eval x=.bool b)
  (h:wpList Tryz.prog ops Q rest (a.put op.dst (.agg (bl (λi=>i==0&&b) 193).toArray)) w):wpList Tryz.prog ops Q (op::rest) a w:=
 wpList_plain y λ_ c=>by
  unfold Oper.wp execOp;have d:=KU b w;have e:(#[((0:Nat),x)].map λ(p:Nat × Operand)=>(p.1,a.eval p.2))=#[(0,.bool b)]:=by simp[H]
  simp only[z,Sem.run_bind,e,d,Zu,Sem.run_pure];exact c _ _ h
structure EI (w:World) (r s c:Nat->Bool) (W:World):Prop where
 a:TC w.heap.size (bl r 193) W
 b:TC (w.heap.size+1) (bl s 193) W
 z:TC (w.heap.size+2) (bl (fun _=>false) 193) W
 c:TC (w.heap.size+3) (bl c 193) W
 e:Below w.heap.size w W
theorem EI.below {r s c:N_} (h:EI w r s c W) (y:Bl W W'):EI w r s c W':=
 ⟨h.a.block (y.block _ h.a.ltB),h.b.block (y.block _ h.b.ltB),h.z.block (y.block _ h.z.ltB),h.c.block (y.block _ h.c.ltB),h.e.trans (y.mono h.e.size)⟩
theorem EI.put {r s c:N_} (h:EI w r s c W) (o m:Nat) (g:N_) (y:o+m<=193):EI w r s (Xp c o m g) (W.setCells (w.heap.size+3) o (bl g m)):=by
 have d:=Y8 (w.heap.size+3) (bl g m) o W;exact⟨h.a.block (d.block _ h.a.ltB (λe=>by have:=Zh e;omega)),h.b.block (d.block _ h.b.ltB (λe=>by have:=Zh e;omega)),h.z.block (d.block _ h.z.ltB (λe=>by have:=Zh e;omega)),
  h.c.setPart o m g y,h.e.grown d h.e.size (λq f=>by cases f;omega)⟩
theorem IR (r s:N_) (w:World):
  Cp 200 #[.agg (bl r 193).toArray,.agg (bl s 193).toArray] w λe w'=>e=.returned (.agg (bl (λi=>r i || s i) 193).toArray)/\Bl w w':=by
 have hz:=Wo;obtain⟨W1,J⟩:=nam (w.alloc (.cells (bl r 193).toArray 247));obtain⟨W2,K⟩:=nam (W1.alloc (.cells (bl s 193).toArray 247));obtain⟨V,N⟩:=nam (W2.alloc (.cells (bl (λ_=>false) 193).toArray 247));obtain⟨W4,O⟩:=nam (V.alloc (.cells (bl (λ_=>false) 193).toArray 247));have z1:W1.heap.size=w.heap.size+1:=by rw[J];simp
 have z2:W2.heap.size=w.heap.size+2:=by rw[K];simp[z1]
 have z3:V.heap.size=w.heap.size+3:=by rw[N];simp[z2]
 have S0:EI w r s (λ_=>false) W4:=by
  have T1:=TC.boxed w (bl r 193) 247;have T2:=TC.boxed W1 (bl s 193) 247;have T3:=TC.boxed W2 (bl (λ_=>false) 193) 247;have T4:=TC.boxed V (bl (λ_=>false) 193) 247;have x1:=box_bel w (.cells (bl r 193).toArray 247);have x2:Below W1.heap.size W1 _:=box_bel W1 (.cells (bl s 193).toArray 247);have x3:Below W2.heap.size W2 _:=box_bel W2 (.cells (bl (λ_=>false) 193).toArray 247);have x4:Below V.heap.size V _:=box_bel V (.cells (bl (λ_=>false) 193).toArray 247);rw[<-J]at T1 x1;rw[<-K,z1]at T2 x2;rw[<-N,z2]at T3 x3;rw[<-O,z3]at T4 x4;exact⟨((T1.block (x2.block _ (by omega))).block (x3.block _ (by omega))).block (x4.block _ (by omega)),(T2.block (x3.block _ (by omega))).block (x4.block _ (by omega)),T3.block (x4.block _ (by omega)),T4,((x1.trans (x2.mono (by omega))).trans (x3.mono (by omega))).trans (x4.mono (by omega))⟩
 have W:W4=(((w.alloc (.cells (bl r 193).toArray 247)).alloc (.cells (bl s 193).toArray 247)).alloc (.cells (bl (λ_=>false) 193).toArray 247)).alloc (.cells (bl (λ_=>false) 193).toArray 247):=by rw[O,N,K,J]
 have p:=hyd W;have ca:V.cell? (a_ w.heap.size 0)=some (.bool (r 0)):=by
  have h:=(S0.a 0 _ (YO r (by omega))).1;rw[O,World.cell?_alloc_old _ _ _ (by show w.heap.size≠V.heap.size;omega)]at h;exact h
 have cb:V.cell? (a_ (w.heap.size+1) 0)=some (.bool (s 0)):=by
  have h:=(S0.b 0 _ (YO s (by omega))).1;rw[O,World.cell?_alloc_old _ _ _ (by show w.heap.size+1≠V.heap.size;omega)]at h;exact h
 rw[N,K,J]at ca cb;have Hs:=hyd S0;clear S0 J K N O z1 z2 z3 W;obtain⟨x,hx⟩:=nam (r 0);obtain⟨y,hy⟩:=nam (s 0);rw[<-hx]at ca;rw[<-hy]at cb;have Hx:=hyd hx;have Hy:=hyd hy;clear hx hy;obtain⟨L,hL⟩:=nam (bl (λi=>i==0&&(x || y)) 193);have ai:L.length=193:=by rw[hL];exact Y9 _ _
 have HL:=hyd hL;have T:=hyd ai;have ag:Hid (L.toArray.all (·.oneCell')=true):=by show _=true;rw[hL];exact YL _ _
 have aj:=Hs.out.c.thereAt 0 193 (by omega);obtain⟨W5,af⟩:=nam (W4.setCells (w.heap.size+3) 0 L);have S5:EI w r s (Xp (λ_=>false) 0 193 (λi=>i==0&&(x || y))) W5:=by rw[af,hL];exact Hs.out.put 0 193 _ (by omega)
 have ah:=hyd af;have aa:=hyd S5;clear hL ai af;have r1:=S5.a.sub 1 96 (by omega);have r2:=S5.b.sub 1 96 (by omega);clear S5;have HF:Hid (∀i,i<193->Xp (Xp (Xp (λ_=>false) 0 193 (λi=>i==0&&(x || y))) 1 96 (λi=>r (1+i) || s (1+i))) 97 96 (λi=>r (97+i) || s (97+i)) i=(r i || s i)):=λi hi=>by
  unfold Xp;by_cases h1:97<=i/\i<97+96
  ·rw[if_pos h1];show(r (97+(i-97)) || s (97+(i-97)))=_;rw[show 97+(i-97)=i by omega]
  rw[if_neg h1];by_cases h2:1<=i/\i<1+96
  ·rw[if_pos h2];show(r (1+(i-1)) || s (1+(i-1)))=_;rw[show 1+(i-1)=i by omega]
  rw[if_neg h2,p_];have:i=0:=by omega
  subst this;simp[Hx.out,Hy.out]
 obtain⟨C,hC⟩:=nam (Xp (λ_=>false) 0 193 (λi=>i==0&&(x || y)));rw[<-hC]at aa HF;clear Hx Hy hC;cases x
 ·go_enter Tryz.func200,Tryz.ntmps200;go_wp2_with (first|(refine Tr rfl _ rfl y (by rfl) ?_;rw[show bl (λi=>i==0&&y) 193=L from (by rw[HL.out];rfl)])|(refine Za rfl 247 _ _ rfl (w.heap.size+3) 0 L.toArray rfl rfl (by rw[<-p.out];simpa[T.out]using aj) (by simpa[T.out]using Y4) ag.out ?_;rw[Zc,<-p.out,<-ah.out])|(refine Zb rfl 132 _ rfl w.heap.size 1 rfl _ _ r1 u_a rfl (by rw[Y9];exact Y1) ?_)|(refine Zb rfl 132 _ rfl (w.heap.size+1) 1 rfl _ _ r2 u_a rfl (by rw[Y9];exact Y1) ?_));refine Calls.mono (Xw _ _ W5) ?_;rintro e w6 ⟨rfl,F⟩;have S6:=aa.out.below F;obtain⟨R,d⟩:=nam (bl (λi=>r (1+i) || s (1+i)) 96);have t:=S6.put 1 96 (λi=>r (1+i) || s (1+i)) (by omega);have t1:=S6.c.thereAt 1 96 (by omega);rw[<-d]at t;obtain⟨W7,n⟩:=nam (w6.setCells (w.heap.size+3) 1 R);rw[<-n]at t;have ac:=hyd n;have A:Hid (R.length=96):=by show _=_;rw[d];exact Y9 _ _
  have X:Hid (R.toArray.all (·.oneCell')=true):=by show _=true;rw[d];exact YL _ _
  rw[<-d];have r3:=t.a.sub 97 96 (by omega);have r4:=t.b.sub 97 96 (by omega);have ab:=hyd t;clear n d S6 t F r1 r2;go_wp2_with (first|(refine Za rfl 132 _ _ rfl (w.heap.size+3) 1 R.toArray rfl rfl (by simpa[A.out]using t1) (by simpa[A.out]using Y1) X.out ?_;rw[Zc,<-ac.out])|(refine Zb rfl 132 _ rfl w.heap.size 97 rfl _ _ r3 u_a rfl (by rw[Y9];exact Y1) ?_)|(refine Zb rfl 132 _ rfl (w.heap.size+1) 97 rfl _ _ r4 u_a rfl (by rw[Y9];exact Y1) ?_));refine Calls.mono (Xw _ _ W7) ?_;rintro e w8 ⟨rfl,G⟩;have S8:=ab.out.below G;obtain⟨S,f⟩:=nam (bl (λi=>r (97+i) || s (97+i)) 96);have m:=S8.put 97 96 (λi=>r (97+i) || s (97+i)) (by omega);have t2:=S8.c.thereAt 97 96 (by omega);rw[<-f]at m;obtain⟨U,o⟩:=nam (w8.setCells (w.heap.size+3) 97 S);rw[<-o]at m;have ae:=hyd o;have B:Hid (S.length=96):=by show _=_;rw[f];exact Y9 _ _
  have Y:Hid (S.toArray.all (·.oneCell')=true):=by show _=true;rw[f];exact YL _ _
  rw[<-f];obtain⟨M,I⟩:=nam (bl (Xp (Xp C 1 96 (λi=>r (1+i) || s (1+i))) 97 96 (λi=>r (97+i) || s (97+i))) 193);have Sc:=m.c;rw[<-I]at Sc;have k:M.length=193:=by rw[I];exact Y9 _ _
  have HM:Hid (M=bl (λi=>r i || s i) 193):=by show _=_;rw[I];exact YU (λi hi=>HF.out i hi)
  have rM:=Sc.range;have tz:=m.z.thereAt 0 193 (by omega);have H:=Y8 (w.heap.size+2) M 0 U;have Q:=Zo U (w.heap.size+2) 0 M (by rw[k];exact tz);have j:=ZF (P:=Tryz.prog) (U.setCells (w.heap.size+2) 0 M) (w.heap.size+2) 0 247 M _ Q u_b rfl (by rw[k];exact Y4);have u:=m.e.grown H m.e.size (λq hq=>by cases hq;omega);obtain⟨ak,g⟩:=nam (U.setCells (w.heap.size+2) 0 M);rw[<-g]at j u;have D:=hyd g;have E:=hyd j;have l:=hyd k;have Z:Hid (M.toArray.all (·.oneCell')=true):=by show _=true;rw[I];exact YL _ _
  clear o f S8 m Sc I k H Q j g G r3 r4 t1;go_wp2_with (first|(refine Za rfl 132 _ _ rfl (w.heap.size+3) 97 S.toArray rfl rfl (by simpa[B.out]using t2) (by simpa[B.out]using Y1) Y.out ?_;rw[Zc,<-ae.out])|(refine Zb rfl 247 _ rfl (w.heap.size+3) 0 rfl M _ rM u_b rfl (by rw[l.out];exact Y4) ?_)|(refine Za rfl 247 _ _ rfl (w.heap.size+2) 0 M.toArray rfl rfl (by simpa[l.out]using tz) (by simpa[l.out]using Y4) Z.out ?_;rw[Zc,<-D.out]));refine Zr (v:=.agg M.toArray) (res_load1 Tryz.results200 rfl E.out) rfl ?_;exact⟨by rw[HM.out],u⟩
 go_enter Tryz.func200,Tryz.ntmps200;go_wp2_with (first|(refine Tr rfl _ rfl true (by rfl) ?_;rw[show bl (λi=>i==0&&true) 193=L from (by rw[HL.out];rfl)])|(refine Za rfl 247 _ _ rfl (w.heap.size+3) 0 L.toArray rfl rfl (by rw[<-p.out];simpa[T.out]using aj) (by simpa[T.out]using Y4) ag.out ?_;rw[Zc,<-p.out,<-ah.out])|(refine Zb rfl 132 _ rfl w.heap.size 1 rfl _ _ r1 u_a rfl (by rw[Y9];exact Y1) ?_)|(refine Zb rfl 132 _ rfl (w.heap.size+1) 1 rfl _ _ r2 u_a rfl (by rw[Y9];exact Y1) ?_));refine Calls.mono (Xw _ _ W5) ?_;rintro e w6 ⟨rfl,F⟩;have S6:=aa.out.below F;obtain⟨R,d⟩:=nam (bl (λi=>r (1+i) || s (1+i)) 96);have t:=S6.put 1 96 (λi=>r (1+i) || s (1+i)) (by omega);have t1:=S6.c.thereAt 1 96 (by omega);rw[<-d]at t;obtain⟨W7,n⟩:=nam (w6.setCells (w.heap.size+3) 1 R);rw[<-n]at t;have ac:=hyd n;have A:Hid (R.length=96):=by show _=_;rw[d];exact Y9 _ _
 have X:Hid (R.toArray.all (·.oneCell')=true):=by show _=true;rw[d];exact YL _ _
 rw[<-d];have r3:=t.a.sub 97 96 (by omega);have r4:=t.b.sub 97 96 (by omega);have ab:=hyd t;clear n d S6 t F r1 r2;go_wp2_with (first|(refine Za rfl 132 _ _ rfl (w.heap.size+3) 1 R.toArray rfl rfl (by simpa[A.out]using t1) (by simpa[A.out]using Y1) X.out ?_;rw[Zc,<-ac.out])|(refine Zb rfl 132 _ rfl w.heap.size 97 rfl _ _ r3 u_a rfl (by rw[Y9];exact Y1) ?_)|(refine Zb rfl 132 _ rfl (w.heap.size+1) 97 rfl _ _ r4 u_a rfl (by rw[Y9];exact Y1) ?_));refine Calls.mono (Xw _ _ W7) ?_;rintro e w8 ⟨rfl,G⟩;have S8:=ab.out.below G;obtain⟨S,f⟩:=nam (bl (λi=>r (97+i) || s (97+i)) 96);have m:=S8.put 97 96 (λi=>r (97+i) || s (97+i)) (by omega);have t2:=S8.c.thereAt 97 96 (by omega);rw[<-f]at m;obtain⟨U,o⟩:=nam (w8.setCells (w.heap.size+3) 97 S);rw[<-o]at m;have ae:=hyd o;have B:Hid (S.length=96):=by show _=_;rw[f];exact Y9 _ _
 have Y:Hid (S.toArray.all (·.oneCell')=true):=by show _=true;rw[f];exact YL _ _
 rw[<-f];obtain⟨M,I⟩:=nam (bl (Xp (Xp C 1 96 (λi=>r (1+i) || s (1+i))) 97 96 (λi=>r (97+i) || s (97+i))) 193);have Sc:=m.c;rw[<-I]at Sc;have k:M.length=193:=by rw[I];exact Y9 _ _
 have HM:Hid (M=bl (λi=>r i || s i) 193):=by show _=_;rw[I];exact YU (λi hi=>HF.out i hi)
 have rM:=Sc.range;have tz:=m.z.thereAt 0 193 (by omega);have H:=Y8 (w.heap.size+2) M 0 U;have Q:=Zo U (w.heap.size+2) 0 M (by rw[k];exact tz);have j:=ZF (P:=Tryz.prog) (U.setCells (w.heap.size+2) 0 M) (w.heap.size+2) 0 247 M _ Q u_b rfl (by rw[k];exact Y4);have u:=m.e.grown H m.e.size (λq hq=>by cases hq;omega);obtain⟨ak,g⟩:=nam (U.setCells (w.heap.size+2) 0 M);rw[<-g]at j u;have D:=hyd g;have E:=hyd j;have l:=hyd k;have Z:Hid (M.toArray.all (·.oneCell')=true):=by show _=true;rw[I];exact YL _ _
 clear o f S8 m Sc I k H Q j g G r3 r4 t1;go_wp2_with (first|(refine Za rfl 132 _ _ rfl (w.heap.size+3) 97 S.toArray rfl rfl (by simpa[B.out]using t2) (by simpa[B.out]using Y1) Y.out ?_;rw[Zc,<-ae.out])|(refine Zb rfl 247 _ rfl (w.heap.size+3) 0 rfl M _ rM u_b rfl (by rw[l.out];exact Y4) ?_)|(refine Za rfl 247 _ _ rfl (w.heap.size+2) 0 M.toArray rfl rfl (by simpa[l.out]using tz) (by simpa[l.out]using Y4) Z.out ?_;rw[Zc,<-D.out]));refine Zr (v:=.agg M.toArray) (res_load1 Tryz.results200 rfl E.out) rfl ?_;exact⟨by rw[HM.out],u⟩
theorem HY (w:World):(zeroValue 251).run Tryz.prog w=.ok (.agg (bl (λ_=>false) 256).toArray) w:=by kernel_rfl
theorem Qm:(Tryz.prog.info? 251).map (·.size)=some 256:=by kernel_rfl
def V9 (l:List (Nat->Bool)):List Value:=l.flatMap λf=>bl f 256
theorem Ln (a b:List (N_)):V9 (a++b)=V9 a++V9 b:=by simp[V9]
theorem Gs (f:N_):V9 [f]=bl f 256:=by simp[V9]
theorem J1:∀(l:List (N_)) (s j:Nat) (f:N_),l[s]?=some f->j<256->(V9 l)[s*256+j]?=some (.bool (f j))
 |[],s,j,f,h,_=>by simp at h
 |g::l,0,j,f,h,hj=>by
  simp at h;subst h;rw[show V9 (g::l)=bl g 256++V9 l from by simp[V9],Zv (by rw[Y9];omega),Nat.zero_mul,Zn,YO _ hj]
 |g::l,s+1,j,f,h,hj=>by
  rw[show V9 (g::l)=bl g 256++V9 l from by simp[V9],ZG (by rw[Y9];omega),Y9,show(s+1)*256+j-256=s*256+j by omega];exact J1 l s j f (by simpa using h) hj
def WE (base:Nat) (v:Value) (l:List (Nat->Bool)) (w:World):Prop:=w.ownsRow base 251 256 v l.length (V9 l)
theorem WE.nil (base:Nat) (w:World):WE base (sN) [] w:=⟨rfl,Or.inl ⟨rfl,rfl⟩⟩
theorem WE.blk (h:WE base v l w):∀k,v.ownBlock=some k->base<=k/\k<w.heap.size:=λk a=>h.lt k a
theorem WE.keep (h:WE base v l w) (y:∀k,v.ownBlock=some k->w'.heap[k]?=w.heap[k]?):WE base v l w':=by
 refine⟨h.1,?_⟩;rcases h.2 with h0|⟨g,cap,a,rfl,h1,h2,h3⟩
 ·exact Or.inl h0
 exact Or.inr ⟨g,cap,a,rfl,h1,by rw[y g rfl];exact h2,h3⟩
theorem WE.below (h:WE base v l w) (y:Bl w w'):WE base v l w':=h.keep (λk a=>y.block k (h.blk k a).2)
theorem WE.grown (h:WE base v l w) (z:w.grownBy w' row) (y:∀k,v.ownBlock=some k->row≠some k):WE base v l w':=
 h.keep (λk a=>z.block k (h.blk k a).2 (λe=>y k a e.symm))
theorem WE.at_ (h:WE base v l w):∃ad cap,v=.slice ad l.length cap/\∀(s:Nat) (f:N_),l[s]?=some f->∃g,ad=some (a_ g 0)/\w.rangeAt g (s*256) (bl f 256):=by
 rcases h.2 with ⟨rfl,h0⟩|⟨g,cap,d,rfl,h1,h2,h3,k,m,n⟩
 ·refine⟨none,0,by rw[h0],λi x e=>?_⟩;have o:=(Zi.1 e).1;omega
 refine⟨some (a_ g 0),cap,rfl,λs f hs=>⟨g,rfl,λj v a=>?_⟩⟩;have b:j<256:=by have:=(Zi.1 a).1;rw[Y9]at this;exact this
 rw[YO _ b]at a;cases a;have c:=h.cells (g:=g) rfl (s*256+j) (.bool (f j)) (J1 l s j f hs b);rw[Addr.add_lit,Zn]at c;exact c
theorem EC:∃i,Tryz.prog.info? 251=some i/\i.zero=some (.agg (bl (λ_=>false) 256).toArray)/\i.size=256/\i.bytes=256:=by
 have h:(Tryz.prog.info? 251).isSome=true:=by kernel_rfl
 obtain⟨i,a⟩:=Zx.1 h;refine⟨i,a,?_,?_,?_⟩
 ·have:((Tryz.prog.info? 251).bind (·.zero))=some (.agg (bl (λ_=>false) 256).toArray):=by kernel_rfl
  rw[a]at this;simpa using this
 ·have:((Tryz.prog.info? 251).map (·.size))=some 256:=by kernel_rfl
  rw[a]at this;simpa using this
 have:((Tryz.prog.info? 251).map (·.bytes))=some 256:=by kernel_rfl
 rw[a]at this;simpa using this
theorem RR (hgd:o.guard=none) (s x:Operand)
  (ho:o.op=.call { callee:=.builtin .append,args:=#[s,x],argTypes:=#[129,129] }) (base:Nat)
  (v:Value) (l:List (N_)) (hs:a.eval s=v) (hown:WE base v l w) (hn:l.length<=100000)
  (B:Nat) (f:N_) (hx:a.eval x=sL B 1 1) (hnews:w.rangeAt B 0 (bl f 256)) (hbase:base<=w.heap.size) (H:Nat) (hH:w.heap.size=H)
  (h:∀g cap w',WE base (sL g (l.length+1) cap) (l++[f]) w'->w.grownBy w' v.ownBlock->(v.ownBlock=some g\/g=H)->g<w'.heap.size->wpList Tryz.prog ops Q rest (a.put o.dst (sL g (l.length+1) cap)) w'):wpList Tryz.prog ops Q (o::rest) a w:=by
 obtain⟨i,m,c,d,e⟩:=EC;refine wpList_append_lies w hgd s x 129 ho base 251 i _ 256 256 Tryz.underlying129 m c d e (by simp[Value.cells,Y9]) (by omega) v l.length (V9 l) hs hown (a_ B 0) 1 1 (bl f 256) hx (by rw[Y9]) (λj u b=>by rw[Addr.add_lit];exact hnews j u b) (λu b=>?_) (by omega) (by unfold maxLen;omega) (by omega) hbase H hH ?_
 ·have:=YL f 256;rw[Array.all_eq_true']at this;exact this u (by simpa using b)
 intro g cap w' h1 h2 h3 k;refine h g cap w' ?_ h2 h3 k;unfold WE;rw[Zl,Ln,Gs];exact h1
theorem LV (f:N_) (w:World):(Instr.buildSlice 129 1 #[(0,.agg (bl f 256).toArray)]).run Tryz.prog w=.ok (.slice (some (a_ w.heap.size 0)) 1 1) (w.alloc (.cells (bl f 256).toArray 251)):=by
 have hs:(sizeOf 251).run Tryz.prog w=.ok 256 w:=by kernel_rfl
 have hz:=HY w;have a:=NI (λi=>some (i*256,256)) ((Array.range (1*256)).map ((bl (λ_=>false) 256).toArray[·%(bl (λ_=>false) 256).toArray.size]!)) (.agg (bl f 256).toArray) 256 rfl (by simp[Value.cells,Y9]) (by simp);have b:(Value.agg (bl f 256).toArray).cells=(bl f 256).toArray:=rfl;have e2:(Value.agg (bl (λ_=>false) 256).toArray).cells=(bl (λ_=>false) 256).toArray:=rfl;rw[b]at a;simp only[Instr.buildSlice,Sem.run_bind,run_underlying Tryz.underlying129,Zu,hs,Sem.run_ite,hz,e2,Sem.run_pure,a,newRow];simp
end Go.Proofs.YtoaaklhpmhjhkaaGreat
