import Derived.ChangeKeysEq
import Derived.Laws.StructEq
import Derived.Test.YtoaaklhpmhjhkaaGreatC11
set_option maxRecDepth 100000
set_option maxHeartbeats 4000000
set_option linter.all false
namespace Go.Proofs.YtoaaklhpmhjhkaaGreat
open Go.RowKit
open Bm
def sameB (f g:Nat->Bool) (n:Nat):Bool:=(List.range n).all λi=>f i==g i
theorem q1x (f g:Nat->Bool) (n:Nat):sameB f g n=true<->∀i,i<n->f i=g i:=by simp[sameB]
theorem q3W (d n:Nat) (f g:Nat->Bool) (w:World):∀is:List Nat,(∀i∈is,i<n)->(Op.eqItems (d+1) 4 1 (bl f n).toArray (bl g n).toArray is).run Tryz.prog w=.ok (is.all λi=>f i==g i) w
 |[],_=>by simp[Op.eqItems]
 |i::is,h=>by
  have a:=h i (by simp);have c:(part 4 (bl f n).toArray (i*1)).run Tryz.prog w=.ok (.bool (f i)) w:=run_part_plain w (by kernel_rfl) (by rw[Nat.mul_one];simpa using q0x f a);have e:(part 4 (bl g n).toArray (i*1)).run Tryz.prog w=.ok (.bool (g i)) w:=run_part_plain w (by kernel_rfl) (by rw[Nat.mul_one];simpa using q0x g a);have ih:=q3W d n f g w is (λj b=>h j (by simp[b]));simp only[Op.eqItems,Sem.run_bind,c,e,Result.andThen_ok,run_equalIn_bool' w d 4 (f i) (g i) Tryz.underlying4];cases hfg:(f i==g i)
  ·simp[hfg]
  simp[hfg,ih]
theorem q9L:Tryz.prog.cellsOf 4=1:=by kernel_rfl
theorem q8U (d n:Nat) (t:TypeId) (hu:Tryz.prog.underlying t=some (.array n 4)) (f g:Nat->Bool) (w:World):(Op.equalIn (d+2) t (.agg (bl f n).toArray) (.agg (bl g n).toArray)).run Tryz.prog w=.ok (sameB f g n) w:=by
 obtain⟨i,a,_⟩:=eInfoBool;rw[run_equalIn_array w (d+1) _ _ hu a,q9L];exact q3W d n f g w (List.range n) (λi a=>by simpa using a)
theorem q5A (f:Nat->Bool) (n o m:Nat) (h:o+m<=n):(bl f n).toArray.extract o (o+m)=(bl (λi=>f (o+i)) m).toArray:=by
 apply Array.ext';simp only[Array.toList_extract,List.extract_eq_take_drop];refine List.ext_getElem? (λj=>?_);rcases Nat.lt_or_ge j m with a|a
 ·rw[List.getElem?_take_of_lt (by omega),List.getElem?_drop,q0x _ a];exact q0x f (by omega)
 rw[List.getElem?_eq_none (by rw[List.length_take];omega),List.getElem?_eq_none (by rw[q0c];omega)]
theorem q9s (f:Nat->Bool) (w:World):(part 132 (bl f 104).toArray 0).run Tryz.prog w=.ok (.agg (bl f 96).toArray) w:=by
 have h:=q5A f 104 0 96 (by omega);have e:(bl (λi=>f (0+i)) 96)=bl f 96:=q0o (λi _=>by rw[Nat.zero_add]);rw[e]at h;have hs:(sizeOf 132).run Tryz.prog w=.ok 96 w:=by kernel_rfl
 have ha:(isAgg 132).run Tryz.prog w=.ok true w:=by kernel_rfl
 simp only[part,Sem.run_bind,ha,Result.andThen_ok,if_true,hs,Sem.run_pure,h]
theorem q9r (f:Nat->Bool) (w:World):(part 133 (bl f 104).toArray 96).run Tryz.prog w=.ok (.agg (bl (λi=>f (96+i)) 8).toArray) w:=by
 have h:=q5A f 104 96 8 (by omega);have hs:(sizeOf 133).run Tryz.prog w=.ok 8 w:=by kernel_rfl
 have ha:(isAgg 133).run Tryz.prog w=.ok true w:=by kernel_rfl
 simp only[part,Sem.run_bind,ha,Result.andThen_ok,if_true,hs,Sem.run_pure,h]
theorem q7Z : (Tryz.prog.fieldsOf 135).toList = [{ name := "Places", type := 132, offset := 0, embedded := false, tag := "", pkgPath := "", byteOffset := 0 }, { name := "Rules", type := 133, offset := 96, embedded := false, tag := "", pkgPath := "", byteOffset := 96 }] := by kernel_rfl
theorem y2T (f g:Nat->Bool) (w:World):(binOp .eql 135 (.agg (bl f 104).toArray) (.agg (bl g 104).toArray)).run Tryz.prog w=.ok (.bool (sameB f g 104)) w:=by
 rw[run_eql_struct,show(10000:Nat)=9999+1 from rfl,run_equalIn_agg w 9999 135 _ _ (by kernel_rfl) (by kernel_rfl),q7Z];have hs:sameB f g 104=(sameB f g 96&&sameB (λi=>f (96+i)) (λi=>g (96+i)) 8):=by
  rw[Bool.eq_iff_iff,Bool.and_eq_true,q1x,q1x,q1x];constructor
  ·exact λh=>⟨λi c=>h i (by omega),λi c=>h (96+i) (by omega)⟩
  intro ⟨a,b⟩ i c;rcases Nat.lt_or_ge i 96 with h|h
  ·exact a i h
  have:=b (i-96) (by omega)
  rwa [show 96+(i-96)=i by omega]at this
 have d:=q8U 9997 96 132 Tryz.underlying132 f g w;have e:=q8U 9997 8 133 Tryz.underlying133 (λi=>f (96+i)) (λi=>g (96+i)) w;simp only[Op.eqFields,Sem.run_bind,Sem.run_ite];rw[if_pos (by decide)];simp only[q9s,Result.andThen_ok];rw[d];simp only[Result.andThen_ok];rw[hs];cases a:sameB f g 96
 ·simp
 simp only[Bool.not_true,Bool.false_eq_true,if_false];rw[if_pos (by decide)];simp only[q9r,Result.andThen_ok];rw[e];simp only[Result.andThen_ok];cases b:sameB (λi=>f (96+i)) (λi=>g (96+i)) 8<;>simp
variable {a : Act}{ops : Array Oper}{Q : Exit → Act → World → Prop}{l : List (Nat → Bool)}{rest : List Oper}{b base fuel gb i k n s : Nat}{F : Nat → Bool}{o op : Oper}{row : Option Nat}{v vt : Value}{w w' : World}
theorem q3G (hgd:op.guard=none) (x y:Operand) (ho:op.op=.binOp .eql 135 x y 135)
  (f g:Nat->Bool) (hx:a.eval x=.agg (bl f 104).toArray) (hy:a.eval y=.agg (bl g 104).toArray) (h:wpList Tryz.prog ops Q rest (a.put op.dst (.bool (sameB f g 104))) w):wpList Tryz.prog ops Q (op::rest) a w:=
 wpList_plain hgd λ_ b=>by
  unfold Oper.wp execOp;have c:(eqGuard .eql 135 x y (.agg (bl f 104).toArray) (.agg (bl g 104).toArray)).run Tryz.prog w=.ok () w:=
   run_eqGuard_agg (P:=Tryz.prog) w .eql 135 x y _ _ (by kernel_rfl)
  simp only[ho,hx,hy,Sem.run_bind,c,Result.andThen_ok,y2T,Sem.run_pure];exact b _ _ h
def flatS (l:List (Nat->Bool)):List Value:=l.flatMap λf=>bl f 104
theorem q7t (a b:List (Nat->Bool)):flatS (a++b)=flatS a++flatS b:=by simp[flatS]
theorem y0J (f:Nat->Bool):flatS [f]=bl f 104:=by simp[flatS]
theorem q2I:∀(l:List (Nat->Bool)) (s j:Nat) (f:Nat->Bool),l[s]?=some f->j<104->(flatS l)[s*104+j]?=some (.bool (f j))
 |[],s,j,f,h,_=>by simp at h
 |g::l,0,j,f,h,hj=>by
  simp at h;subst h;rw[show flatS (g::l)=bl g 104++flatS l from by simp[flatS],List.getElem?_append_left (by rw[q0c];omega),Nat.zero_mul,Nat.zero_add,q0x _ hj]
 |g::l,s+1,j,f,h,hj=>by
  rw[show flatS (g::l)=bl g 104++flatS l from by simp[flatS],List.getElem?_append_right (by rw[q0c];omega),q0c,show(s+1)*104+j-104=s*104+j by omega];exact q2I l s j f (by simpa using h) hj
def OwnS (base:Nat) (v:Value) (l:List (Nat->Bool)) (w:World):Prop:=w.ownsRow base 135 104 v l.length (flatS l)
theorem OwnS.nil (base:Nat) (w:World):OwnS base (.slice none 0 0) [] w:=⟨rfl,Or.inl ⟨rfl,rfl⟩⟩
theorem OwnS.blk (h:OwnS base v l w):∀k,v.ownBlock=some k->base<=k/\k<w.heap.size:=λk a=>h.lt k a
theorem OwnS.keep (h:OwnS base v l w) (hk:∀k,v.ownBlock=some k->w'.heap[k]?=w.heap[k]?):OwnS base v l w':=by
 refine⟨h.1,?_⟩;rcases h.2 with b|⟨g,cap,a,rfl,c,d,e⟩
 ·exact Or.inl b
 exact Or.inr ⟨g,cap,a,rfl,c,by rw[hk g rfl];exact d,e⟩
theorem OwnS.below (h:OwnS base v l w) (hW:Below w.heap.size w w'):OwnS base v l w':=h.keep (λk a=>hW.block k (h.blk k a).2)
theorem OwnS.grown (h:OwnS base v l w) (hg:w.grownBy w' row) (hne:∀k,v.ownBlock=some k->row≠some k):OwnS base v l w':=
 h.keep (λk a=>hg.block k (h.blk k a).2 (λe=>hne k a e.symm))
theorem OwnS.at_ (h:OwnS base v l w):∃ad cap,v=.slice ad l.length cap/\∀(s:Nat) (f:Nat->Bool),l[s]?=some f->∃g,ad=some ⟨g,0,none⟩/\w.rangeAt g (s*104) (bl f 104):=by
 rcases h.2 with ⟨rfl,e⟩|⟨g,cap,d,rfl,m,n,o,p,q,r⟩
 ·refine⟨none,0,by rw[e],λi x k=>?_⟩;have t:=(List.getElem?_eq_some_iff.1 k).1;omega
 refine⟨some ⟨g,0,none⟩,cap,rfl,λs f hs=>⟨g,rfl,λj v a=>?_⟩⟩;have b:j<104:=by have:=(List.getElem?_eq_some_iff.1 a).1;rw[q0c]at this;exact this
 rw[q0x _ b]at a;cases a;have c:=h.cells (g:=g) rfl (s*104+j) (.bool (f j)) (q2I l s j f hs b);rw[Addr.add_lit,Nat.zero_add]at c;exact c
theorem eInfoNext:∃i,Tryz.prog.info? 135=some i/\i.zero=some (.agg (bl (λ_=>false) 104).toArray)/\i.size=104/\i.bytes=104:=by
 have h:(Tryz.prog.info? 135).isSome=true:=by kernel_rfl
 obtain⟨i,a⟩:=Option.isSome_iff_exists.1 h;refine⟨i,a,?_,?_,?_⟩
 ·have:((Tryz.prog.info? 135).bind (·.zero))=some (.agg (bl (λ_=>false) 104).toArray):=by kernel_rfl
  rw[a]at this;simpa using this
 ·have:((Tryz.prog.info? 135).map (·.size))=some 104:=by kernel_rfl
  rw[a]at this;simpa using this
 have:((Tryz.prog.info? 135).map (·.bytes))=some 104:=by kernel_rfl
 rw[a]at this;simpa using this
theorem q1j (hgd:o.guard=none) (s x:Operand)
  (ho:o.op=.call { callee:=.builtin .append,args:=#[s,x],argTypes:=#[130,130] }) (base:Nat)
  (v:Value) (l:List (Nat->Bool)) (hs:a.eval s=v) (hown:OwnS base v l w) (hn:l.length<=100000)
  (B:Nat) (f:Nat->Bool) (hx:a.eval x=.slice (some ⟨B,0,none⟩) 1 1) (hnews:w.rangeAt B 0 (bl f 104)) (hbase:base<=w.heap.size) (H:Nat) (hH:w.heap.size=H)
  (h:∀g cap w',OwnS base (.slice (some ⟨g,0,none⟩) (l.length+1) cap) (l++[f]) w'->w.grownBy w' v.ownBlock->(v.ownBlock=some g\/g=H)->g<w'.heap.size->wpList Tryz.prog ops Q rest (a.put o.dst (.slice (some ⟨g,0,none⟩) (l.length+1) cap)) w'):wpList Tryz.prog ops Q (o::rest) a w:=by
 obtain⟨i,q,c,d,e⟩:=eInfoNext;refine wpList_append_lies w hgd s x 130 ho base 135 i _ 104 104 Tryz.underlying130 q c d e (by simp[Value.cells,q0c]) (by omega) v l.length (flatS l) hs hown ⟨B,0,none⟩ 1 1 (bl f 104) hx (by rw[q0c]) (λj u b=>by rw[Addr.add_lit];exact hnews j u b) (λu b=>?_) (by omega) (by unfold maxLen;omega) (by omega) hbase H hH ?_
 ·have:=q0w f 104;rw[Array.all_eq_true']at this;exact this u (by simpa using b)
 intro g cap w' k m n p;refine h g cap w' ?_ m n p;unfold OwnS;rw[List.length_append,q7t,y0J];exact k
theorem setAll (off:Nat):∀(cs:List Value) (k:Nat) (Z:Array Value),off+k+cs.length<=Z.size ->
  ((cs.zipIdx k).foldl (λ(Z:Array Value) (c,j)=>Z.setIfInBounds (off+j) c) Z).size=Z.size /\
  ∀i,((cs.zipIdx k).foldl (λ(Z:Array Value) (c,j)=>Z.setIfInBounds (off+j) c) Z)[i]?=if off+k<=i/\i<off+k+cs.length then cs[i-(off+k)]? else Z[i]?
 |[],k,Z,_=>⟨rfl,λi=>by rw[if_neg (by simp)];rfl⟩
 |c::cs,k,Z,h=>by
  simp only[List.length_cons]at h;obtain⟨a,b⟩:=setAll off cs (k+1) (Z.setIfInBounds (off+k) c) (by simp;omega);simp only[List.zipIdx_cons,List.foldl_cons];refine⟨by rw[a];simp,λi=>?_⟩;rw[b i];by_cases e:i=off+k
  ·subst e;rw[if_neg (by omega),if_pos (by simp),Array.getElem?_setIfInBounds_self_of_lt (by omega)];simp
  by_cases e2:off+k<=i/\i<off+k+(cs.length+1)
  ·rw[if_pos (by omega),if_pos (by simpa using e2),show i-(off+k)=(i-(off+(k+1)))+1 by omega];rfl
  rw[if_neg (by omega),if_neg (by simpa using e2),Array.getElem?_setIfInBounds_ne (λx=>e x.symm)]
theorem q6y (place:Nat->Option (Nat × Nat)) (Z:Array Value) (v:Value) (n:Nat) (hp:place 0=some (0,n)) (hv:v.cells.size=n) (hZ:Z.size=n):Instr.fill place Z [(0,v)]=some v.cells:=by
 obtain⟨C,b⟩:=nam v.cells;have a:C.size=n:=by rw[b];exact hv
 have d:Instr.fill place Z [(0,v)]=if (v.cells.size≠n || 0+v.cells.size > Z.size)=true then none else Instr.fill place (v.cells.zipIdx.foldl (λcs (c,j)=>cs.setIfInBounds (0+j) c) Z) []:=by
  simp only[Instr.fill,hp]
 rw[d,<-b,if_neg (by simp[a,hZ]),Instr.fill];congr 1;obtain⟨g,f⟩:=setAll 0 C.toList 0 Z (by simp;omega);have e:C.zipIdx.foldl (λcs (x:Value × Nat)=>cs.setIfInBounds (0+x.2) x.1) Z=(C.toList.zipIdx 0).foldl (λcs (x:Value × Nat)=>cs.setIfInBounds (0+x.2) x.1) Z:=by
  rw[<-Array.foldl_toList,Array.toList_zipIdx]
 rw[e];refine Array.ext_getElem? (λi=>?_);rw[f i];by_cases h:i<n
 ·rw[if_pos (by simp;omega)];simp
 rw[if_neg (by simp;omega),Array.getElem?_eq_none (by omega),Array.getElem?_eq_none (by omega)]
theorem q3T (f:Nat->Bool) (w:World):(Instr.buildSlice 130 1 #[(0,.agg (bl f 104).toArray)]).run Tryz.prog w=.ok (.slice (some ⟨w.heap.size,0,none⟩) 1 1) (w.alloc (.cells (bl f 104).toArray 135)):=by
 have hs:(sizeOf 135).run Tryz.prog w=.ok 104 w:=by kernel_rfl
 have c:=q2Z w;have a:=q6y (λi=>some (i*104,104)) ((Array.range (1*104)).map ((bl (λ_=>false) 104).toArray[·%(bl (λ_=>false) 104).toArray.size]!)) (.agg (bl f 104).toArray) 104 rfl (by simp[Value.cells,q0c]) (by simp);have b:(Value.agg (bl f 104).toArray).cells=(bl f 104).toArray:=rfl;have e2:(Value.agg (bl (λ_=>false) 104).toArray).cells=(bl (λ_=>false) 104).toArray:=rfl;rw[b]at a;simp only[Instr.buildSlice,Sem.run_bind,run_underlying Tryz.underlying130,Result.andThen_ok,hs,Sem.run_ite,c,e2,Sem.run_pure,a,newRow];simp
theorem q4l (hgd:op.guard=none) (x:Operand) (ho:op.op=.buildSlice 130 1 #[(0,x)])
  (f:Nat->Bool) (hx:a.eval x=.agg (bl f 104).toArray) (h:wpList Tryz.prog ops Q rest (a.put op.dst (.slice (some ⟨w.heap.size,0,none⟩) 1 1)) (w.alloc (.cells (bl f 104).toArray 135))):wpList Tryz.prog ops Q (op::rest) a w:=
 wpList_plain hgd λ_ b=>by
  unfold Oper.wp execOp;have c:=q3T f w;have e:(#[((0:Nat),x)].map λ(p:Nat × Operand)=>(p.1,a.eval p.2))=#[(0,.agg (bl f 104).toArray)]:=by simp[hx]
  simp only[ho,Sem.run_bind,e,c,Result.andThen_ok,Sem.run_pure];exact b _ _ h
theorem q5T (w:World):(Instr.build 135 #[]).run Tryz.prog w=.ok (.agg (bl (λ_=>false) 104).toArray) w:=by kernel_rfl
theorem q1A (hgd:op.guard=none) (ho:op.op=.build 135 #[])
  (h:wpList Tryz.prog ops Q rest (a.put op.dst (.agg (bl (λ_=>false) 104).toArray)) w):wpList Tryz.prog ops Q (op::rest) a w:=
 wpList_plain hgd λ_ b=>by
  unfold Oper.wp execOp;have c:=q5T w;have e:((#[]:Array (Nat × Operand)).map λ(p:Nat × Operand)=>(p.1,a.eval p.2))=#[]:=by simp
  simp only[ho,Sem.run_bind,e,c,Result.andThen_ok,Sem.run_pure];exact b _ _ h
def noB:Nat->Bool:=λ_=>false
def numR (l:List (Nat->Bool)) (f:Nat->Bool):Int:=if sameB f noB 104=true then -1 else (l.findIdx (λg=>sameB g f 104):Int)
def numL (l:List (Nat->Bool)) (f:Nat->Bool):List (Nat->Bool):=if sameB f noB 104=true then l else if l.findIdx (λg=>sameB g f 104)<l.length then l else l++[f]
structure GN (gb base:Nat) (K:Int) (vs vt:Value) (l:List (Nat->Bool)) (w:World):Prop where
 c:TC gb [.int .i64 K,vs,vt] w
 o:OwnS base vs l w
theorem GN.below {K:Int}{vs:Value} (h:GN gb base K vs vt l w) (hW:Below w.heap.size w w'):GN gb base K vs vt l w':=⟨h.c.below hW,h.o.below hW⟩
def NumPost (gb base:Nat) (K:Int) (vs vt:Value) (l:List (Nat->Bool)) (f:Nat->Bool) (w:World) (e:Ending) (w':World):Prop:=
 ∃vs',e=.returned (.int .i64 (numR l f))/\GN gb base K vs' vt (numL l f) w'/\Below gb w w'/\w.heap.size<=w'.heap.size /\
  (∀k,k<w.heap.size->k≠gb->vs.ownBlock≠some k->w'.heap[k]?=w.heap[k]?)/\(∀k,vs'.ownBlock=some k->vs.ownBlock=some k\/w.heap.size<=k)
theorem NumPost.same {K:Int}{vs:Value}{f:Nat->Bool}{r:Int} (h:GN gb base K vs vt l w) (hr:r=numR l f) (hl:numL l f=l) (hW:Below w.heap.size w w'):
  NumPost gb base K vs vt l f w (.returned (.int .i64 r)) w':=
 ⟨vs,by rw[hr],by rw[hl];exact h.below hW,hW.mono (Nat.le_of_lt h.c.lt),hW.size,λk a _ _=>hW.block k a,λ_ a=>Or.inl a⟩
theorem q9F {α:Type}{p:α->Bool}{l:List α}{g:α} (hs:l[s]?=some g) (hp:p g=true) (hn:∀i x,i<s->l[i]?=some x->p x=false):l.findIdx p=s:=by
 have a:=(List.getElem?_eq_some_iff.1 hs).1;rw[List.findIdx_eq a];refine⟨by rw[(List.getElem?_eq_some_iff.1 hs).2];exact hp,λj b=>hn j _ b (List.getElem?_eq_getElem (by omega))⟩
theorem q1f {P:Program}{K:Act->World->Prop} (ho:ops[i]?=some o) (hw:Region.wanted o (yielded ops a.tmps)=true)
  (hr:(execOp a.eval o).run P w=.ok (.value v) w') (h:K (a.put o.dst v) w'):wpOp P ops Q i K a w:=
 wpOp_step ho λK' b=>by
  rw[if_pos hw];unfold Oper.wp;rw[hr];exact b _ _ h
theorem q0O {P:Program} (ty:TypeId) (x:Operand) (ho:o.op=.load ty x) (b c:Nat) (hx:a.eval x=.pointer (some ⟨b,c,none⟩)) (cs:List Value) (d:TypeDesc) (hc:w.rangeAt b c cs)
  (hu:P.underlying ty=some d) (hd:d.isRow=true) (hi:(P.info? ty).map (·.size)=some cs.length):(execOp a.eval o).run P w=.ok (.value (.agg cs.toArray)) w:=by
 unfold execOp;simp only[ho,hx,Instr.loadAt,Instr.sureAddr,Sem.run_bind,Sem.run_pure,Result.andThen_ok,run_loadVar_mid w b c ty cs d hc hu hd hi]
theorem q1H (x:Operand) (ho:o.op=.buildSlice 130 1 #[(0,x)]) (f:Nat->Bool) (hx:a.eval x=.agg (bl f 104).toArray):
  (execOp a.eval o).run Tryz.prog w=.ok (.value (.slice (some ⟨w.heap.size,0,none⟩) 1 1)) (w.alloc (.cells (bl f 104).toArray 135)):=by
 unfold execOp;have b:=q3T f w;have e:(#[((0:Nat),x)].map λ(p:Nat × Operand)=>(p.1,a.eval p.2))=#[(0,.agg (bl f 104).toArray)]:=by simp[hx]
 simp only[ho,Sem.run_bind,e,b,Result.andThen_ok,Sem.run_pure]
variable {md : Region.Mode}
theorem q1u {P:Program}{ops:List Oper}{listed:Array Bool} (k:Nat) (hf:(ops.drop k).length=fuel) (hB:Region.seqB md ops.toArray fuel k listed=true)
  (h:wpList P ops.toArray Q (ops.drop k) a w):wpAny P md ops.toArray Q fuel listed a w:=by
 subst hf;exact wpAny_of_seq (ops.drop k) k listed a w (λj=>by simp[List.getElem?_drop]) hB h
theorem q3d {P:Program} (i j k:Nat) {o4 o5 o6:Oper}{v4 v5 v6:Value}{listed L:Array Bool}{a A:Act}{w w':World}
  (h4:ops[i]?=some o4) (h5:ops[j]?=some o5) (h6:ops[k]?=some o6) (g4:o4.guard=none) (g5:o5.guard=none) (g6:o6.guard=none)
  (r0:Region.ready md ops listed=[i,j]) (r1:Region.ready md ops (listed.setIfInBounds i true)=[j]) (r2:Region.ready md ops ((listed.setIfInBounds i true).setIfInBounds j true)=[k])
  (r3:Region.ready md ops (listed.setIfInBounds j true)=[i,k]) (r4:Region.ready md ops ((listed.setIfInBounds j true).setIfInBounds i true)=[k]) (r5:Region.ready md ops ((listed.setIfInBounds j true).setIfInBounds k true)=[i])
  (x4:(execOp a.eval o4).run P w=.ok (.value v4) w) (y4:(execOp (a.put o5.dst v5).eval o4).run P w=.ok (.value v4) w) (z4:(execOp ((a.put o5.dst v5).put o6.dst v6).eval o4).run P w'=.ok (.value v4) w')
  (x5:(execOp a.eval o5).run P w=.ok (.value v5) w) (y5:(execOp (a.put o4.dst v4).eval o5).run P w=.ok (.value v5) w)
  (x6:(execOp (a.put o5.dst v5).eval o6).run P w=.ok (.value v6) w') (y6:(execOp ((a.put o4.dst v4).put o5.dst v5).eval o6).run P w=.ok (.value v6) w') (z6:(execOp ((a.put o5.dst v5).put o4.dst v4).eval o6).run P w=.ok (.value v6) w')
  (l1:((listed.setIfInBounds i true).setIfInBounds j true).setIfInBounds k true=L) (l2:((listed.setIfInBounds j true).setIfInBounds i true).setIfInBounds k true=L) (l3:((listed.setIfInBounds j true).setIfInBounds k true).setIfInBounds i true=L)
  (f1:((a.put o4.dst v4).put o5.dst v5).put o6.dst v6=A) (f2:((a.put o5.dst v5).put o4.dst v4).put o6.dst v6=A) (f3:((a.put o5.dst v5).put o6.dst v6).put o4.dst v4=A)
  (fin:wpAny P md ops Q fuel L A w'):wpAny P md ops Q (fuel+3) listed a w:=by
 refine wpAny_all r0 (by simp) (λq b=>?_);rcases List.mem_cons.1 b with rfl|b
 ·refine q1f h4 (by simp[Region.wanted,g4]) x4 (wpAny_all r1 (by simp) (λq b=>?_));rw[List.mem_singleton.1 b];refine q1f h5 (by simp[Region.wanted,g5]) y5 (wpAny_all r2 (by simp) (λq b=>?_));rw[List.mem_singleton.1 b];refine q1f h6 (by simp[Region.wanted,g6]) y6 ?_;rw[l1,f1];exact fin
 rw[List.mem_singleton.1 b];refine q1f h5 (by simp[Region.wanted,g5]) x5 (wpAny_all r3 (by simp) (λq b=>?_));rcases List.mem_cons.1 b with rfl|b
 ·refine q1f h4 (by simp[Region.wanted,g4]) y4 (wpAny_all r4 (by simp) (λq b=>?_));rw[List.mem_singleton.1 b];refine q1f h6 (by simp[Region.wanted,g6]) z6 ?_;rw[l2,f2];exact fin
 rw[List.mem_singleton.1 b];refine q1f h6 (by simp[Region.wanted,g6]) x6 (wpAny_all r5 (by simp) (λq b=>?_));rw[List.mem_singleton.1 b];refine q1f h4 (by simp[Region.wanted,g4]) z4 ?_;rw[l3,f3];exact fin
theorem q8n (gb base:Nat) (K:Int) (vs vt:Value) (l:List (Nat->Bool)) (f:Nat->Bool) (w:World) (hG:GN gb base K vs vt l w) (hgb:gb<base) (hbw:base<=w.heap.size) (hl:l.length<=1000):
  Calls Tryz.prog 129 #[.pointer (some ⟨gb,0,none⟩),.agg (bl f 104).toArray] w (NumPost gb base K vs vt l f w):=by
 obtain⟨W,hW⟩:∃W,W=w.alloc (.cells (bl f 104).toArray 135):=⟨_,rfl⟩;have E:Below w.heap.size w W:=by rw[hW];exact box_bel _ _
 have I:TC w.heap.size (bl f 104) W:=by rw[hW];exact TC.boxed w (bl f 104) 135
 obtain⟨x,B⟩:∃x,x=sameB f noB 104:=⟨_,rfl⟩;have d:=I.range;have N:Hid (GN gb base K vs vt l w):=hG;have HW:Hid (W=w.alloc (.cells (bl f 104).toArray 135)):=hW;have R:Hid (x=sameB f (λ_=>false) 104):=B;clear hG hW B;have V:=E.size;cases x
 case true=>
  go_enter Tryz.func129,Tryz.ntmps129;go_wp2_with (first|(rw[<-HW.out];refine wpList_load_mid rfl 135 _ rfl w.heap.size 0 rfl (bl f 104) _ d Tryz.underlying135 rfl (by rw[q0c];exact q0B) ?_)|(refine q1A rfl rfl ?_)|(refine q3G rfl _ _ rfl f (λ_=>false) rfl rfl ?_;rw[<-R.out]));go_ret;have t:sameB f noB 104=true:=R.out.symm;exact NumPost.same N.out (by rw[numR,if_pos t]) (by rw[numL,if_pos t]) E
 go_enter Tryz.func129,Tryz.ntmps129;go_wp2_with (first|(rw[<-HW.out];refine wpList_load_mid rfl 135 _ rfl w.heap.size 0 rfl (bl f 104) _ d Tryz.underlying135 rfl (by rw[q0c];exact q0B) ?_)|(refine q1A rfl rfl ?_)|(refine q3G rfl _ _ rfl f (λ_=>false) rfl rfl ?_;rw[<-R.out]));have t:¬sameB f noB 104=true:=by have:=R.out;rw[show sameB f noB 104=false from this.symm];simp
 have HR:Hid (numR l f=(l.findIdx (λg=>sameB g f 104):Int)):=by show _=_;rw[numR,if_neg t]
 have HL:Hid (numL l f=if l.findIdx (λg=>sameB g f 104)<l.length then l else l++[f]):=by show _=_;rw[numL,if_neg t]
 clear t R HW
 go_loopw [5] (λx w'=>∃s:Nat,s<=l.length/\x=.int .i64 s/\Hid (∀i g,i<s->l[i]?=some g->sameB g f 104=false)/\Below w.heap.size w w'/\TC w.heap.size (bl f 104) w') (λx _=>l.length-(intOf x).toNat)
 ·exact⟨0,by omega,rfl,λi g hi=>by omega,E,I⟩
 clear E I d V;obtain⟨s,hs,rfl,HF,T,hn⟩:=hrel;have G:=N.out.below T;obtain⟨ad,cap,S,h2⟩:=G.o.at_;have c1:=(G.c 1 _ rfl).1;have d:=hn.range;by_cases H:s<l.length
 ·have aa:(s:Int)<(l.length:Int):=by omega
  obtain⟨g,Y⟩:∃g,l[s]?=some g:=⟨_,List.getElem?_eq_getElem H⟩;obtain⟨gk,e2,k2⟩:=h2 s g Y;subst e2;rw[S]at c1;have Hg:=hyd Y;obtain⟨y,hy⟩:=nam (sameB g f 104);have Hy:=hyd hy;obtain⟨n,b⟩:=nam l.length;have C:=hyd b;rw[<-b]at c1 aa hl;clear h2 S Y hy b G;go_wp2_with fail;refine wp_region_still_tail 8 (by kernel_rfl) (by kernel_rfl) ?_;simp only[List.take_succ_cons,List.take_zero,List.drop_succ_cons,List.drop_zero];change wpStill _ _ wr.drew (λa'=>wpList _ _ _ _ a' wr.drew) _ _
  repeat still_step
  refine q1Q rfl 135 _ rfl gk (s*104) rfl (bl g 104) _ (λj v J=>k2 j v J) Tryz.underlying135 rfl (by rw[q0c];exact q0B) ?_;refine q1Q rfl 135 _ rfl w.heap.size 0 rfl (bl f 104) _ (λj v J=>d j v J) Tryz.underlying135 rfl (by rw[q0c];exact q0B) ?_;refine wpStill_nil ?_;refine q3G rfl _ _ rfl g f rfl rfl ?_;rw[<-Hy.out];have m:=T.drew;have ai:=hn;clear c1 k2 d hn T;cases y
  ·go_wp2_with fail;go_roundw
   ·refine⟨s+1,by omega,by go_num,λi x hi B=>?_,m,ai⟩;rcases Nat.lt_or_ge i s with h|h
    ·exact HF.out i x h B
    rw[show i=s by omega,Hg.out]at B;cases B;exact Hy.out.symm
   simp[intOf];omega
  go_wp2_with fail;go_ret;have e:=q9F Hg.out Hy.out.symm (λi x hi B=>HF.out i x hi B);exact NumPost.same N.out (by rw[HR.out,e]) (by rw[HL.out,e,if_pos H]) m
 have ah:¬(s:Int)<(l.length:Int):=by omega
 have e:l.findIdx (λg=>sameB g f 104)=l.length:=List.findIdx_eq_length.2 (λx B=>by
  obtain⟨i,hi,rfl⟩:=List.mem_iff_getElem.1 B;exact HF.out i _ (by omega) (List.getElem?_eq_getElem hi))
 have ac:Hid (numR l f=(l.length:Int)):=by show _=_;rw[HR.out,e]
 have ab:Hid (numL l f=l++[f]):=by show _=_;rw[HL.out,e,if_neg (by omega)]
 obtain⟨n,b⟩:=nam l.length;have C:=hyd b;rw[<-b]at ah hl;rw[S,<-b]at c1;have Q:Hid (vs=.slice ad n cap):=by show _=_;rw[S,<-b]
 clear h2 S HF HR HL hs H b e;go_wp2_with fail;refine wp_region_any (by kernel_rfl) ?_;change wpAny _ _ _ _ 11 _ _ wr.drew;refine wpAny_take (i:=0) (oi:=?o0) (v:=?v0) ?hi0 ?hs0 ?hf0 ?hr0 ?hQ0 (Or.inl ⟨?hw0,?hy0⟩) ?rest0
 case hi0=>simp only[List.getElem?_toArray,List.getElem?_cons_zero];rfl
 case hs0=>kernel_rfl
 case hf0=>kernel_rfl
 case hr0=>kernel_rfl
 case hQ0=>exact λ_ _ _ h=>h
 case hw0=>rfl
 case hy0=>intro w';go_simp;first|done|with_reducible rfl
 (try simp only[psm])
 refine wpAny_take (i:=1) (oi:=?o1) (v:=?v1) ?hi1 ?hs1 ?hf1 ?hr1 ?hQ1 (Or.inl ⟨?hw1,?hy1⟩) ?rest1
 case hi1=>simp only[gel];rfl
 case hs1=>kernel_rfl
 case hf1=>kernel_rfl
 case hr1=>kernel_rfl
 case hQ1=>exact λ_ _ _ h=>h
 case hw1=>rfl
 case hy1=>intro w';go_simp;first|done|with_reducible rfl
 (try simp only[psm])
 refine wpAny_take (i:=2) (oi:=?o2) (v:=?v2) ?hi2 ?hs2 ?hf2 ?hr2 ?hQ2 (Or.inl ⟨?hw2,?hy2⟩) ?rest2
 case hi2=>simp only[gel];rfl
 case hs2=>kernel_rfl
 case hf2=>kernel_rfl
 case hr2=>kernel_rfl
 case hQ2=>exact λ_ _ _ h=>h
 case hw2=>rfl
 case hy2=>intro w';go_simp;first|done|with_reducible rfl
 (try simp only[psm])
 refine wpAny_take (i:=3) (oi:=?o3) (v:=?v3) ?hi3 ?hs3 ?hf3 ?hr3 ?hQ3 (Or.inl ⟨?hw3,?hy3⟩) ?rest3
 case hi3=>simp only[gel];rfl
 case hs3=>kernel_rfl
 case hf3=>kernel_rfl
 case hr3=>kernel_rfl
 case hQ3=>exact λ_ _ _ h=>h
 case hw3=>rfl
 case hy3=>intro w';go_simp;first|done|with_reducible rfl
 (try simp only[psm])
 have m:=T.drew;have Gd:=N.out.below m;obtain⟨O,r⟩:=nam (wr.drew.alloc (.cells (bl f 104).toArray 135));have z:O.rangeAt wr.drew.heap.size 0 (bl f 104):=by rw[r];exact(TC.boxed wr.drew (bl f 104) 135).range
 have x3:Below wr.drew.heap.size wr.drew O:=by rw[r];exact box_bel _ _
 have P:=Gd.below x3;have M:=m.trans (x3.mono m.size);have ag:base<=O.heap.size:=by have:=M.size;omega
 have q4:=c1;have al:O.cell? ⟨gb,1,none⟩=some (.slice ad n cap):=by rw[<-Q.out];exact(P.c 1 _ rfl).1
 refine q3d (fuel:=4) 4 5 6 (o4:=?o4) (o5:=?o5) (o6:=?o6) (v4:=.slice ad n cap) (v5:=.agg (bl f 104).toArray) (v6:=.slice (some ⟨wr.drew.heap.size,0,none⟩) 1 1) (L:=#[true,true,true,true,true,true,true,false,false,false,false]) (A:=?A) (w':=O)
  ?h4 ?h5 ?h6 ?g4 ?g5 ?g6 ?r0 ?r1 ?r2 ?r3 ?r4 ?r5 ?x4 ?y4 ?z4 ?x5 ?y5 ?x6 ?y6 ?z6 ?l1 ?l2 ?l3 ?f1 ?f2 ?f3 ?fin
 case h4=>simp only[gel];rfl
 case h5=>simp only[gel];rfl
 case h6=>simp only[gel];rfl
 case g4=>rfl
 case g5=>rfl
 case g6=>rfl
 case r0=>kernel_rfl
 case r1=>kernel_rfl
 case r2=>kernel_rfl
 case r3=>kernel_rfl
 case r4=>kernel_rfl
 case r5=>kernel_rfl
 case x4=>go_simp
 case y4=>simp only[psm];go_simp
 case z4=>clear r;simp only[psm];go_simp
 case x5=>exact q0O 135 _ rfl w.heap.size 0 rfl (bl f 104) _ (λj v J=>d j v J) Tryz.underlying135 rfl (by rw[q0c];exact q0B)
 case y5=>exact q0O 135 _ rfl w.heap.size 0 rfl (bl f 104) _ (λj v J=>d j v J) Tryz.underlying135 rfl (by rw[q0c];exact q0B)
 case x6=>rw[r];exact q1H _ rfl f rfl
 case y6=>rw[r];exact q1H _ rfl f rfl
 case z6=>rw[r];exact q1H _ rfl f rfl
 case l1=>kernel_rfl
 case l2=>kernel_rfl
 case l3=>kernel_rfl
 case f1=>simp only[psm];rfl
 case f2=>simp only[psm]
 case f3=>simp only[psm]
 refine q1u 7 rfl (by kernel_rfl) ?_;simp only[List.drop_succ_cons,List.drop_zero];obtain⟨D,hD⟩:=nam wr.drew.heap.size;rw[<-hD]at z ⊢;have HK:Hid (∀w5,O.grownBy w5 vs.ownBlock->TC gb [.int .i64 K,vs,vt] w5):=λw5 Y=>
  P.c.block (Y.block _ P.c.lt (λe=>by have:=(P.o.blk _ e.symm).1;omega))
 have af:=P.o;clear c1 d hn T G m Gd r x3 hD q4 al;refine q1j (by rfl) _ _ (by rfl) base vs l (by rw[Q.out];rfl) af (by rw[<-C.out];omega) D f (by rfl) z ag _ rfl ?_;rw[<-C.out];intro g u w5 U a Z ap;obtain⟨c6,am⟩:=HK.out w5 a 1 _ rfl;have an:=(U.blk g rfl).1;clear z;go_wp2_with fail;go_ret;have ae:=HK.out w5 a;have ao:=N.out.c.lt;have X:=N.out.o.blk;have B5:Below gb w w5:=(M.mono (by omega)).grown a (by have:=M.size;omega) (λq hq=>by have:=(X q hq).1;omega);have hb:∀k,k≠gb->(w5.setCell ⟨gb,1,none⟩ (.slice (some ⟨g,0,none⟩) (n+1) u)).heap[k]?=w5.heap[k]?:=λk F=>Below.heap_setCell w5 ⟨gb,1,none⟩ _ k (λe=>F e)
 have B6:=B5.setCell (p:=⟨gb,1,none⟩) (Nat.le_refl _) (.slice (some ⟨g,0,none⟩) (n+1) u);refine⟨.slice (some ⟨g,0,none⟩) (n+1) u,?_,⟨ae.set 1 (by simp) _,?_⟩,B6,B6.size,λk F aj ak=>?_,λk F=>?_⟩
 ·rw[ac.out,C.out];rfl
 ·rw[ab.out];exact U.keep (λk F=>hb k (by cases F;show g≠gb;omega))
 ·rw[hb k aj,a.block k (by have:=M.size;omega) (λe=>ak e.symm),M.block k F]
 cases F;rcases Z with h|h
 ·exact Or.inl h
 exact Or.inr (by have:=M.size;show w.heap.size<=g;omega)
inductive Exp (A:(Nat->Bool)->Nat->Nat->Bool) (F:Nat->Bool) (ls:List Nat):Nat->Nat->List (Nat->Bool)->List Int->Prop
 |first:Exp A F ls 0 0 [F] []
 |kind {s k:Nat}{l:List (Nat->Bool)}{t:List Int}{f:Nat->Bool}{b:Nat} (h:Exp A F ls s k l t) (hf:l[s]?=some f) (hb:ls[k]?=some b) (hr:numR l (A f b)<200):
   Exp A F ls s (k+1) (numL l (A f b)) (t++[numR l (A f b)])
 |set {s:Nat}{l:List (Nat->Bool)}{t:List Int} (h:Exp A F ls s ls.length l t) (hs:s<l.length):Exp A F ls (s+1) 0 l t
theorem q7X (l:List (Nat->Bool)) (f:Nat->Bool):-1<=numR l f:=by unfold numR;split<;>omega
theorem q2F (l:List (Nat->Bool)) (f:Nat->Bool):(numL l f).length=l.length\/((numL l f).length=l.length+1/\numR l f=l.length):=by
 unfold numL numR;split
 ·exact Or.inl rfl
 split
 ·exact Or.inl rfl
 have:=List.findIdx_le_length (p:=λg=>sameB g f 104) (xs:=l);exact Or.inr ⟨by simp,by omega⟩
theorem y1x (l:List (Nat->Bool)) (f:Nat->Bool):∃u,numL l f=l++u:=by
 unfold numL;split
 ·exact⟨[],by simp⟩
 split
 ·exact⟨[],by simp⟩
 exact⟨[f],rfl⟩
theorem q7Y {f g:Nat->Bool} (h:l[s]?=some g):(numL l f)[s]?=some g:=by
 obtain⟨u,e⟩:=y1x l f;rw[e,List.getElem?_append_left (List.getElem?_eq_some_iff.1 h).1];exact h
theorem q6h (l:List (Nat->Bool)) (f:Nat->Bool):numR l f<(numL l f).length:=by
 unfold numL numR;split
 ·omega
 split
 ·omega
 have:=List.findIdx_le_length (p:=λg=>sameB g f 104) (xs:=l);simp;omega
theorem y2I {f:Nat->Bool} (h:sameB f noB 104=false):∃(k:Nat) (g:Nat->Bool),numR l f=k/\(numL l f)[k]?=some g/\sameB g f 104=true:=by
 have b:¬sameB f noB 104=true:=by simp[h]
 rw[numR,numL,if_neg b,if_neg b];by_cases a:l.findIdx (λg=>sameB g f 104)<l.length
 ·rw[if_pos a];exact⟨_,_,rfl,List.getElem?_eq_getElem a,List.findIdx_getElem (p:=λg=>sameB g f 104) (w:=a)⟩
 rw[if_neg a];have e:l.findIdx (λg=>sameB g f 104)=l.length:=by have:=List.findIdx_le_length (p:=λg=>sameB g f 104) (xs:=l);omega
 rw[e];exact⟨_,f,rfl,by simp,(q1x _ _ _).2 (λ_ _=>rfl)⟩
theorem Exp.size {A:(Nat->Bool)->Nat->Nat->Bool}{ls:List Nat}{t:List Int} (h:Exp A F ls s k l t):0<l.length/\l.length<=200/\t.length=s*ls.length+k/\k<=ls.length/\s<=l.length:=by
 induction h with
 |first=>simp
 |kind h hf hb hr ih=>
  have a:=(List.getElem?_eq_some_iff.1 hb).1;rename_i l t f b;have:=q2F l (A f b);refine⟨by omega,by omega,by simp;omega,by omega,by omega⟩
 |set h hs ih=>exact⟨by omega,by omega,by rw[Nat.succ_mul];omega,by omega,by omega⟩
theorem Exp.range {A:(Nat->Bool)->Nat->Nat->Bool}{ls:List Nat}{t:List Int} (h:Exp A F ls s k l t):∀x∈t,-1<=x/\x<l.length:=by
 induction h with
 |first=>intro x c;cases c
 |kind h hf hb hr ih=>
  rename_i l t f b;intro x c;rcases List.mem_append.1 c with a|a
  ·have:=ih x a;have:=q2F l (A f b);omega
  rw[List.mem_singleton.1 a];exact⟨q7X _ _,q6h _ _⟩
 |set h hs ih=>exact ih
theorem q1C (w:World):(zeroValue 247).run Tryz.prog w=.ok (.agg (bl (λ_=>false) 193).toArray) w:=by kernel_rfl
theorem q0h:(Tryz.prog.info? 247).map (·.size)=some 193:=by kernel_rfl
def rnNo:Nat->Bool:=λi=>i==0
theorem q6X (w:World):(Instr.build 247 #[(0,.bool true)]).run Tryz.prog w=.ok (.agg (bl rnNo 193).toArray) w:=by kernel_rfl
theorem q4m (hgd:op.guard=none) (x:Operand) (ho:op.op=.build 247 #[(0,x)]) (hx:a.eval x=.bool true)
  (h:wpList Tryz.prog ops Q rest (a.put op.dst (.agg (bl rnNo 193).toArray)) w):wpList Tryz.prog ops Q (op::rest) a w:=
 wpList_plain hgd λ_ b=>by
  unfold Oper.wp execOp;have c:=q6X w;have e:(#[((0:Nat),x)].map λ(p:Nat × Operand)=>(p.1,a.eval p.2))=#[(0,.bool true)]:=by simp[hx]
  simp only[ho,Sem.run_bind,e,c,Result.andThen_ok,Sem.run_pure];exact b _ _ h
theorem q0I {t:Nat}{f:Nat->Bool} (h:TC t (bl f n) w):w.there t 0 n:=by have:=h.there;rw[q0c]at this;exact this
theorem q2U (w:World):Calls Tryz.prog 208 #[] w λe w'=>e=.returned (.agg (bl rnNo 193).toArray)/\Below w.heap.size w w':=by
 have t:=q1C;obtain⟨W,j⟩:=nam (w.alloc (.cells (bl (λ_=>false) 193).toArray 247));have T:TC w.heap.size (bl (λ_=>false) 193) W:=by rw[j];exact TC.boxed _ _ _
 have B:Below w.heap.size w W:=by rw[j];exact box_bel _ _
 obtain⟨L,i⟩:=nam (bl rnNo 193);have b:L.length=193:=by rw[i];exact q0c _ _
 have h:=q0I T;have o:=q0e w.heap.size L 0 W;have g:=World.rangeAt_setCells_same W w.heap.size 0 L (by rw[b];exact h);have a:=run_loadVar_mid (P:=Tryz.prog) (W.setCells w.heap.size 0 L) w.heap.size 0 247 L _ g Tryz.underlying247 rfl (by rw[b];exact q0h);have m:=B.grown o B.size (λq r=>by cases r;omega);obtain⟨s,c⟩:=nam (W.setCells w.heap.size 0 L);rw[<-c]at a m;have l:=hyd c;have p:=hyd j;have f:=hyd a;have k:Hid (L.toArray.all (·.oneCell')=true):=by show _=true;rw[i];exact q0w _ _
 have d:=hyd b;have n:=hyd i;clear j i b o g a c T B;go_enter Tryz.func208,Tryz.ntmps208;go_wp2_with (first|(refine q4m rfl _ rfl rfl ?_;rw[<-n.out,<-p.out])|(refine wpList_store_mid rfl 247 _ _ rfl w.heap.size 0 L.toArray rfl rfl (by simpa[d.out]using h) (by simpa[d.out]using q0h) k.out ?_;rw[List.toList_toArray,<-l.out]));refine bodyPost_ret (v:=.agg L.toArray) (res_load1 Tryz.results208 rfl f.out) rfl ?_;exact⟨by rw[n.out],m⟩
theorem Bm.TC.sub {f:Nat->Bool} (h:TC b (bl f n) w) (o m:Nat) (hm:o+m<=n):w.rangeAt b o (bl (λi=>f (o+i)) m):=λk v a=>by
 have c:k<m:=by have:=(List.getElem?_eq_some_iff.1 a).1;rw[q0c]at this;exact this
 rw[q0x _ c]at a;exact(h (o+k) v (by rw[q0x _ (by omega)];exact a)).1
theorem Bm.TC.thereAt {f:Nat->Bool} (h:TC b (bl f n) w) (o m:Nat) (hm:o+m<=n):w.there b o m:=λj d=>by
 obtain⟨a,c⟩:=h (o+j) _ (q0x f (by omega));exact⟨by rw[a];rfl,c⟩
def over (f:Nat->Bool) (o m:Nat) (g:Nat->Bool):Nat->Bool:=λj=>if o<=j/\j<o+m then g (j-o) else f j
theorem Bm.TC.setPart {f:Nat->Bool} (h:TC b (bl f n) w) (o m:Nat) (g:Nat->Bool) (hm:o+m<=n):TC b (bl (over f o m g) n) (w.setCells b o (bl g m)):=by
 have a:=h.setBools ((List.range m).map g) o f w (by simpa using hm);rw[<-y2p]at a;rw[q0o (λi c=>?_)]
 ·exact a
 unfold over;simp only[List.length_map,List.length_range];by_cases e:o<=i/\i<o+m
 ·rw[if_pos e,if_pos e];simp[List.getD_eq_getElem?_getD,show i-o<m by omega]
 rw[if_neg e,if_neg e]
theorem q7I (b:Bool) (w:World):(Instr.build 247 #[(0,.bool b)]).run Tryz.prog w=.ok (.agg (bl (λi=>i==0&&b) 193).toArray) w:=by
 cases b
 ·kernel_rfl
 kernel_rfl
theorem q2L (hgd:op.guard=none) (x:Operand) (ho:op.op=.build 247 #[(0,x)]) (b:Bool) (hx:a.eval x=.bool b)
  (h:wpList Tryz.prog ops Q rest (a.put op.dst (.agg (bl (λi=>i==0&&b) 193).toArray)) w):wpList Tryz.prog ops Q (op::rest) a w:=
 wpList_plain hgd λ_ c=>by
  unfold Oper.wp execOp;have d:=q7I b w;have e:(#[((0:Nat),x)].map λ(p:Nat × Operand)=>(p.1,a.eval p.2))=#[(0,.bool b)]:=by simp[hx]
  simp only[ho,Sem.run_bind,e,d,Result.andThen_ok,Sem.run_pure];exact c _ _ h
end Go.Proofs.YtoaaklhpmhjhkaaGreat
