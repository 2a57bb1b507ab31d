import Derived.ChangeKeysEq
import Derived.Laws.StructEq
import Derived.Test.YtoaaklhpmhjhkabGreatC08
set_option maxRecDepth 100000
set_option maxHeartbeats 4000000
set_option linter.all false
namespace Go.Proofs.YtoaaklhpmhjhkabGreat
open Go.RowKit
open Bm
def Yn (f g:Nat->Bool) (n:Nat):Bool:=(List.range n).all fun i=>f i==g i
theorem XV (f g:Nat->Bool) (n:Nat):Yn f g n=true<->∀i,i<n->f i=g i:=by simp[Yn]
theorem SU (d n:Nat) (f g:Nat->Bool) (w:World):∀is:List Nat,(∀i∈is,i<n)->(Op.eqItems (d+1) 4 1 (bl f n).toArray (bl g n).toArray is).run Tryz.prog w=.ok (is.all fun i=>f i==g i) w
 |[],_=>by simp[Op.eqItems]
 |i::is,h=>by
  have hi:=h i (by simp);have p1:(part 4 (bl f n).toArray (i*1)).run Tryz.prog w=.ok (.bool (f i)) w:=run_part_plain w (by kernel_rfl) (by rw[Nat.mul_one];simpa using YK f hi);have p2:(part 4 (bl g n).toArray (i*1)).run Tryz.prog w=.ok (.bool (g i)) w:=run_part_plain w (by kernel_rfl) (by rw[Nat.mul_one];simpa using YK g hi);have ih:=SU d n f g w is (fun j hj=>h j (by simp[hj]));simp only[Op.eqItems,Sem.run_bind,p1,p2,Result.andThen_ok,run_equalIn_bool' w d 4 (f i) (g i) Tryz.underlying4];cases hfg:(f i==g i)
  ·simp[hfg]
  ·simp[hfg,ih]
theorem Ma:Tryz.prog.cellsOf 4=1:=by kernel_rfl
theorem Ng (d n:Nat) (t:TypeId) (hu:Tryz.prog.underlying t=some (.array n 4)) (f g:Nat->Bool) (w:World):(Op.equalIn (d+2) t (.agg (bl f n).toArray) (.agg (bl g n).toArray)).run Tryz.prog w=.ok (Yn f g n) w:=by
 obtain⟨i,hi,_⟩:=Km;rw[run_equalIn_array w (d+1) _ _ hu hi,Ma];exact SU d n f g w (List.range n) (fun i hi=>by simpa using hi)
theorem Qy (f:Nat->Bool) (n o m:Nat) (h:o+m<=n):(bl f n).toArray.extract o (o+m)=(bl (fun i=>f (o+i)) m).toArray:=by
 apply Array.ext';simp only[Array.toList_extract,List.extract_eq_take_drop];refine List.ext_getElem? (fun j=>?_);rcases Nat.lt_or_ge j m with hj|hj
 ·rw[List.getElem?_take_of_lt (by omega),List.getElem?_drop,YK _ hj];exact YK f (by omega)
 ·rw[List.getElem?_eq_none (by rw[List.length_take];omega),List.getElem?_eq_none (by rw[Y7];omega)]
theorem MA (f:Nat->Bool) (w:World):(part 59 (bl f 104).toArray 0).run Tryz.prog w=.ok (.agg (bl f 96).toArray) w:=by
 have h:=Qy f 104 0 96 (by omega);have e:(bl (fun i=>f (0+i)) 96)=bl f 96:=YR (fun i _=>by rw[Nat.zero_add]);rw[e]at h;have hs:(sizeOf 59).run Tryz.prog w=.ok 96 w:=by kernel_rfl
 have ha:(isAgg 59).run Tryz.prog w=.ok true w:=by kernel_rfl
 simp only[part,Sem.run_bind,ha,Result.andThen_ok,if_true,hs,Sem.run_pure,h]
theorem MB (f:Nat->Bool) (w:World):(part 60 (bl f 104).toArray 96).run Tryz.prog w=.ok (.agg (bl (fun i=>f (96+i)) 8).toArray) w:=by
 have h:=Qy f 104 96 8 (by omega);have hs:(sizeOf 60).run Tryz.prog w=.ok 8 w:=by kernel_rfl
 have ha:(isAgg 60).run Tryz.prog w=.ok true w:=by kernel_rfl
 simp only[part,Sem.run_bind,ha,Result.andThen_ok,if_true,hs,Sem.run_pure,h]
theorem NK : (Tryz.prog.fieldsOf 62).toList = [{ name := "Places", type := 59, offset := 0, embedded := false, tag := "", pkgPath := "", byteOffset := 0 }, { name := "Rules", type := 60, offset := 96, embedded := false, tag := "", pkgPath := "", byteOffset := 96 }] := by kernel_rfl
theorem G5 (f g:Nat->Bool) (w:World):(binOp .eql 62 (.agg (bl f 104).toArray) (.agg (bl g 104).toArray)).run Tryz.prog w=.ok (.bool (Yn f g 104)) w:=by
 rw[run_eql_struct,show(10000:Nat)=9999+1 from rfl,run_equalIn_agg w 9999 62 _ _ (by kernel_rfl) (by kernel_rfl),NK];have hs:Yn f g 104=(Yn f g 96&&Yn (fun i=>f (96+i)) (fun i=>g (96+i)) 8):=by
  rw[Bool.eq_iff_iff,Bool.and_eq_true,XV,XV,XV];constructor
  ·exact fun h=>⟨fun i hi=>h i (by omega),fun i hi=>h (96+i) (by omega)⟩
  ·intro ⟨h1,h2⟩ i hi;rcases Nat.lt_or_ge i 96 with h|h
   ·exact h1 i h
   ·have:=h2 (i-96) (by omega)
    rwa [show 96+(i-96)=i by omega]at this
 have q1:=Ng 9997 96 59 u_b f g w;have q2:=Ng 9997 8 60 Tryz.underlying60 (fun i=>f (96+i)) (fun i=>g (96+i)) w;simp only[Op.eqFields,Sem.run_bind,Sem.run_ite];rw[if_pos (by decide)];simp only[MA,Result.andThen_ok];rw[q1];simp only[Result.andThen_ok];rw[hs];cases h1:Yn f g 96
 ·simp
 ·simp only[Bool.not_true,Bool.false_eq_true,if_false];rw[if_pos (by decide)];simp only[MB,Result.andThen_ok];rw[q2];simp only[Result.andThen_ok];cases h2:Yn (fun i=>f (96+i)) (fun i=>g (96+i)) 8<;>simp
variable {a:Act}{listed:Array Bool}{ops:Array Oper}{Q:Exit->Act->World->Prop}{l:List (N_)}{ls:List Nat}{rest:List Oper}{b base fuel gb i k n t:Nat}{F:N_}{o op:Oper}{row:Option Nat}{v vs vt:Value}{w w':World}
theorem TY (hgd:op.guard=none) (x y:Operand) (ho:op.op=.binOp .eql 62 x y 62)
  (f g:Nat->Bool) (hx:a.eval x=.agg (bl f 104).toArray) (hy:a.eval y=.agg (bl g 104).toArray) (h:wpList Tryz.prog ops Q rest (a.put op.dst (.bool (Yn f g 104))) w):wpList Tryz.prog ops Q (op::rest) a w:=
 wpList_plain hgd fun _ hK=>by
  unfold Oper.wp execOp;have hq:(eqGuard .eql 62 x y (.agg (bl f 104).toArray) (.agg (bl g 104).toArray)).run Tryz.prog w=.ok () w:=
   run_eqGuard_agg (P:=Tryz.prog) w .eql 62 x y _ _ (by kernel_rfl)
  simp only[ho,hx,hy,Sem.run_bind,hq,Result.andThen_ok,G5,Sem.run_pure];exact hK _ _ h
def XH (l:List (Nat->Bool)):List Value:=l.flatMap fun f=>bl f 104
theorem OG (a b:List (Nat->Bool)):XH (a++b)=XH a++XH b:=by simp[XH]
theorem Kx (f:Nat->Bool):XH [f]=bl f 104:=by simp[XH]
theorem Vo:∀(l:List (Nat->Bool)) (s j:Nat) (f:Nat->Bool),l[s]?=some f->j<104->(XH l)[s*104+j]?=some (.bool (f j))
 |[],s,j,f,h,_=>by simp at h
 |g::l,0,j,f,h,hj=>by
  simp at h;subst h;rw[show XH (g::l)=bl g 104++XH l from by simp[XH],List.getElem?_append_left (by rw[Y7];omega),Nat.zero_mul,Nat.zero_add,YK _ hj]
 |g::l,s+1,j,f,h,hj=>by
  rw[show XH (g::l)=bl g 104++XH l from by simp[XH],List.getElem?_append_right (by rw[Y7];omega),Y7,show(s+1)*104+j-104=s*104+j by omega];exact Vo l s j f (by simpa using h) hj
def Ya (base:Nat) (v:Value) (l:List (Nat->Bool)) (w:World):Prop:=w.ownsRow base 62 104 v l.length (XH l)
theorem Ya.nil (base:Nat) (w:World):Ya base (.slice none 0 0) [] w:=⟨rfl,Or.inl ⟨rfl,rfl⟩⟩
theorem Ya.blk (h:Ya base v l w):∀k,v.ownBlock=some k->base<=k/\k<w.heap.size:=fun k hk=>h.lt k hk
theorem Ya.keep (h:Ya base v l w) (hk:∀k,v.ownBlock=some k->w'.heap[k]?=w.heap[k]?):Ya base v l w':=by
 refine⟨h.1,?_⟩;rcases h.2 with h0|⟨g,cap,cur,rfl,h1,h2,h3⟩
 ·exact Or.inl h0
 ·exact Or.inr ⟨g,cap,cur,rfl,h1,by rw[hk g rfl];exact h2,h3⟩
theorem Ya.below (h:Ya base v l w) (hW:Below w.heap.size w w'):Ya base v l w':=h.keep (fun k hk=>hW.block k (h.blk k hk).2)
theorem Ya.grown (h:Ya base v l w) (hg:w.grownBy w' row) (hne:∀k,v.ownBlock=some k->row≠some k):Ya base v l w':=
 h.keep (fun k hk=>hg.block k (h.blk k hk).2 (fun e=>hne k hk e.symm))
theorem Ya.at_ (h:Ya base v l w):∃ad cap,v=.slice ad l.length cap/\∀(s:Nat) (f:Nat->Bool),l[s]?=some f->∃g,ad=some ⟨g,0,none⟩/\w.rangeAt g (s*104) (bl f 104):=by
 rcases h.2 with ⟨rfl,h0⟩|⟨g,cap,cur,rfl,h1,h2,h3,h4,h5,h6⟩
 ·refine⟨none,0,by rw[h0],fun i x hi=>?_⟩;have hl:=(List.getElem?_eq_some_iff.1 hi).1;omega
 ·refine⟨some ⟨g,0,none⟩,cap,rfl,fun s f hs=>⟨g,rfl,fun j v hv=>?_⟩⟩;have hj:j<104:=by have:=(List.getElem?_eq_some_iff.1 hv).1;rw[Y7]at this;exact this
  rw[YK _ hj]at hv;cases hv;have hx:=h.cells (g:=g) rfl (s*104+j) (.bool (f j)) (Vo l s j f hs hj);rw[Addr.add_lit,Nat.zero_add]at hx;exact hx
theorem Kn:∃i,Tryz.prog.info? 62=some i/\i.zero=some (.agg (bl (fun _=>false) 104).toArray)/\i.size=104/\i.bytes=104:=by
 have h:(Tryz.prog.info? 62).isSome=true:=by kernel_rfl
 obtain⟨i,hi⟩:=Option.isSome_iff_exists.1 h;refine⟨i,hi,?_,?_,?_⟩
 ·have:((Tryz.prog.info? 62).bind (·.zero))=some (.agg (bl (fun _=>false) 104).toArray):=by kernel_rfl
  rw[hi]at this;simpa using this
 ·have:((Tryz.prog.info? 62).map (·.size))=some 104:=by kernel_rfl
  rw[hi]at this;simpa using this
 ·have:((Tryz.prog.info? 62).map (·.bytes))=some 104:=by kernel_rfl
  rw[hi]at this;simpa using this
theorem Xw (hgd:o.guard=none) (s x:Operand)
  (ho:o.op=.call { callee:=.builtin .append,args:=#[s,x],argTypes:=#[57,57] }) (base:Nat)
  (v:Value) (l:List (Nat->Bool)) (hs:a.eval s=v) (hown:Ya base v l w) (hn:l.length<=100000)
  (B:Nat) (f:Nat->Bool) (hx:a.eval x=.slice (some ⟨B,0,none⟩) 1 1) (hnews:w.rangeAt B 0 (bl f 104)) (hbase:base<=w.heap.size) (H:Nat) (hH:w.heap.size=H)
  (h:∀g cap w',Ya base (.slice (some ⟨g,0,none⟩) (l.length+1) cap) (l++[f]) w'->w.grownBy w' v.ownBlock->(v.ownBlock=some g\/g=H)->g<w'.heap.size->wpList Tryz.prog ops Q rest (a.put o.dst (.slice (some ⟨g,0,none⟩) (l.length+1) cap)) w'):wpList Tryz.prog ops Q (o::rest) a w:=by
 obtain⟨i,hi,hz0,hz1,hz2⟩:=Kn;refine wpList_append_lies w hgd s x 57 ho base 62 i _ 104 104 Tryz.underlying57 hi hz0 hz1 hz2 (by simp[Value.cells,Y7]) (by omega) v l.length (XH l) hs hown ⟨B,0,none⟩ 1 1 (bl f 104) hx (by rw[Y7]) (fun j u hu=>by rw[Addr.add_lit];exact hnews j u hu) (fun u hu=>?_) (by omega) (by unfold maxLen;omega) (by omega) hbase H hH ?_
 ·have:=YO f 104;rw[Array.all_eq_true']at this;exact this u (by simpa using hu)
 ·intro g cap w' h1 h2 h3 h4;refine h g cap w' ?_ h2 h3 h4;unfold Ya;rw[List.length_append,OG,Kx];exact h1
theorem MM (off:Nat):∀(cs:List Value) (k:Nat) (Z:Array Value),off+k+cs.length<=Z.size ->
  ((cs.zipIdx k).foldl (fun(Z:Array Value) (c,j)=>Z.setIfInBounds (off+j) c) Z).size=Z.size /\
  ∀i,((cs.zipIdx k).foldl (fun(Z:Array Value) (c,j)=>Z.setIfInBounds (off+j) c) Z)[i]?=if off+k<=i/\i<off+k+cs.length then cs[i-(off+k)]? else Z[i]?
 |[],k,Z,_=>⟨rfl,fun i=>by rw[if_neg (by simp)];rfl⟩
 |c::cs,k,Z,h=>by
  simp only[List.length_cons]at h;obtain⟨h1,h2⟩:=MM off cs (k+1) (Z.setIfInBounds (off+k) c) (by simp;omega);simp only[List.zipIdx_cons,List.foldl_cons];refine⟨by rw[h1];simp,fun i=>?_⟩;rw[h2 i];by_cases e:i=off+k
  ·subst e;rw[if_neg (by omega),if_pos (by simp),Array.getElem?_setIfInBounds_self_of_lt (by omega)];simp
  ·by_cases e2:off+k<=i/\i<off+k+(cs.length+1)
   ·rw[if_pos (by omega),if_pos (by simpa using e2),show i-(off+k)=(i-(off+(k+1)))+1 by omega];rfl
   ·rw[if_neg (by omega),if_neg (by simpa using e2),Array.getElem?_setIfInBounds_ne (fun x=>e x.symm)]
theorem Nk (place:Nat->Option (Nat × Nat)) (Z:Array Value) (v:Value) (n:Nat) (hp:place 0=some (0,n)) (hv:v.cells.size=n) (hZ:Z.size=n):Instr.fill place Z [(0,v)]=some v.cells:=by
 obtain⟨C,hC⟩:=nam v.cells;have hcn:C.size=n:=by rw[hC];exact hv
 have h0:Instr.fill place Z [(0,v)]=if (v.cells.size≠n || 0+v.cells.size > Z.size)=true then none else Instr.fill place (v.cells.zipIdx.foldl (fun cs (c,j)=>cs.setIfInBounds (0+j) c) Z) []:=by
  simp only[Instr.fill,hp]
 rw[h0,<-hC,if_neg (by simp[hcn,hZ]),Instr.fill];congr 1;obtain⟨h1,h2⟩:=MM 0 C.toList 0 Z (by simp;omega);have e:C.zipIdx.foldl (fun cs (x:Value × Nat)=>cs.setIfInBounds (0+x.2) x.1) Z=(C.toList.zipIdx 0).foldl (fun cs (x:Value × Nat)=>cs.setIfInBounds (0+x.2) x.1) Z:=by
  rw[<-Array.foldl_toList,Array.toList_zipIdx]
 rw[e];refine Array.ext_getElem? (fun i=>?_);rw[h2 i];by_cases hi:i<n
 ·rw[if_pos (by simp;omega)];simp
 ·rw[if_neg (by simp;omega),Array.getElem?_eq_none (by omega),Array.getElem?_eq_none (by omega)]
theorem Tn (f:Nat->Bool) (w:World):(Instr.buildSlice 57 1 #[(0,.agg (bl f 104).toArray)]).run Tryz.prog w=.ok (.slice (some ⟨w.heap.size,0,none⟩) 1 1) (w.alloc (.cells (bl f 104).toArray 62)):=by
 have hs:(sizeOf 62).run Tryz.prog w=.ok 104 w:=by kernel_rfl
 have hz:=Uz w;have hfill:=Nk (fun i=>some (i*104,104)) ((Array.range (1*104)).map ((bl (fun _=>false) 104).toArray[·%(bl (fun _=>false) 104).toArray.size]!)) (.agg (bl f 104).toArray) 104 rfl (by simp[Value.cells,Y7]) (by simp);have e1:(Value.agg (bl f 104).toArray).cells=(bl f 104).toArray:=rfl;have e2:(Value.agg (bl (fun _=>false) 104).toArray).cells=(bl (fun _=>false) 104).toArray:=rfl;rw[e1]at hfill;simp only[Instr.buildSlice,Sem.run_bind,run_underlying Tryz.underlying57,Result.andThen_ok,hs,Sem.run_ite,hz,e2,Sem.run_pure,hfill,newRow];simp
theorem RN (hgd:op.guard=none) (x:Operand) (ho:op.op=.buildSlice 57 1 #[(0,x)])
  (f:Nat->Bool) (hx:a.eval x=.agg (bl f 104).toArray) (h:wpList Tryz.prog ops Q rest (a.put op.dst (.slice (some ⟨w.heap.size,0,none⟩) 1 1)) (w.alloc (.cells (bl f 104).toArray 62))):wpList Tryz.prog ops Q (op::rest) a w:=
 wpList_plain hgd fun _ hK=>by
  unfold Oper.wp execOp;have hq:=Tn f w;have e:(#[((0:Nat),x)].map fun(p:Nat × Operand)=>(p.1,a.eval p.2))=#[(0,.agg (bl f 104).toArray)]:=by simp[hx]
  simp only[ho,Sem.run_bind,e,hq,Result.andThen_ok,Sem.run_pure];exact hK _ _ h
theorem Qa (w:World):(Instr.build 62 #[]).run Tryz.prog w=.ok (.agg (bl (fun _=>false) 104).toArray) w:=by kernel_rfl
theorem WS (hgd:op.guard=none) (ho:op.op=.build 62 #[])
  (h:wpList Tryz.prog ops Q rest (a.put op.dst (.agg (bl (fun _=>false) 104).toArray)) w):wpList Tryz.prog ops Q (op::rest) a w:=
 wpList_plain hgd fun _ hK=>by
  unfold Oper.wp execOp;have hq:=Qa w;have e:((#[]:Array (Nat × Operand)).map fun(p:Nat × Operand)=>(p.1,a.eval p.2))=#[]:=by simp
  simp only[ho,Sem.run_bind,e,hq,Result.andThen_ok,Sem.run_pure];exact hK _ _ h
def R8:Nat->Bool:=fun _=>false
def WL (l:List (Nat->Bool)) (f:Nat->Bool):Int:=if Yn f R8 104=true then -1 else (l.findIdx (fun g=>Yn g f 104):Int)
def WW (l:List (Nat->Bool)) (f:Nat->Bool):List (Nat->Bool):=if Yn f R8 104=true then l else if l.findIdx (fun g=>Yn g f 104)<l.length then l else l++[f]
structure GN (gb base:Nat) (K:Int) (vs vt:Value) (l:List (Nat->Bool)) (w:World):Prop where
 c:TC gb [.int .i64 K,vs,vt] w
 o:Ya base vs l w
theorem GN.below {K:Int} (h:GN gb base K vs vt l w) (hW:Below w.heap.size w w'):GN gb base K vs vt l w':=⟨h.c.below hW,h.o.below hW⟩
def Ug (gb base:Nat) (K:Int) (vs vt:Value) (l:List (Nat->Bool)) (f:Nat->Bool) (w:World) (e:Ending) (w':World):Prop:=
 ∃vs',e=.returned (.int .i64 (WL l f))/\GN gb base K vs' vt (WW l f) w'/\Below gb w w'/\w.heap.size<=w'.heap.size /\
  (∀k,k<w.heap.size->k≠gb->vs.ownBlock≠some k->w'.heap[k]?=w.heap[k]?)/\(∀k,vs'.ownBlock=some k->vs.ownBlock=some k\/w.heap.size<=k)
theorem Ug.same {K:Int}{f:Nat->Bool}{r:Int} (h:GN gb base K vs vt l w) (hr:r=WL l f) (hl:WW l f=l) (hW:Below w.heap.size w w'):
  Ug gb base K vs vt l f w (.returned (.int .i64 r)) w':=
 ⟨vs,by rw[hr],by rw[hl];exact h.below hW,hW.mono (Nat.le_of_lt h.c.lt),hW.size,fun k hk _ _=>hW.block k hk,fun _ hk=>Or.inl hk⟩
theorem Mi {α:Type}{p:α->Bool}{l:List α}{s:Nat}{g:α} (hs:l[s]?=some g) (hp:p g=true) (hn:∀i x,i<s->l[i]?=some x->p x=false):l.findIdx p=s:=by
 have hlt:=(List.getElem?_eq_some_iff.1 hs).1;rw[List.findIdx_eq hlt];refine⟨by rw[(List.getElem?_eq_some_iff.1 hs).2];exact hp,fun j hj=>hn j _ hj (List.getElem?_eq_getElem (by omega))⟩
variable {P:Program}
theorem XI {K:Act->World->Prop} (ho:ops[i]?=some o) (hw:Region.wanted o (yielded ops a.tmps)=true)
  (hr:(execOp a.eval o).run P w=.ok (.value v) w') (h:K (a.put o.dst v) w'):wpOp P ops Q i K a w:=
 wpOp_step ho fun K' hK=>by
  rw[if_pos hw];unfold Oper.wp;rw[hr];exact hK _ _ h
theorem X7 (ty:TypeId) (x:Operand) (ho:o.op=.load ty x) (b c:Nat) (hx:a.eval x=.pointer (some ⟨b,c,none⟩)) (cs:List Value) (d:TypeDesc) (hc:w.rangeAt b c cs)
  (hu:P.underlying ty=some d) (hd:d.isRow=true) (hi:(P.info? ty).map (·.size)=some cs.length):(execOp a.eval o).run P w=.ok (.value (.agg cs.toArray)) w:=by
 unfold execOp;simp only[ho,hx,Instr.loadAt,Instr.sureAddr,Sem.run_bind,Sem.run_pure,Result.andThen_ok,run_loadVar_mid w b c ty cs d hc hu hd hi]
theorem WO (x:Operand) (ho:o.op=.buildSlice 57 1 #[(0,x)]) (f:Nat->Bool) (hx:a.eval x=.agg (bl f 104).toArray):
  (execOp a.eval o).run Tryz.prog w=.ok (.value (.slice (some ⟨w.heap.size,0,none⟩) 1 1)) (w.alloc (.cells (bl f 104).toArray 62)):=by
 unfold execOp;have hq:=Tn f w;have e:(#[((0:Nat),x)].map fun(p:Nat × Operand)=>(p.1,a.eval p.2))=#[(0,.agg (bl f 104).toArray)]:=by simp[hx]
 simp only[ho,Sem.run_bind,e,hq,Result.andThen_ok,Sem.run_pure]
variable {md:Region.Mode}
theorem Xg {ops:List Oper} (k:Nat) (hf:(ops.drop k).length=fuel) (hB:Region.seqB md ops.toArray fuel k listed=true)
  (h:wpList P ops.toArray Q (ops.drop k) a w):wpAny P md ops.toArray Q fuel listed a w:=by
 subst hf;exact wpAny_of_seq (ops.drop k) k listed a w (fun j=>by simp[List.getElem?_drop]) hB h
theorem Ux (i j k:Nat) {o4 o5 o6:Oper}{v4 v5 v6:Value}{listed L:Array Bool}{a A:Act}{w w':World}
  (h4:ops[i]?=some o4) (h5:ops[j]?=some o5) (h6:ops[k]?=some o6) (g4:o4.guard=none) (g5:o5.guard=none) (g6:o6.guard=none)
  (r0:Region.ready md ops listed=[i,j]) (r1:Region.ready md ops (listed.setIfInBounds i true)=[j]) (r2:Region.ready md ops ((listed.setIfInBounds i true).setIfInBounds j true)=[k])
  (r3:Region.ready md ops (listed.setIfInBounds j true)=[i,k]) (r4:Region.ready md ops ((listed.setIfInBounds j true).setIfInBounds i true)=[k]) (r5:Region.ready md ops ((listed.setIfInBounds j true).setIfInBounds k true)=[i])
  (x4:(execOp a.eval o4).run P w=.ok (.value v4) w) (y4:(execOp (a.put o5.dst v5).eval o4).run P w=.ok (.value v4) w) (z4:(execOp ((a.put o5.dst v5).put o6.dst v6).eval o4).run P w'=.ok (.value v4) w')
  (x5:(execOp a.eval o5).run P w=.ok (.value v5) w) (y5:(execOp (a.put o4.dst v4).eval o5).run P w=.ok (.value v5) w)
  (x6:(execOp (a.put o5.dst v5).eval o6).run P w=.ok (.value v6) w') (y6:(execOp ((a.put o4.dst v4).put o5.dst v5).eval o6).run P w=.ok (.value v6) w') (z6:(execOp ((a.put o5.dst v5).put o4.dst v4).eval o6).run P w=.ok (.value v6) w')
  (l1:((listed.setIfInBounds i true).setIfInBounds j true).setIfInBounds k true=L) (l2:((listed.setIfInBounds j true).setIfInBounds i true).setIfInBounds k true=L) (l3:((listed.setIfInBounds j true).setIfInBounds k true).setIfInBounds i true=L)
  (f1:((a.put o4.dst v4).put o5.dst v5).put o6.dst v6=A) (f2:((a.put o5.dst v5).put o4.dst v4).put o6.dst v6=A) (f3:((a.put o5.dst v5).put o6.dst v6).put o4.dst v4=A)
  (fin:wpAny P md ops Q fuel L A w'):wpAny P md ops Q (fuel+3) listed a w:=by
 refine wpAny_all r0 (by simp) (fun q hq=>?_);rcases List.mem_cons.1 hq with rfl|hq
 ·refine XI h4 (by simp[Region.wanted,g4]) x4 (wpAny_all r1 (by simp) (fun q hq=>?_));rw[List.mem_singleton.1 hq];refine XI h5 (by simp[Region.wanted,g5]) y5 (wpAny_all r2 (by simp) (fun q hq=>?_));rw[List.mem_singleton.1 hq];refine XI h6 (by simp[Region.wanted,g6]) y6 ?_;rw[l1,f1];exact fin
 ·rw[List.mem_singleton.1 hq];refine XI h5 (by simp[Region.wanted,g5]) x5 (wpAny_all r3 (by simp) (fun q hq=>?_));rcases List.mem_cons.1 hq with rfl|hq
  ·refine XI h4 (by simp[Region.wanted,g4]) y4 (wpAny_all r4 (by simp) (fun q hq=>?_));rw[List.mem_singleton.1 hq];refine XI h6 (by simp[Region.wanted,g6]) z6 ?_;rw[l2,f2];exact fin
  ·rw[List.mem_singleton.1 hq];refine XI h6 (by simp[Region.wanted,g6]) x6 (wpAny_all r5 (by simp) (fun q hq=>?_));rw[List.mem_singleton.1 hq];refine XI h4 (by simp[Region.wanted,g4]) z4 ?_;rw[l3,f3];exact fin
theorem Nq (gb base:Nat) (K:Int) (vs vt:Value) (l:List (Nat->Bool)) (f:Nat->Bool) (w:World) (hG:GN gb base K vs vt l w) (hgb:gb<base) (hbw:base<=w.heap.size) (hl:l.length<=1000):
  Calls Tryz.prog 42 #[.pointer (some ⟨gb,0,none⟩),.agg (bl f 104).toArray] w (Ug gb base K vs vt l f w):=by
 obtain⟨W,hW⟩:∃W,W=w.alloc (.cells (bl f 104).toArray 62):=⟨_,rfl⟩;have hB0:Below w.heap.size w W:=by rw[hW];exact box_bel _ _
 have hn0:TC w.heap.size (bl f 104) W:=by rw[hW];exact TC.boxed w (bl f 104) 62
 obtain⟨x,hx⟩:∃x,x=Yn f R8 104:=⟨_,rfl⟩;have hrn:=hn0.range;have HG:Hid (GN gb base K vs vt l w):=hG;have HW:Hid (W=w.alloc (.cells (bl f 104).toArray 62)):=hW;have Hx:Hid (x=Yn f (fun _=>false) 104):=hx;clear hG hW hx;have hbel:=hB0.size;cases x
 case true=>
  go_enter Tryz.func42,Tryz.ntmps42;go_wp2_with (first|(rw[<-HW.out];refine wpList_load_mid rfl 62 _ rfl w.heap.size 0 rfl (bl f 104) _ hrn u_e rfl (by rw[Y7];exact YB) ?_)|(refine WS rfl rfl ?_)|(refine TY rfl _ _ rfl f (fun _=>false) rfl rfl ?_;rw[<-Hx.out]));go_ret;have hx2:Yn f R8 104=true:=Hx.out.symm;exact Ug.same HG.out (by rw[WL,if_pos hx2]) (by rw[WW,if_pos hx2]) hB0
 go_enter Tryz.func42,Tryz.ntmps42;go_wp2_with (first|(rw[<-HW.out];refine wpList_load_mid rfl 62 _ rfl w.heap.size 0 rfl (bl f 104) _ hrn u_e rfl (by rw[Y7];exact YB) ?_)|(refine WS rfl rfl ?_)|(refine TY rfl _ _ rfl f (fun _=>false) rfl rfl ?_;rw[<-Hx.out]));have hx2:¬Yn f R8 104=true:=by have:=Hx.out;rw[show Yn f R8 104=false from this.symm];simp
 have HR:Hid (WL l f=(l.findIdx (fun g=>Yn g f 104):Int)):=by show _=_;rw[WL,if_neg hx2]
 have HL:Hid (WW l f=if l.findIdx (fun g=>Yn g f 104)<l.length then l else l++[f]):=by show _=_;rw[WW,if_neg hx2]
 clear hx2 Hx HW
 go_loopw [5] (fun x w'=>∃s:Nat,s<=l.length/\x=.int .i64 s/\Hid (∀i g,i<s->l[i]?=some g->Yn g f 104=false)/\Below w.heap.size w w'/\TC w.heap.size (bl f 104) w') (fun x _=>l.length-(intOf x).toNat)
 case atStart=>exact⟨0,by omega,rfl,fun i g hi=>by omega,hB0,hn0⟩
 case round=>
  clear hB0 hn0 hrn hbel;obtain⟨s,hs,rfl,HF,hB,hn⟩:=hrel;have G:=HG.out.below hB;obtain⟨ad,cap,e1,h2⟩:=G.o.at_;have c1:=(G.c 1 _ rfl).1;have hrn:=hn.range;by_cases hlt:s<l.length
  ·have hlt':(s:Int)<(l.length:Int):=by omega
   obtain⟨g,hg⟩:∃g,l[s]?=some g:=⟨_,List.getElem?_eq_getElem hlt⟩;obtain⟨gk,e2,k2⟩:=h2 s g hg;subst e2;rw[e1]at c1;have Hg:=hyd hg;obtain⟨y,hy⟩:=nam (Yn g f 104);have Hy:=hyd hy;obtain⟨n,hnn⟩:=nam l.length;have Hnn:=hyd hnn;rw[<-hnn]at c1 hlt' hl;clear h2 e1 hg hy hnn G;go_wp2_with fail;refine wp_region_still_tail 8 (by kernel_rfl) (by kernel_rfl) ?_;simp only[List.take_succ_cons,List.take_zero,List.drop_succ_cons,List.drop_zero];change wpStill _ _ wr.drew (fun a'=>wpList _ _ _ _ a' wr.drew) _ _
   repeat still_step
   refine Wo rfl 62 _ rfl gk (s*104) rfl (bl g 104) _ (fun j v hv=>k2 j v hv) u_e rfl (by rw[Y7];exact YB) ?_;refine Wo rfl 62 _ rfl w.heap.size 0 rfl (bl f 104) _ (fun j v hv=>hrn j v hv) u_e rfl (by rw[Y7];exact YB) ?_;refine wpStill_nil ?_;refine TY rfl _ _ rfl g f rfl rfl ?_;rw[<-Hy.out];have hBd:=hB.drew;have hnd:=hn;clear c1 k2 hrn hn hB;cases y
   ·go_wp2_with fail;go_roundw
    case rel=>
     refine⟨s+1,by omega,by go_num,fun i x hi hx=>?_,hBd,hnd⟩;rcases Nat.lt_or_ge i s with h|h
     ·exact HF.out i x h hx
     ·rw[show i=s by omega,Hg.out]at hx;cases hx;exact Hy.out.symm
    case measure=>simp[intOf];omega
   ·go_wp2_with fail;go_ret;have e:=Mi Hg.out Hy.out.symm (fun i x hi hx=>HF.out i x hi hx);exact Ug.same HG.out (by rw[HR.out,e]) (by rw[HL.out,e,if_pos hlt]) hBd
  ·have hge:¬(s:Int)<(l.length:Int):=by omega
   have e:l.findIdx (fun g=>Yn g f 104)=l.length:=List.findIdx_eq_length.2 (fun x hx=>by
    obtain⟨i,hi,rfl⟩:=List.mem_iff_getElem.1 hx;exact HF.out i _ (by omega) (List.getElem?_eq_getElem hi))
   have HR2:Hid (WL l f=(l.length:Int)):=by show _=_;rw[HR.out,e]
   have HL2:Hid (WW l f=l++[f]):=by show _=_;rw[HL.out,e,if_neg (by omega)]
   obtain⟨n,hnn⟩:=nam l.length;have Hnn:=hyd hnn;rw[<-hnn]at hge hl;rw[e1,<-hnn]at c1;have He1:Hid (vs=.slice ad n cap):=by show _=_;rw[e1,<-hnn]
   clear h2 e1 HF HR HL hs hlt hnn e;go_wp2_with fail;refine wp_region_any (by kernel_rfl) ?_;change wpAny _ _ _ _ 11 _ _ wr.drew;refine wpAny_take (i:=0) (oi:=?o0) (v:=?v0) ?hi0 ?hs0 ?hf0 ?hr0 ?hQ0 (Or.inl ⟨?hw0,?hy0⟩) ?rest0
   case hi0=>simp only[List.getElem?_toArray,List.getElem?_cons_zero];rfl
   case hs0=>kernel_rfl
   case hf0=>kernel_rfl
   case hr0=>kernel_rfl
   case hQ0=>exact fun _ _ _ h=>h
   case hw0=>rfl
   case hy0=>intro w';go_simp;first|done|with_reducible rfl
   (try simp only[psm])
   refine wpAny_take (i:=1) (oi:=?o1) (v:=?v1) ?hi1 ?hs1 ?hf1 ?hr1 ?hQ1 (Or.inl ⟨?hw1,?hy1⟩) ?rest1
   case hi1=>simp only[gel];rfl
   case hs1=>kernel_rfl
   case hf1=>kernel_rfl
   case hr1=>kernel_rfl
   case hQ1=>exact fun _ _ _ h=>h
   case hw1=>rfl
   case hy1=>intro w';go_simp;first|done|with_reducible rfl
   (try simp only[psm])
   refine wpAny_take (i:=2) (oi:=?o2) (v:=?v2) ?hi2 ?hs2 ?hf2 ?hr2 ?hQ2 (Or.inl ⟨?hw2,?hy2⟩) ?rest2
   case hi2=>simp only[gel];rfl
   case hs2=>kernel_rfl
   case hf2=>kernel_rfl
   case hr2=>kernel_rfl
   case hQ2=>exact fun _ _ _ h=>h
   case hw2=>rfl
   case hy2=>intro w';go_simp;first|done|with_reducible rfl
   (try simp only[psm])
   refine wpAny_take (i:=3) (oi:=?o3) (v:=?v3) ?hi3 ?hs3 ?hf3 ?hr3 ?hQ3 (Or.inl ⟨?hw3,?hy3⟩) ?rest3
   case hi3=>simp only[gel];rfl
   case hs3=>kernel_rfl
   case hf3=>kernel_rfl
   case hr3=>kernel_rfl
   case hQ3=>exact fun _ _ _ h=>h
   case hw3=>rfl
   case hy3=>intro w';go_simp;first|done|with_reducible rfl
   (try simp only[psm])
   have hBd:=hB.drew;have Gd:=HG.out.below hBd;obtain⟨W3,hW3⟩:=nam (wr.drew.alloc (.cells (bl f 104).toArray 62));have hnew:W3.rangeAt wr.drew.heap.size 0 (bl f 104):=by rw[hW3];exact(TC.boxed wr.drew (bl f 104) 62).range
   have x3:Below wr.drew.heap.size wr.drew W3:=by rw[hW3];exact box_bel _ _
   have G3:=Gd.below x3;have B3:=hBd.trans (x3.mono hBd.size);have hbs:base<=W3.heap.size:=by have:=B3.size;omega
   have q4:=c1;have q4':W3.cell? ⟨gb,1,none⟩=some (.slice ad n cap):=by rw[<-He1.out];exact(G3.c 1 _ rfl).1
   refine Ux (fuel:=4) 4 5 6 (o4:=?o4) (o5:=?o5) (o6:=?o6) (v4:=.slice ad n cap) (v5:=.agg (bl f 104).toArray) (v6:=.slice (some ⟨wr.drew.heap.size,0,none⟩) 1 1) (L:=#[true,true,true,true,true,true,true,false,false,false,false]) (A:=?A) (w':=W3)
    ?h4 ?h5 ?h6 ?g4 ?g5 ?g6 ?r0 ?r1 ?r2 ?r3 ?r4 ?r5 ?x4 ?y4 ?z4 ?x5 ?y5 ?x6 ?y6 ?z6 ?l1 ?l2 ?l3 ?f1 ?f2 ?f3 ?fin
   case h4=>simp only[gel];rfl
   case h5=>simp only[gel];rfl
   case h6=>simp only[gel];rfl
   case g4=>rfl
   case g5=>rfl
   case g6=>rfl
   case r0=>kernel_rfl
   case r1=>kernel_rfl
   case r2=>kernel_rfl
   case r3=>kernel_rfl
   case r4=>kernel_rfl
   case r5=>kernel_rfl
   case x4=>go_simp
   case y4=>simp only[psm];go_simp
   case z4=>clear hW3;simp only[psm];go_simp
   case x5=>exact X7 62 _ rfl w.heap.size 0 rfl (bl f 104) _ (fun j v hv=>hrn j v hv) u_e rfl (by rw[Y7];exact YB)
   case y5=>exact X7 62 _ rfl w.heap.size 0 rfl (bl f 104) _ (fun j v hv=>hrn j v hv) u_e rfl (by rw[Y7];exact YB)
   case x6=>rw[hW3];exact WO _ rfl f rfl
   case y6=>rw[hW3];exact WO _ rfl f rfl
   case z6=>rw[hW3];exact WO _ rfl f rfl
   case l1=>kernel_rfl
   case l2=>kernel_rfl
   case l3=>kernel_rfl
   case f1=>simp only[psm];rfl
   case f2=>simp only[psm]
   case f3=>simp only[psm]
   refine Xg 7 rfl (by kernel_rfl) ?_;simp only[List.drop_succ_cons,List.drop_zero];obtain⟨D,hD⟩:=nam wr.drew.heap.size;rw[<-hD]at hnew ⊢;have HK:Hid (∀w5,W3.grownBy w5 vs.ownBlock->TC gb [.int .i64 K,vs,vt] w5):=fun w5 hg=>
    G3.c.block (hg.block _ G3.c.lt (fun e=>by have:=(G3.o.blk _ e.symm).1;omega))
   have hO3:=G3.o;clear c1 hrn hn hB G hBd Gd hW3 x3 hD q4 q4';refine Xw (by rfl) _ _ (by rfl) base vs l (by rw[He1.out];rfl) hO3 (by rw[<-Hnn.out];omega) D f (by rfl) hnew hbs _ rfl ?_;rw[<-Hnn.out];intro g cap2 w5 hO5 hgrow hgb5 hl5;obtain⟨c6,c6f⟩:=HK.out w5 hgrow 1 _ rfl;have hgg:=(hO5.blk g rfl).1;clear hnew;go_wp2_with fail;go_ret;have hK5:=HK.out w5 hgrow;have hgw:=HG.out.c.lt;have hblk:=HG.out.o.blk;have B5:Below gb w w5:=(B3.mono (by omega)).grown hgrow (by have:=B3.size;omega) (fun q hq=>by have:=(hblk q hq).1;omega);have hb:∀k,k≠gb->(w5.setCell ⟨gb,1,none⟩ (.slice (some ⟨g,0,none⟩) (n+1) cap2)).heap[k]?=w5.heap[k]?:=fun k hk=>Below.heap_setCell w5 ⟨gb,1,none⟩ _ k (fun e=>hk e)
   have B6:=B5.setCell (p:=⟨gb,1,none⟩) (Nat.le_refl _) (.slice (some ⟨g,0,none⟩) (n+1) cap2);refine⟨.slice (some ⟨g,0,none⟩) (n+1) cap2,?_,⟨hK5.set 1 (by simp) _,?_⟩,B6,B6.size,fun k hk hne hnv=>?_,fun k hk=>?_⟩
   ·rw[HR2.out,Hnn.out];rfl
   ·rw[HL2.out];exact hO5.keep (fun k hk=>hb k (by cases hk;show g≠gb;omega))
   ·rw[hb k hne,hgrow.block k (by have:=B3.size;omega) (fun e=>hnv e.symm),B3.block k hk]
   ·cases hk;rcases hgb5 with h|h
    ·exact Or.inl h
    ·exact Or.inr (by have:=B3.size;show w.heap.size<=g;omega)
inductive VP (A:(Nat->Bool)->Nat->Nat->Bool) (F:Nat->Bool) (ls:List Nat):Nat->Nat->List (Nat->Bool)->List Int->Prop
 |first:VP A F ls 0 0 [F] []
 |kind {s k:Nat}{l:List (Nat->Bool)}{t:List Int}{f:Nat->Bool}{b:Nat} (h:VP A F ls s k l t) (hf:l[s]?=some f) (hb:ls[k]?=some b) (hr:WL l (A f b)<200):
   VP A F ls s (k+1) (WW l (A f b)) (t++[WL l (A f b)])
 |set {s:Nat}{l:List (Nat->Bool)}{t:List Int} (h:VP A F ls s ls.length l t) (hs:s<l.length):VP A F ls (s+1) 0 l t
theorem LF (l:List (Nat->Bool)) (f:Nat->Bool):-1<=WL l f:=by unfold WL;split<;>omega
theorem UM (l:List (Nat->Bool)) (f:Nat->Bool):(WW l f).length=l.length\/((WW l f).length=l.length+1/\WL l f=l.length):=by
 unfold WW WL;split
 ·exact Or.inl rfl
 ·split
  ·exact Or.inl rfl
  ·have:=List.findIdx_le_length (p:=fun g=>Yn g f 104) (xs:=l);exact Or.inr ⟨by simp,by omega⟩
theorem NL (l:List (Nat->Bool)) (f:Nat->Bool):∃u,WW l f=l++u:=by
 unfold WW;split
 ·exact⟨[],by simp⟩
 ·split
  ·exact⟨[],by simp⟩
  ·exact⟨[f],rfl⟩
theorem ON {f g:Nat->Bool}{s:Nat} (h:l[s]?=some g):(WW l f)[s]?=some g:=by
 obtain⟨u,e⟩:=NL l f;rw[e,List.getElem?_append_left (List.getElem?_eq_some_iff.1 h).1];exact h
theorem OO (l:List (Nat->Bool)) (f:Nat->Bool):WL l f<(WW l f).length:=by
 unfold WW WL;split
 ·omega
 ·split
  ·omega
  ·have:=List.findIdx_le_length (p:=fun g=>Yn g f 104) (xs:=l);simp;omega
theorem If {f:Nat->Bool} (h:Yn f R8 104=false):∃(k:Nat) (g:Nat->Bool),WL l f=k/\(WW l f)[k]?=some g/\Yn g f 104=true:=by
 have h':¬Yn f R8 104=true:=by simp[h]
 rw[WL,WW,if_neg h',if_neg h'];by_cases hl:l.findIdx (fun g=>Yn g f 104)<l.length
 ·rw[if_pos hl];exact⟨_,_,rfl,List.getElem?_eq_getElem hl,List.findIdx_getElem (p:=fun g=>Yn g f 104) (w:=hl)⟩
 ·rw[if_neg hl];have e:l.findIdx (fun g=>Yn g f 104)=l.length:=by have:=List.findIdx_le_length (p:=fun g=>Yn g f 104) (xs:=l);omega
  rw[e];exact⟨_,f,rfl,by simp,(XV _ _ _).2 (fun _ _=>rfl)⟩
theorem VP.size {A:(Nat->Bool)->Nat->Nat->Bool}{s:Nat}{t:List Int} (h:VP A F ls s k l t):0<l.length/\l.length<=200/\t.length=s*ls.length+k/\k<=ls.length/\s<=l.length:=by
 induction h with
 |first=>simp
 |kind h hf hb hr ih=>
  have hk:=(List.getElem?_eq_some_iff.1 hb).1;rename_i l t f b;have:=UM l (A f b);refine⟨by omega,by omega,by simp;omega,by omega,by omega⟩
 |set h hs ih=>exact⟨by omega,by omega,by rw[Nat.succ_mul];omega,by omega,by omega⟩
theorem VP.range {A:(Nat->Bool)->Nat->Nat->Bool}{s:Nat}{t:List Int} (h:VP A F ls s k l t):∀x∈t,-1<=x/\x<l.length:=by
 induction h with
 |first=>intro x hx;cases hx
 |kind h hf hb hr ih=>
  rename_i l t f b;intro x hx;rcases List.mem_append.1 hx with h1|h1
  ·have:=ih x h1;have:=UM l (A f b);omega
  ·rw[List.mem_singleton.1 h1];exact⟨LF _ _,OO _ _⟩
 |set h hs ih=>exact ih
theorem Xh (w:World):(zeroValue 142).run Tryz.prog w=.ok (.agg (bl (fun _=>false) 193).toArray) w:=by kernel_rfl
theorem Y3:(Tryz.prog.info? 142).map (·.size)=some 193:=by kernel_rfl
def TR:Nat->Bool:=fun i=>i==0
theorem O7 (w:World):(Instr.build 142 #[(0,.bool true)]).run Tryz.prog w=.ok (.agg (bl TR 193).toArray) w:=by kernel_rfl
theorem RM (hgd:op.guard=none) (x:Operand) (ho:op.op=.build 142 #[(0,x)]) (hx:a.eval x=.bool true)
  (h:wpList Tryz.prog ops Q rest (a.put op.dst (.agg (bl TR 193).toArray)) w):wpList Tryz.prog ops Q (op::rest) a w:=
 wpList_plain hgd fun _ hK=>by
  unfold Oper.wp execOp;have hq:=O7 w;have e:(#[((0:Nat),x)].map fun(p:Nat × Operand)=>(p.1,a.eval p.2))=#[(0,.bool true)]:=by simp[hx]
  simp only[ho,Sem.run_bind,e,hq,Result.andThen_ok,Sem.run_pure];exact hK _ _ h
theorem Yq {f:Nat->Bool} (h:TC t (bl f n) w):w.there t 0 n:=by have:=h.there;rw[Y7]at this;exact this
theorem UL (w:World):Calls Tryz.prog 92 #[] w fun e w'=>e=.returned (.agg (bl TR 193).toArray)/\Below w.heap.size w w':=by
 have hz:=Xh;obtain⟨W,hW⟩:=nam (w.alloc (.cells (bl (fun _=>false) 193).toArray 142));have T:TC w.heap.size (bl (fun _=>false) 193) W:=by rw[hW];exact TC.boxed _ _ _
 have B:Below w.heap.size w W:=by rw[hW];exact box_bel _ _
 obtain⟨L,hL⟩:=nam (bl TR 193);have hLl:L.length=193:=by rw[hL];exact Y7 _ _
 have hth:=Yq T;have hG:=Y6 w.heap.size L 0 W;have hr':=World.rangeAt_setCells_same W w.heap.size 0 L (by rw[hLl];exact hth);have hfin:=run_loadVar_mid (P:=Tryz.prog) (W.setCells w.heap.size 0 L) w.heap.size 0 142 L _ hr' u_c rfl (by rw[hLl];exact Y3);have B2:=B.grown hG B.size (fun q hq=>by cases hq;omega);obtain⟨W9,hW9⟩:=nam (W.setCells w.heap.size 0 L);rw[<-hW9]at hfin B2;have HW9:=hyd hW9;have HW:=hyd hW;have Hfin:=hyd hfin;have HO1:Hid (L.toArray.all (·.oneCell')=true):=by show _=true;rw[hL];exact YO _ _
 have HLl:=hyd hLl;have HL:=hyd hL;clear hW hL hLl hG hr' hfin hW9 T B;go_enter Tryz.func92,Tryz.ntmps92;go_wp2_with (first|(refine RM rfl _ rfl rfl ?_;rw[<-HL.out,<-HW.out])|(refine wpList_store_mid rfl 142 _ _ rfl w.heap.size 0 L.toArray rfl rfl (by simpa[HLl.out]using hth) (by simpa[HLl.out]using Y3) HO1.out ?_;rw[List.toList_toArray,<-HW9.out]));refine bodyPost_ret (v:=.agg L.toArray) (res_load1 Tryz.results92 rfl Hfin.out) rfl ?_;exact⟨by rw[HL.out],B2⟩
theorem Bm.TC.sub {f:Nat->Bool} (h:TC b (bl f n) w) (o m:Nat) (hm:o+m<=n):w.rangeAt b o (bl (fun i=>f (o+i)) m):=fun k v hv=>by
 have hk:k<m:=by have:=(List.getElem?_eq_some_iff.1 hv).1;rw[Y7]at this;exact this
 rw[YK _ hk]at hv;exact(h (o+k) v (by rw[YK _ (by omega)];exact hv)).1
theorem Bm.TC.thereAt {f:Nat->Bool} (h:TC b (bl f n) w) (o m:Nat) (hm:o+m<=n):w.there b o m:=fun j hj=>by
 obtain⟨h1,h2⟩:=h (o+j) _ (YK f (by omega));exact⟨by rw[h1];rfl,h2⟩
def XM (f:Nat->Bool) (o m:Nat) (g:Nat->Bool):Nat->Bool:=fun j=>if o<=j/\j<o+m then g (j-o) else f j
theorem Bm.TC.setPart {f:Nat->Bool} (h:TC b (bl f n) w) (o m:Nat) (g:Nat->Bool) (hm:o+m<=n):TC b (bl (XM f o m g) n) (w.setCells b o (bl g m)):=by
 have h1:=h.setBools ((List.range m).map g) o f w (by simpa using hm);rw[<-IN]at h1;rw[YR (fun i hi=>?_)]
 ·exact h1
 ·unfold XM;simp only[List.length_map,List.length_range];by_cases e:o<=i/\i<o+m
  ·rw[if_pos e,if_pos e];simp[List.getD_eq_getElem?_getD,show i-o<m by omega]
  ·rw[if_neg e,if_neg e]
theorem N9 (b:Bool) (w:World):(Instr.build 142 #[(0,.bool b)]).run Tryz.prog w=.ok (.agg (bl (fun i=>i==0&&b) 193).toArray) w:=by
 cases b
 ·kernel_rfl
 ·kernel_rfl
theorem UV (hgd:op.guard=none) (x:Operand) (ho:op.op=.build 142 #[(0,x)]) (b:Bool) (hx:a.eval x=.bool b)
  (h:wpList Tryz.prog ops Q rest (a.put op.dst (.agg (bl (fun i=>i==0&&b) 193).toArray)) w):wpList Tryz.prog ops Q (op::rest) a w:=
 wpList_plain hgd fun _ hK=>by
  unfold Oper.wp execOp;have hq:=N9 b w;have e:(#[((0:Nat),x)].map fun(p:Nat × Operand)=>(p.1,a.eval p.2))=#[(0,.bool b)]:=by simp[hx]
  simp only[ho,Sem.run_bind,e,hq,Result.andThen_ok,Sem.run_pure];exact hK _ _ h
end Go.Proofs.YtoaaklhpmhjhkabGreat
