import Derived.ChangeKeysEq
import Derived.Laws.StructEq
import Derived.Test.YtoaaklhpmhjhkaaGreatC09
set_option maxRecDepth 100000
set_option maxHeartbeats 4000000
set_option linter.all false
namespace Go.Proofs.YtoaaklhpmhjhkaaGreat
open Go.Proofs.Tryz
open Go.RowKit
open Bm
def Yq(f g:Nat->Bool)(n:Nat):Bool:=(List.range n).all λi=>f i==g i
def WY(f g:N_)(n:Nat):Yq f g n=true<->∀i,i<n->f i=g i:=by simp[Yq]
def Qh(d n:Nat)(f g:N_)(w:World):∀is:List Nat,(∀i∈is,i<n)->(Op.eqItems (d+1) 4 1 (bl f n).toArray (bl g n).toArray is).run prog w=.ok (is.all λi=>f i==g i) w
 |[],_=>by simp[Op.eqItems]
 |i::is,h=>by
  have a:=h i Qs;have c:(part 4 (bl f n).toArray (i*1)).run prog w=.ok (.bool (f i)) w:=run_part_plain w Qk (by rw[ff];simpa using YO f a);have e:(part 4 (bl g n).toArray (i*1)).run prog w=.ok (.bool (g i)) w:=run_part_plain w Qk (by rw[ff];simpa using YO g a);have ih:=Qh d n f g w is (λj b=>h j (by simp[b]));simp only[Op.eqItems,fE,c,e,Zu,run_equalIn_bool' w d 4 (f i) (g i) underlying4];cases hfg:(f i==g i)
  .simp[hfg]
  simp[hfg,ih]
def FG:prog.cellsOf 4=1:=Qk
def Io(d n:Nat)(t:TypeId)(z:prog.underlying t=some (.array n 4))(f g:N_)(w:World):(Op.equalIn (d+2) t (.agg (bl f n).toArray) (.agg (bl g n).toArray)).run prog w=.ok (Yq f g n) w:=by
 let⟨i,a,_⟩:=DO;rw[run_equalIn_array w (d+1) _ _ z a,FG];exact Qh d n f g w (List.range n) (λi a=>by simpa using a)
def My(f:N_)(n o m:Nat)(h:o+m<=n):(bl f n).toArray.extract o (o+m)=(bl (λi=>f (o+i)) m).toArray:=by
 apply Array.ext';simp only[Array.toList_extract,fP];refine fG (λj=>?_);rcases ZD j m with a|a
 .rw[List.getElem?_take_of_lt Qo,ez,YO _ a];exact YO f Qo
 rw[ZB (by rw[eE];omega),ZB (by rw[Y9];omega)]
def Gp(f:N_)(w:World):(part 132 (bl f 104).toArray 0).run prog w=.ok (.agg (bl f 96).toArray) w:=by
 have h:=My f 104 0 96 Qo;have e:(bl (λi=>f (0+i)) 96)=bl f 96:=YW (λi _=>by rw[Zn]);rw[e]at h;have hs:(sizeOf 132).run prog w=.ok 96 w:=Qk
 have ha:(isAgg 132).run prog w=.ok true w:=Qk
 simp only[part,fE,ha,Zu,dB,hs,fV,h]
def Gq(f:N_)(w:World):(part 133 (bl f 104).toArray 96).run prog w=.ok (.agg (bl (λi=>f (96+i)) 8).toArray) w:=by
 have h:=My f 104 96 8 Qo;have hs:(sizeOf 133).run prog w=.ok 8 w:=Qk
 have ha:(isAgg 133).run prog w=.ok true w:=Qk
 simp only[part,fE,ha,Zu,dB,hs,fV,h]
def IY : (prog.fieldsOf 135).toList = [{ name := "Places", type := 132, offset := 0, embedded := false, tag := "", pkgPath := "", byteOffset := 0 }, { name := "Rules", type := 133, offset := 96, embedded := false, tag := "", pkgPath := "", byteOffset := 96 }] := by kernel_rfl
def zT(f g:N_)(w:World):(binOp .eql 135 (.agg (bl f 104).toArray) (.agg (bl g 104).toArray)).run prog w=.ok (.bool (Yq f g 104)) w:=by
 rw[run_eql_struct,show(10000:Nat)=9999+1 from rfl,run_equalIn_agg w 9999 135 _ _ Qk Qk,IY];have hs:Yq f g 104=(Yq f g 96&&Yq (λi=>f (96+i)) (λi=>g (96+i)) 8):=by
  rw[eA,ZS,WY,WY,WY];constructor
  .exact λh=>⟨λi a=>h i Qo,λi a=>h (96+i) Qo⟩
  intro ⟨h1,h2⟩ i a;rcases ZD i 96 with h|h
  .exact h1 i h
  have:=h2 (i-96) Qo
  rwa [show 96+(i-96)=i by omega]at this
 have b:=Io 9997 96 132 u_a f g w;have c:=Io 9997 8 133 underlying133 (λi=>f (96+i)) (λi=>g (96+i)) w;simp only[Op.eqFields,fE,f9];rw[dF Qd];simp only[Gp,Zu];rw[b];simp only[Zu];rw[hs];cases h1:Yq f g 96
 .simp
 simp only[Bool.not_true,eN,eU];rw[dF Qd];simp only[Gq,Zu];rw[c];simp only[Zu];cases h2:Yq (λi=>f (96+i)) (λi=>g (96+i)) 8<;>simp
variable {a:Act}{listed:Array Bool}{ops:Array Oper}{Q:Exit->Act->World->Prop}{r:Int}{l:List (N_)}{rest:List Oper}{b base fuel gb i k n t:Nat}{F:N_}{o op:Oper}{row:Option Nat}{v vt:Value}{W W' w w':World}
def RB(z:op.guard=none)(x y:Operand)(H:op.op=.binOp .eql 135 x y 135)
  (f g:N_) (J:a.eval x=.agg (bl f 104).toArray) (Y:a.eval y=.agg (bl g 104).toArray) (h:wpList prog ops Q rest (a.put op.dst (.bool (Yq f g 104))) w):wpList prog ops Q (op::rest) a w:=
 fU z λ_ b=>by
  unfold Oper.wp execOp;have c:(eqGuard .eql 135 x y (.agg (bl f 104).toArray) (.agg (bl g 104).toArray)).run prog w=.ok () w:=
   run_eqGuard_agg (P:=prog) w .eql 135 x y _ _ Qk
  simp only[H,J,Y,fE,c,Zu,zT,fV];exact b _ _ h
def Xc(l:List (Nat->Bool)):List Value:=l.flatMap λf=>bl f 104
def JW(a b:List (N_)):Xc (a++b)=Xc a++Xc b:=by simp[Xc]
def DZ(f:N_):Xc [f]=bl f 104:=by simp[Xc]
def TJ:∀(l:List (N_)) (s j:Nat) (f:N_),l[s]?=some f->j<104->(Xc l)[s*104+j]?=some (.bool (f j))
 |[],s,j,f,h,_=>by simp at h
 |g::l,0,j,f,h,hj=>by
  simp at h;subst h;rw[show Xc (g::l)=bl g 104++Xc l from by simp[Xc],Zv (by rw[Y9];omega),fJ,Zn,YO _ hj]
 |g::l,s+1,j,f,h,hj=>by
  rw[show Xc (g::l)=bl g 104++Xc l from by simp[Xc],ZG (by rw[Y9];omega),Y9,show(s+1)*104+j-104=s*104+j by omega];exact TJ l s j f (by simpa using h) hj
def XL(base:Nat)(v:Value)(l:List (Nat->Bool))(w:World):Prop:=w.ownsRow base 135 104 v l.length (Xc l)
def XL.nil(base:Nat)(w:World):XL base (sN) [] w:=⟨rfl,Or.inl ⟨rfl,rfl⟩⟩
def XL.blk(h:XL base v l w):∀k,v.ownBlock=some k->base<=k/\k<w.heap.size:=λk a=>h.lt k a
def XL.keep(h:XL base v l w)(z:∀k,v.ownBlock=some k->w'.heap[k]?=w.heap[k]?):XL base v l w':=by
 refine⟨h.1,?_⟩;rcases h.2 with h0|⟨g,cap,a,rfl,h1,h2,h3⟩
 .exact Or.inl h0
 exact Or.inr ⟨g,cap,a,rfl,h1,by rw[z g rfl];exact h2,h3⟩
def XL.below(h:XL base v l w)(z:Bl w w'):XL base v l w':=h.keep (λk a=>z.block k (h.blk k a).2)
def XL.grown(h:XL base v l w)(H:w.grownBy w' row)(z:∀k,v.ownBlock=some k->row≠some k):XL base v l w':=
 h.keep (λk a=>H.block k (h.blk k a).2 (λe=>z k a e.symm))
def XL.at_(h:XL base v l w):∃ad cap,v=.slice ad l.length cap/\∀(s:Nat) (f:N_),l[s]?=some f->∃g,ad=some (a_ g 0)/\w.rangeAt g (s*104) (bl f 104):=by
 rcases h.2 with ⟨rfl,h0⟩|⟨g,cap,d,rfl,h1,h2,h3,k,m,n⟩
 .refine⟨none,0,by rw[h0],λi x e=>?_⟩;have o:=(Zi.1 e).1;omega
 refine⟨some (a_ g 0),cap,rfl,λs f hs=>⟨g,rfl,λj v a=>?_⟩⟩;have b:j<104:=by have:=(Zi.1 a).1;rw[Y9]at this;exact this
 rw[YO _ b]at a;cases a;have c:=h.cells (g:=g) rfl (s*104+j) (.bool (f j)) (TJ l s j f hs b);rw[fe,Zn]at c;exact c
def DP:∃i,prog.info? 135=some i/\i.zero=some (.agg (bl (λ_=>false) 104).toArray)/\i.size=104/\i.bytes=104:=by
 have h:(prog.info? 135).isSome=true:=Qk
 let⟨i,a⟩:=Zx.1 h;refine⟨i,a,?_,?_,?_⟩
 .have:((prog.info? 135).bind (·.zero))=some (.agg (bl (λ_=>false) 104).toArray):=Qk
  rw[a]at this;simpa using this
 .have:((prog.info? 135).map (·.size))=some 104:=Qk
  rw[a]at this;simpa using this
 have:((prog.info? 135).map (·.bytes))=some 104:=Qk
 rw[a]at this;simpa using this
def Wz(hgd:o.guard=none)(s x:Operand)
  (ho:o.op=.call { callee:=.builtin .append,args:=#[s,x],argTypes:=#[130,130] }) (base:Nat)
  (v:Value) (l:List (N_)) (hs:a.eval s=v) (hown:XL base v l w) (hn:l.length<=100000)
  (B:Nat) (f:N_) (hx:a.eval x=.slice (some ⟨B,0,none⟩) 1 1) (hnews:w.rangeAt B 0 (bl f 104)) (hbase:base<=w.heap.size) (H:Nat) (hH:w.heap.size=H)
  (h:∀g cap w',XL base (.slice (some ⟨g,0,none⟩) (l.length+1) cap) (l++[f]) w'->w.grownBy w' v.ownBlock->(v.ownBlock=some g\/g=H)->g<w'.heap.size->wpList prog ops Q rest (a.put o.dst (.slice (some ⟨g,0,none⟩) (l.length+1) cap)) w'):wpList prog ops Q (o::rest) a w:=by
 obtain⟨i,m,c,d,e⟩:=DP;refine fD w hgd s x 130 ho base 135 i _ 104 104 underlying130 m c d e (by simp[Value.cells,Y9]) Qo v l.length (Xc l) hs hown ⟨B,0,none⟩ 1 1 (bl f 104) hx (by rw[Y9]) (λj u b=>by rw[fe];exact hnews j u b) (λu b=>?_) Qo (by unfold maxLen;omega) Qo hbase H hH ?_
 .have:=YJ f 104;rw[Array.all_eq_true']at this;exact this u (by simpa using b)
 intro g cap w' h1 h2 h3 k;refine h g cap w' ?_ h2 h3 k;unfold XL;rw[Zl,JW,DZ];exact h1
def GF(z:Nat):∀(cs:List Value) (k:Nat) (Z:Array Value),z+k+cs.length<=Z.size ->
  ((cs.zipIdx k).foldl (λ(Z:Array Value) (c,j)=>Z.setIfInBounds (z+j) c) Z).size=Z.size /\
  ∀i,((cs.zipIdx k).foldl (λ(Z:Array Value) (c,j)=>Z.setIfInBounds (z+j) c) Z)[i]?=if z+k<=i/\i<z+k+cs.length then cs[i-(z+k)]? else Z[i]?
 |[],k,Z,_=>⟨rfl,λi=>by rw[dG Qs];rfl⟩
 |c::cs,k,Z,h=>by
  simp only[dZ]at h;let⟨h1,h2⟩:=GF z cs (k+1) (Z.setIfInBounds (z+k) c) Qp;simp only[List.zipIdx_cons,dr];refine⟨by rw[h1];simp,λi=>?_⟩;rw[h2 i];by_cases e:i=z+k
  .subst e;rw[g_,dF Qs,Array.getElem?_setIfInBounds_self_of_lt Qo];simp
  by_cases e2:z+k<=i/\i<z+k+(cs.length+1)
  .rw[p_,dF (by simpa using e2),show i-(z+k)=(i-(z+(k+1)))+1 by omega];rfl
  rw[g_,dG (by simpa using e2),Array.getElem?_setIfInBounds_ne (λx=>e x.symm)]
def MK(z:Nat->Option (Nat × Nat))(Z:Array Value)(v:Value)(n:Nat)(J:z 0=some (0,n))(Y:v.cells.size=n)(H:Z.size=n):Instr.fill z Z [(0,v)]=some v.cells:=by
 let⟨C,b⟩:=nam v.cells;have a:C.size=n:=by rw[b];exact Y
 have h0:Instr.fill z Z [(0,v)]=if (v.cells.size≠n || 0+v.cells.size > Z.size)=true then none else Instr.fill z (v.cells.zipIdx.foldl (λcs (c,j)=>cs.setIfInBounds (0+j) c) Z) []:=by
  simp only[Instr.fill,J]
 rw[h0,<-b,dG (by simp[a,H]),Instr.fill];congr 1;let⟨h1,h2⟩:=GF 0 C.toList 0 Z Qp;have e:C.zipIdx.foldl (λcs (x:Value × Nat)=>cs.setIfInBounds (0+x.2) x.1) Z=(C.toList.zipIdx 0).foldl (λcs (x:Value × Nat)=>cs.setIfInBounds (0+x.2) x.1) Z:=by
  rw[<-Array.foldl_toList,Array.toList_zipIdx]
 rw[e];refine Array.ext_getElem? (λi=>?_);rw[h2 i];by_cases d:i<n
 .rw[dF Qp];simp
 rw[dG Qp,fC Qo,fC Qo]
def QF(f:N_)(w:World):(Instr.buildSlice 130 1 #[(0,.agg (bl f 104).toArray)]).run prog w=.ok (.slice (some (a_ w.heap.size 0)) 1 1) (w.alloc (.cells (bl f 104).toArray 135)):=by
 have hs:(sizeOf 135).run prog w=.ok 104 w:=Qk
 have hz:=So w;have a:=MK (λi=>some (i*104,104)) ((Array.range (1*104)).map ((bl (λ_=>false) 104).toArray[·%(bl (λ_=>false) 104).toArray.size]!)) (.agg (bl f 104).toArray) 104 rfl (by simp[Value.cells,Y9]) Qs;have b:(Value.agg (bl f 104).toArray).cells=(bl f 104).toArray:=rfl;have e2:(Value.agg (bl (λ_=>false) 104).toArray).cells=(bl (λ_=>false) 104).toArray:=rfl;rw[b]at a;simp only[Instr.buildSlice,fE,gd underlying130,Zu,hs,f9,hz,e2,fV,a,newRow];simp
def OE(z:op.guard=none)(x:Operand)(H:op.op=.buildSlice 130 1 #[(0,x)])
  (f:N_) (J:a.eval x=.agg (bl f 104).toArray) (h:wpList prog ops Q rest (a.put op.dst (.slice (some (a_ w.heap.size 0)) 1 1)) (w.alloc (.cells (bl f 104).toArray 135))):wpList prog ops Q (op::rest) a w:=
 fU z λ_ b=>by
  unfold Oper.wp execOp;have c:=QF f w;have e:(#[((0:Nat),x)].map λ(p:Nat × Operand)=>(p.1,a.eval p.2))=#[(0,.agg (bl f 104).toArray)]:=by simp[J]
  simp only[H,fE,e,c,Zu,fV];exact b _ _ h
def LX(w:World):(Instr.build 135 #[]).run prog w=.ok (.agg (bl (λ_=>false) 104).toArray) w:=Qk
def VT(z:op.guard=none)(H:op.op=.build 135 #[])
  (h:wpList prog ops Q rest (a.put op.dst (.agg (bl (λ_=>false) 104).toArray)) w):wpList prog ops Q (op::rest) a w:=
 fU z λ_ b=>by
  unfold Oper.wp execOp;have c:=LX w;have e:((#[]:Array (Nat × Operand)).map λ(p:Nat × Operand)=>(p.1,a.eval p.2))=#[]:=Qs
  simp only[H,fE,e,c,Zu,fV];exact b _ _ h
def Ve:Nat->Bool:=λ_=>false
def Xp(l:List (Nat->Bool))(f:Nat->Bool):Int:=if Yq f Ve 104=true then -1 else (l.findIdx (λg=>Yq g f 104):Int)
def WK(l:List (Nat->Bool))(f:Nat->Bool):List (Nat->Bool):=if Yq f Ve 104=true then l else if l.findIdx (λg=>Yq g f 104)<l.length then l else l++[f]
structure GN (gb base:Nat) (K:Int) (vs vt:Value) (l:List (Nat->Bool)) (w:World):Prop where
 c:TC gb [.int .i64 K,vs,vt] w
 o:XL base vs l w
def GN.below{K:Int}{vs:Value}(h:GN gb base K vs vt l w)(z:Bl w w'):GN gb base K vs vt l w':=⟨h.c.below z,h.o.below z⟩
def RO(gb base:Nat)(K:Int)(vs vt:Value)(l:List (Nat->Bool))(f:Nat->Bool)(w:World)(e:Ending)(w':World):Prop:=
 ∃vs',e=.returned (.int .i64 (Xp l f))/\GN gb base K vs' vt (WK l f) w'/\Below gb w w'/\w.heap.size<=w'.heap.size /\
  (∀k,k<w.heap.size->k≠gb->vs.ownBlock≠some k->w'.heap[k]?=w.heap[k]?)/\(∀k,vs'.ownBlock=some k->vs.ownBlock=some k\/w.heap.size<=k)
def RO.same{K:Int}{vs:Value}{f:N_}(h:GN gb base K vs vt l w)(J:r=Xp l f)(H:WK l f=l)(z:Bl w w'):
  RO gb base K vs vt l f w (.returned (I6 r)) w':=
 ⟨vs,by rw[J],by rw[H];exact h.below z,z.mono (ZM h.c.lt),z.size,λk a _ _=>z.block k a,λ_ a=>Or.inl a⟩
def FQ{α:Type}{p:α->Bool}{l:List α}{s:Nat}{g:α}(hs:l[s]?=some g)(H:p g=true)(z:∀i x,i<s->l[i]?=some x->p x=false):l.findIdx p=s:=by
 have a:=(Zi.1 hs).1;rw[List.findIdx_eq a];refine⟨by rw[(Zi.1 hs).2];exact H,λj b=>z j _ b (Zd Qo)⟩
def Xd{P:Program}{K:Act->World->Prop}(z:ops[i]?=some o)(J:Region.wanted o (yielded ops a.tmps)=true)
  (H:(execOp a.eval o).run P w=.ok (.value v) w') (h:K (a.put o.dst v) w'):wpOp P ops Q i K a w:=
 wpOp_step z λK' b=>by
  rw[dF J];unfold Oper.wp;rw[H];exact b _ _ h
def XJ{P:Program}(z:TypeId)(x:Operand)(Z:o.op=.load z x)(b c:Nat)(hx:a.eval x=.pointer (some (a_ b c)))(cs:List Value)(d:TypeDesc)(H:w.rangeAt b c cs)
  (hu:P.underlying z=some d) (J:d.isRow=true) (Y:(P.info? z).map (·.size)=some cs.length):(execOp a.eval o).run P w=.ok (.value (.agg cs.toArray)) w:=by
 unfold execOp;simp only[Z,hx,Instr.loadAt,Instr.sureAddr,fE,fV,Zu,ZF w b c z cs d H hu J Y]
def VR(x:Operand)(z:o.op=.buildSlice 130 1 #[(0,x)])(f:N_)(H:a.eval x=.agg (bl f 104).toArray):
  (execOp a.eval o).run prog w=.ok (.value (.slice (some (a_ w.heap.size 0)) 1 1)) (w.alloc (.cells (bl f 104).toArray 135)):=by
 unfold execOp;have b:=QF f w;have e:(#[((0:Nat),x)].map λ(p:Nat × Operand)=>(p.1,a.eval p.2))=#[(0,.agg (bl f 104).toArray)]:=by simp[H]
 simp only[z,fE,e,b,Zu,fV]
variable {md:Region.Mode}
def We{P:Program}{ops:List Oper}(k:Nat)(H:(ops.drop k).length=fuel)(z:Region.seqB md ops.toArray fuel k listed=true)
  (h:wpList P ops.toArray Q (ops.drop k) a w):wpAny P md ops.toArray Q fuel listed a w:=by
 subst H;exact wpAny_of_seq (ops.drop k) k listed a w (λj=>by simp[ez]) z h
def Sl{P:Program}(i j k:Nat){o4 o5 o6:Oper}{v4 v5 v6:Value}{listed L:Array Bool}{a A:Act}{w w':World}
  (Y:ops[i]?=some o4) (h5:ops[j]?=some o5) (Z:ops[k]?=some o6) (H:o4.guard=none) (g5:o5.guard=none) (J:o6.guard=none)
  (r0:Region.ready md ops listed=[i,j]) (r1:Region.ready md ops (listed.setIfInBounds i true)=[j]) (r2:Region.ready md ops ((listed.setIfInBounds i true).setIfInBounds j true)=[k])
  (r3:Region.ready md ops (listed.setIfInBounds j true)=[i,k]) (r4:Region.ready md ops ((listed.setIfInBounds j true).setIfInBounds i true)=[k]) (r5:Region.ready md ops ((listed.setIfInBounds j true).setIfInBounds k true)=[i])
  (x4:(execOp a.eval o4).run P w=.ok (.value v4) w) (y4:(execOp (a.put o5.dst v5).eval o4).run P w=.ok (.value v4) w) (z4:(execOp ((a.put o5.dst v5).put o6.dst v6).eval o4).run P w'=.ok (.value v4) w')
  (x5:(execOp a.eval o5).run P w=.ok (.value v5) w) (y5:(execOp (a.put o4.dst v4).eval o5).run P w=.ok (.value v5) w)
  (x6:(execOp (a.put o5.dst v5).eval o6).run P w=.ok (.value v6) w') (y6:(execOp ((a.put o4.dst v4).put o5.dst v5).eval o6).run P w=.ok (.value v6) w') (z6:(execOp ((a.put o5.dst v5).put o4.dst v4).eval o6).run P w=.ok (.value v6) w')
  (l1:((listed.setIfInBounds i true).setIfInBounds j true).setIfInBounds k true=L) (l2:((listed.setIfInBounds j true).setIfInBounds i true).setIfInBounds k true=L) (l3:((listed.setIfInBounds j true).setIfInBounds k true).setIfInBounds i true=L)
  (f1:((a.put o4.dst v4).put o5.dst v5).put o6.dst v6=A) (f2:((a.put o5.dst v5).put o4.dst v4).put o6.dst v6=A) (f3:((a.put o5.dst v5).put o6.dst v6).put o4.dst v4=A)
  (z:wpAny P md ops Q fuel L A w'):wpAny P md ops Q (fuel+3) listed a w:=by
 refine wpAny_all r0 Qs (λq b=>?_);rcases ZR.1 b with rfl|b
 .refine Xd Y (by simp[Region.wanted,H]) x4 (wpAny_all r1 Qs (λq b=>?_));rw[ZC.1 b];refine Xd h5 (by simp[Region.wanted,g5]) y5 (wpAny_all r2 Qs (λq b=>?_));rw[ZC.1 b];apply Xd Z (by simp[Region.wanted,J]) y6;rw[l1,f1];exact z
 rw[ZC.1 b];refine Xd h5 (by simp[Region.wanted,g5]) x5 (wpAny_all r3 Qs (λq b=>?_));rcases ZR.1 b with rfl|b
 .refine Xd Y (by simp[Region.wanted,H]) y4 (wpAny_all r4 Qs (λq b=>?_));rw[ZC.1 b];apply Xd Z (by simp[Region.wanted,J]) z6;rw[l2,f2];exact z
 rw[ZC.1 b];refine Xd Z (by simp[Region.wanted,J]) x6 (wpAny_all r5 Qs (λq b=>?_));rw[ZC.1 b];apply Xd Y (by simp[Region.wanted,H]) z4;rw[l3,f3];exact z
def Iw(gb base:Nat)(K:Int)(vs vt:Value)(l:List (N_))(f:N_)(w:World)(hG:GN gb base K vs vt l w)(ar:gb<base)(aq:base<=w.heap.size)(hl:l.length<=1000):
  Cp 129 #[pT gb,.agg (bl f 104).toArray] w (RO gb base K vs vt l f w):=by
 obtain⟨W,hW⟩:∃W,W=w.alloc (.cells (bl f 104).toArray 135):=⟨_,rfl⟩;have E:Bl w W:=by rw[hW];exact box_bel _ _
 have I:TC w.heap.size (bl f 104) W:=by rw[hW];exact TC.boxed w (bl f 104) 135
 obtain⟨x,B⟩:∃x,x=Yq f Ve 104:=⟨_,rfl⟩;have d:=I.range;have N:Hid (GN gb base K vs vt l w):=hG;have HW:Hid (W=w.alloc (.cells (bl f 104).toArray 135)):=hW;have R:Hid (x=Yq f (λ_=>false) 104):=B;clear hG hW B;have V:=E.size;cases x
 case true=>
  go_enter func129,ntmps129;go_wp2_with (first|(rw[<-HW.o];refine Zb rfl 135 _ rfl w.heap.size 0 rfl (bl f 104) _ d u_d rfl (by rw[Y9];exact Yt) ?_)|(refine VT rfl rfl ?_)|(apply RB rfl _ _ rfl f (λ_=>false) rfl rfl;rw[<-R.o]));go_ret;have t:Yq f Ve 104=true:=R.o.symm;exact RO.same N.o (by rw[Xp,dF t]) (by rw[WK,dF t]) E
 go_enter func129,ntmps129;go_wp2_with (first|(rw[<-HW.o];refine Zb rfl 135 _ rfl w.heap.size 0 rfl (bl f 104) _ d u_d rfl (by rw[Y9];exact Yt) ?_)|(refine VT rfl rfl ?_)|(apply RB rfl _ _ rfl f (λ_=>false) rfl rfl;rw[<-R.o]));have t:¬Yq f Ve 104=true:=by have:=R.o;rw[show Yq f Ve 104=false from this.symm];simp
 have HR:Hid (Xp l f=(l.findIdx (λg=>Yq g f 104):Int)):=by show _=_;rw[Xp,dG t]
 have HL:Hid (WK l f=if l.findIdx (λg=>Yq g f 104)<l.length then l else l++[f]):=by show _=_;rw[WK,dG t]
 clear t R HW
 go_loopw [5] (λx w'=>∃s:Nat,s<=l.length/\x=I6 s/\Hid (∀i g,i<s->l[i]?=some g->Yq g f 104=false)/\Bl w w'/\TC w.heap.size (bl f 104) w') (λx _=>l.length-(intOf x).toNat)
 .exact⟨0,Qo,rfl,λi g hi=>Qo,E,I⟩
 clear E I d V;obtain⟨s,hs,rfl,HF,T,hn⟩:=hrel;have G:=N.o.below T;let⟨ad,cap,S,h2⟩:=G.o.at_;have c1:=(G.c 1 _ rfl).1;have d:=hn.range;by_cases H:s<l.length
 .have aa:(s:Int)<(l.length:Int):=Qo
  obtain⟨g,Y⟩:∃g,l[s]?=some g:=⟨_,Zd H⟩;let⟨gk,e2,k2⟩:=h2 s g Y;subst e2;rw[S]at c1;have Hg:=hyd Y;let⟨y,hy⟩:=nam (Yq g f 104);have Hy:=hyd hy;let⟨n,b⟩:=nam l.length;have C:=hyd b;rw[<-b]at c1 aa hl;clear h2 S Y hy b G;go_wp2;apply wp_region_still_tail 8 Qk Qk;simp only[ZK,f7,ZL,Zw];change wpStill _ _ wr.drew (λa'=>wpList _ _ _ _ a' wr.drew) _ _
  repeat still_step
  refine Vb rfl 135 _ rfl gk (s*104) rfl (bl g 104) _ (λj v J=>k2 j v J) u_d rfl (by rw[Y9];exact Yt) ?_;refine Vb rfl 135 _ rfl w.heap.size 0 rfl (bl f 104) _ (λj v J=>d j v J) u_d rfl (by rw[Y9];exact Yt) ?_;apply f8;apply RB rfl _ _ rfl g f rfl rfl;rw[<-Hy.o];have m:=T.drew;have ai:=hn;clear c1 k2 d hn T;cases y
  .go_wp2;go_roundw
   .refine⟨s+1,Qo,Qg,λi x hi B=>?_,m,ai⟩;rcases ZD i s with h|h
    .exact HF i x h B
    rw[show i=s by omega,Hg.o]at B;cases B;exact Hy.o.symm
   simp[intOf];omega
  go_wp2;go_ret;have e:=FQ Hg.o Hy.o.symm (λi x hi B=>HF.o i x hi B);exact RO.same N.o (by rw[HR.o,e]) (by rw[HL.o,e,dF H]) m
 have ah:¬(s:Int)<(l.length:Int):=Qo
 have e:l.findIdx (λg=>Yq g f 104)=l.length:=List.findIdx_eq_length.2 (λx B=>by
  obtain⟨i,hi,rfl⟩:=List.mem_iff_getElem.1 B;exact HF i _ Qo (Zd hi))
 have ac:Hid (Xp l f=(l.length:Int)):=by show _=_;rw[HR.o,e]
 have ab:Hid (WK l f=l++[f]):=by show _=_;rw[HL.o,e,g_]
 let⟨n,b⟩:=nam l.length;have C:=hyd b;rw[<-b]at ah hl;rw[S,<-b]at c1;have Q:Hid (vs=.slice ad n cap):=by show _=_;rw[S,<-b]
 clear h2 S HF HR HL hs H b e;go_wp2;apply wp_region_any Qk;change wpAny _ _ _ _ 11 _ _ wr.drew;apply tJ 0
 apply tJ 1
 apply tJ 2
 apply tJ 3
 have m:=T.drew;have Gd:=N.o.below m;let⟨O,r⟩:=nam (wr.drew.alloc (.cells (bl f 104).toArray 135));have z:O.rangeAt wr.drew.heap.size 0 (bl f 104):=by rw[r];exact(TC.boxed wr.drew (bl f 104) 135).range
 have x3:Below wr.drew.heap.size wr.drew O:=by rw[r];exact box_bel _ _
 have P:=Gd.below x3;have M:=m.trans (x3.mono m.size);have ag:base<=O.heap.size:=by have:=M.size;omega
 have q4:=c1;have al:O.cell? (a_ gb 1)=some (.slice ad n cap):=by rw[<-Q.o];exact(P.c 1 _ rfl).1
 refine Sl (fuel:=4) 4 5 6 (o4:=?o4) (o5:=?o5) (o6:=?o6) (v4:=.slice ad n cap) (v5:=.agg (bl f 104).toArray) (v6:=.slice (some (a_ wr.drew.heap.size 0)) 1 1) (L:=#[true,true,true,true,true,true,true,false,false,false,false]) (A:=?A) (w':=O)
  ?h4 ?h5 ?h6 ?g4 ?g5 ?g6 ?r0 ?r1 ?r2 ?r3 ?r4 ?r5 ?x4 ?y4 ?z4 ?x5 ?y5 ?x6 ?y6 ?z6 ?l1 ?l2 ?l3 ?f1 ?f2 ?f3 ?fin
 case h4=>simp only[gel];rfl
 case h5=>simp only[gel];rfl
 case h6=>simp only[gel];rfl
 case g4=>rfl
 case g5=>rfl
 case g6=>rfl
 case r0=>kernel_rfl
 case r1=>kernel_rfl
 case r2=>kernel_rfl
 case r3=>kernel_rfl
 case r4=>kernel_rfl
 case r5=>kernel_rfl
 case x4=>go_simp
 case y4=>simp only[psm];go_simp
 case z4=>clear r;simp only[psm];go_simp
 case x5=>exact XJ 135 _ rfl w.heap.size 0 rfl (bl f 104) _ (λj v J=>d j v J) u_d rfl (by rw[Y9];exact Yt)
 case y5=>exact XJ 135 _ rfl w.heap.size 0 rfl (bl f 104) _ (λj v J=>d j v J) u_d rfl (by rw[Y9];exact Yt)
 case x6=>rw[r];exact VR _ rfl f rfl
 case y6=>rw[r];exact VR _ rfl f rfl
 case z6=>rw[r];exact VR _ rfl f rfl
 case l1=>kernel_rfl
 case l2=>kernel_rfl
 case l3=>kernel_rfl
 case f1=>simp only[psm];rfl
 case f2=>simp only[psm]
 case f3=>simp only[psm]
 apply We 7 rfl Qk;simp only[ZL,Zw];let⟨D,hD⟩:=nam wr.drew.heap.size;rw[<-hD]at z ⊢;have HK:Hid (∀w5,O.grownBy w5 vs.ownBlock->TC gb [I6 K,vs,vt] w5):=λw5 Y=>
  P.c.block (Y.block _ P.c.lt (λe=>by have:=(P.o.blk _ e.symm).1;omega))
 have af:=P.o;clear c1 d hn T G m Gd r x3 hD q4 al;refine Wz Qr _ _ Qr base vs l (by rw[Q.o];rfl) af (by rw[<-C.o];omega) D f Qr z ag _ rfl ?_;rw[<-C.o];intro g u w5 U a Z ap;let⟨c6,am⟩:=HK.o w5 a 1 _ rfl;have an:=(U.blk g rfl).1;clear z;go_wp2;go_ret;have ae:=HK.o w5 a;have ao:=N.o.c.lt;have X:=N.o.o.blk;have B5:Below gb w w5:=(M.mono Qo).grown a (by have:=M.size;omega) (λq hq=>by have:=(X q hq).1;omega);have hb:∀k,k≠gb->(w5.setCell (a_ gb 1) (sL g (n+1) u)).heap[k]?=w5.heap[k]?:=λk F=>Zq w5 (a_ gb 1) _ k (λe=>F e)
 have B6:=B5.setCell (p:=(a_ gb 1)) (Zg _) (sL g (n+1) u);refine⟨sL g (n+1) u,?_,⟨ae.set 1 Qs _,?_⟩,B6,B6.size,λk F aj ak=>?_,λk F=>?_⟩
 .rw[ac.o,C.o];rfl
 .rw[ab.o];exact U.keep (λk F=>hb k (by cases F;show g≠gb;omega))
 .rw[hb k aj,a.block k (by have:=M.size;omega) (λe=>ak e.symm),M.block k F]
 cases F;rcases Z with h|h
 .exact Or.inl h
 exact Or.inr (by have:=M.size;show w.heap.size<=g;omega)
inductive WU (A:(Nat->Bool)->Nat->Nat->Bool) (F:Nat->Bool) (ls:List Nat):Nat->Nat->List (Nat->Bool)->List Int->Prop
 |first:WU A F ls 0 0 [F] []
 |kind {s k:Nat}{l:List (Nat->Bool)}{t:List Int}{f:Nat->Bool}{b:Nat} (h:WU A F ls s k l t) (hf:l[s]?=some f) (hb:ls[k]?=some b) (hr:Xp l (A f b)<200):
   WU A F ls s (k+1) (WK l (A f b)) (t++[Xp l (A f b)])
 |set {s:Nat}{l:List (Nat->Bool)}{t:List Int} (h:WU A F ls s ls.length l t) (hs:s<l.length):WU A F ls (s+1) 0 l t
def Kb(l:List (Nat->Bool))(f:Nat->Bool):-1<=Xp l f:=by unfold Xp;split<;>omega
def TU(l:List (Nat->Bool))(f:Nat->Bool):(WK l f).length=l.length\/((WK l f).length=l.length+1/\Xp l f=l.length):=by
 unfold WK Xp;split
 .exact Or.inl rfl
 split
 .exact Or.inl rfl
 have:=gi (p:=λg=>Yq g f 104) (xs:=l);exact Or.inr ⟨by simp,by omega⟩
def I0(l:List (Nat->Bool))(f:Nat->Bool):∃u,WK l f=l++u:=by
 unfold WK;split
 .exact⟨[],by simp⟩
 split
 .exact⟨[],by simp⟩
 exact⟨[f],rfl⟩
def Ka{f g:Nat->Bool}{s:Nat}(h:l[s]?=some g):(WK l f)[s]?=some g:=by
 obtain⟨u,e⟩:=I0 l f;rw[e,Zv (Zi.1 h).1];exact h
def Ol(l:List (Nat->Bool))(f:Nat->Bool):Xp l f<(WK l f).length:=by
 unfold WK Xp;split
 .omega
 split
 .omega
 have:=gi (p:=λg=>Yq g f 104) (xs:=l);simp;omega
def Ak{f:Nat->Bool}(h:Yq f Ve 104=false):∃(k:Nat) (g:Nat->Bool),Xp l f=k/\(WK l f)[k]?=some g/\Yq g f 104=true:=by
 have b:¬Yq f Ve 104=true:=by simp[h]
 rw[Xp,WK,dG b,dG b];by_cases a:l.findIdx (λg=>Yq g f 104)<l.length
 .rw[dF a];exact⟨_,_,rfl,Zd a,List.findIdx_getElem (p:=λg=>Yq g f 104) (w:=a)⟩
 rw[dG a];have e:l.findIdx (λg=>Yq g f 104)=l.length:=by have:=gi (p:=λg=>Yq g f 104) (xs:=l);omega
 rw[e];exact⟨_,f,rfl,by simp,(WY _ _ _).2 (λ_ _=>rfl)⟩
def WU.size{A:(Nat->Bool)->Nat->Nat->Bool}{ls:List Nat}{s:Nat}{t:List Int}(h:WU A F ls s k l t):0<l.length/\l.length<=200/\t.length=s*ls.length+k/\k<=ls.length/\s<=l.length:=by
 induction h with
 |first=>simp
 |kind h hf hb hr ih=>
  have a:=(Zi.1 hb).1;rename_i l t f b;have:=TU l (A f b);refine⟨by omega,by omega,by simp;omega,by omega,by omega⟩
 |set h hs ih=>exact⟨by omega,by omega,by rw[du];omega,by omega,by omega⟩
def WU.range{A:(Nat->Bool)->Nat->Nat->Bool}{ls:List Nat}{s:Nat}{t:List Int}(h:WU A F ls s k l t):∀x∈t,-1<=x/\x<l.length:=by
 induction h with
 |first=>intro x a;cases a
 |kind h hf hb hr ih=>
  rename_i l t f b;intro x a;rcases ZU.1 a with h1|h1
  .have:=ih x h1;have:=TU l (A f b);omega
  rw[ZC.1 h1];exact⟨Kb _ _,Ol _ _⟩
 |set h hs ih=>exact ih
def Wg(w:World):(zeroValue 247).run prog w=.ok (.agg (bl (λ_=>false) 193).toArray) w:=by kernel_rfl
def Y3:(prog.info? 247).map (·.size)=some 193:=by kernel_rfl
def Rt:Nat->Bool:=λi=>i==0
def Ky(w:World):(Instr.build 247 #[(0,.bool true)]).run prog w=.ok (.agg (bl Rt 193).toArray) w:=by kernel_rfl
def OD(hgd:op.guard=none)(x:Operand)(ho:op.op=.build 247 #[(0,x)])(hx:a.eval x=.bool true)
  (h:wpList prog ops Q rest (a.put op.dst (.agg (bl Rt 193).toArray)) w):wpList prog ops Q (op::rest) a w:=
 fU hgd λ_ b=>by
  unfold Oper.wp execOp;have c:=Ky w;have e:(#[((0:Nat),x)].map λ(p:Nat × Operand)=>(p.1,a.eval p.2))=#[(0,.bool true)]:=by simp[hx]
  simp only[ho,fE,e,c,Zu,fV];exact b _ _ h
def Yc{f:Nat->Bool}(h:TC t (bl f n) w):w.there t 0 n:=by have:=h.there;rw[Y9]at this;exact this
def SD(w:World):Cp 208 #[] w λe w'=>e=.returned (.agg (bl Rt 193).toArray)/\Bl w w':=by
 have hz:=Wg;obtain⟨W,j⟩:=nam (w.alloc (.cells (bl (λ_=>false) 193).toArray 247));have T:TC w.heap.size (bl (λ_=>false) 193) W:=by rw[j];exact TC.boxed _ _ _
 have B:Bl w W:=by rw[j];exact box_bel _ _
 obtain⟨L,i⟩:=nam (bl Rt 193);have b:L.length=193:=by rw[i];exact Y9 _ _
 have h:=Yc T;have o:=Y8 w.heap.size L 0 W;have g:=Zo W w.heap.size 0 L (by rw[b];exact h);have a:=ZF (P:=prog) (W.setCells w.heap.size 0 L) w.heap.size 0 247 L _ g u_b rfl (by rw[b];exact Y3);have m:=B.grown o B.size (λq r=>by cases r;omega);obtain⟨s,c⟩:=nam (W.setCells w.heap.size 0 L);rw[<-c]at a m;have l:=hyd c;have p:=hyd j;have f:=hyd a;have k:Hid (L.toArray.all (·.oneCell')=true):=by show _=true;rw[i];exact YJ _ _
 have d:=hyd b;have n:=hyd i;clear j i b o g a c T B;go_enter func208,ntmps208;go_wp2_with (first|(refine OD rfl _ rfl rfl ?_;rw[<-n.out,<-p.out])|(refine Za rfl 247 _ _ rfl w.heap.size 0 L.toArray rfl rfl (by simpa[d.out]using h) (by simpa[d.out]using Y3) k.out ?_;rw[Zc,<-l.out]));refine Zr (v:=.agg L.toArray) (res_load1 results208 rfl f.out) rfl ?_;exact⟨by rw[n.out],m⟩
def Bm.TC.sub{f:Nat->Bool}(h:TC b (bl f n) w)(o m:Nat)(hm:o+m<=n):w.rangeAt b o (bl (λi=>f (o+i)) m):=λk v a=>by
 have c:k<m:=by have:=(Zi.1 a).1;rw[Y9]at this;exact this
 rw[YO _ c]at a;exact(h (o+k) v (by rw[YO _ (by omega)];exact a)).1
def Bm.TC.thereAt{f:Nat->Bool}(h:TC b (bl f n) w)(o m:Nat)(hm:o+m<=n):w.there b o m:=λj a=>by
 obtain⟨h1,h2⟩:=h (o+j) _ (YO f (by omega));exact⟨by rw[h1];rfl,h2⟩
def Xi(f:Nat->Bool)(o m:Nat)(g:Nat->Bool):Nat->Bool:=λj=>if o<=j/\j<o+m then g (j-o) else f j
def Bm.TC.setPart{f:Nat->Bool}(h:TC b (bl f n) w)(o m:Nat)(g:Nat->Bool)(hm:o+m<=n):TC b (bl (Xi f o m g) n) (w.setCells b o (bl g m)):=by
 have h1:=h.setBools ((List.range m).map g) o f w (by simpa using hm);rw[<-Be]at h1;rw[YW (λi a=>?_)]
 .exact h1
 unfold Xi;simp only[Zy,gj];by_cases e:o<=i/\i<o+m
 .rw[dF e,dF e];simp[Zf,show i-o<m by omega]
 rw[dG e,dG e]
def Jj(b:Bool)(w:World):(Instr.build 247 #[(0,.bool b)]).run prog w=.ok (.agg (bl (λi=>i==0&&b) 193).toArray) w:=by
 cases b
 .kernel_rfl
 kernel_rfl
def SM(hgd:op.guard=none)(x:Operand)(ho:op.op=.build 247 #[(0,x)])(b:Bool)(hx:a.eval x=.bool b)
  (h:wpList prog ops Q rest (a.put op.dst (.agg (bl (λi=>i==0&&b) 193).toArray)) w):wpList prog ops Q (op::rest) a w:=
 fU hgd λ_ c=>by
  unfold Oper.wp execOp;have d:=Jj b w;have e:(#[((0:Nat),x)].map λ(p:Nat × Operand)=>(p.1,a.eval p.2))=#[(0,.bool b)]:=by simp[hx]
  simp only[ho,fE,e,d,Zu,fV];exact c _ _ h
structure EI (w:World) (r s c:Nat->Bool) (W:World):Prop where
 a:TC w.heap.size (bl r 193) W
 b:TC (w.heap.size+1) (bl s 193) W
 z:TC (w.heap.size+2) (bl (fun _=>false) 193) W
 c:TC (w.heap.size+3) (bl c 193) W
 e:Below w.heap.size w W
def EI.below{r s c:N_}(h:EI w r s c W)(H:Bl W W'):EI w r s c W':=
 ⟨h.a.block (H.block _ h.a.ltB),h.b.block (H.block _ h.b.ltB),h.z.block (H.block _ h.z.ltB),h.c.block (H.block _ h.c.ltB),h.e.trans (H.mono h.e.size)⟩
def EI.put{r s c:N_}(h:EI w r s c W)(o m:Nat)(g:N_)(H:o+m<=193):EI w r s (Xi c o m g) (W.setCells (w.heap.size+3) o (bl g m)):=by
 have d:=Y8 (w.heap.size+3) (bl g m) o W;exact⟨h.a.block (d.block _ h.a.ltB (λe=>by have:=Zh e;omega)),h.b.block (d.block _ h.b.ltB (λe=>by have:=Zh e;omega)),h.z.block (d.block _ h.z.ltB (λe=>by have:=Zh e;omega)),
  h.c.setPart o m g H,h.e.grown d h.e.size (λq f=>by cases f;omega)⟩
def FP(r s:N_)(w:World):
  Cp 200 #[.agg (bl r 193).toArray,.agg (bl s 193).toArray] w λe w'=>e=.returned (.agg (bl (λi=>r i || s i) 193).toArray)/\Bl w w':=by
 have hz:=Wg;let⟨W1,J⟩:=nam (w.alloc (.cells (bl r 193).toArray 247));let⟨W2,K⟩:=nam (W1.alloc (.cells (bl s 193).toArray 247));let⟨V,N⟩:=nam (W2.alloc (.cells (bl (λ_=>false) 193).toArray 247));let⟨W4,O⟩:=nam (V.alloc (.cells (bl (λ_=>false) 193).toArray 247));have z1:W1.heap.size=w.heap.size+1:=by rw[J];simp
 have z2:W2.heap.size=w.heap.size+2:=by rw[K];simp[z1]
 have z3:V.heap.size=w.heap.size+3:=by rw[N];simp[z2]
 have S0:EI w r s (λ_=>false) W4:=by
  have T1:=TC.boxed w (bl r 193) 247;have T2:=TC.boxed W1 (bl s 193) 247;have T3:=TC.boxed W2 (bl (λ_=>false) 193) 247;have T4:=TC.boxed V (bl (λ_=>false) 193) 247;have x1:=box_bel w (.cells (bl r 193).toArray 247);have x2:=box_bel W1 (.cells (bl s 193).toArray 247);have x3:=box_bel W2 (.cells (bl (λ_=>false) 193).toArray 247);have x4:=box_bel V (.cells (bl (λ_=>false) 193).toArray 247);unfold Bl at x1 x2 x3 x4;rw[<-J]at T1 x1;rw[<-K,z1]at T2 x2;rw[<-N,z2]at T3 x3;rw[<-O,z3]at T4 x4;exact⟨((T1.block (x2.block _ Qo)).block (x3.block _ Qo)).block (x4.block _ Qo),(T2.block (x3.block _ Qo)).block (x4.block _ Qo),T3.block (x4.block _ Qo),T4,((x1.trans (x2.mono Qo)).trans (x3.mono Qo)).trans (x4.mono Qo)⟩
 have W:W4=(((w.alloc (.cells (bl r 193).toArray 247)).alloc (.cells (bl s 193).toArray 247)).alloc (.cells (bl (λ_=>false) 193).toArray 247)).alloc (.cells (bl (λ_=>false) 193).toArray 247):=by rw[O,N,K,J]
 have p:=hyd W;have ca:V.cell? (a_ w.heap.size 0)=some (.bool (r 0)):=by
  have h:=(S0.a 0 _ (YO r Qo)).1;rw[O,World.cell?_alloc_old _ _ _ (by show w.heap.size≠V.heap.size;omega)]at h;exact h
 have cb:V.cell? (a_ (w.heap.size+1) 0)=some (.bool (s 0)):=by
  have h:=(S0.b 0 _ (YO s Qo)).1;rw[O,World.cell?_alloc_old _ _ _ (by show w.heap.size+1≠V.heap.size;omega)]at h;exact h
 rw[N,K,J]at ca cb;have Hs:=hyd S0;clear S0 J K N O z1 z2 z3 W;let⟨x,hx⟩:=nam (r 0);let⟨y,hy⟩:=nam (s 0);rw[<-hx]at ca;rw[<-hy]at cb;have Hx:=hyd hx;have Hy:=hyd hy;clear hx hy;let⟨L,hL⟩:=nam (bl (λi=>i==0&&(x || y)) 193);have ai:L.length=193:=by rw[hL];exact Y9 _ _
 have HL:=hyd hL;have T:=hyd ai;have ag:Hid (L.toArray.all (·.oneCell')=true):=by show _=true;rw[hL];exact YJ _ _
 have aj:=Hs.o.c.thereAt 0 193 Qo;let⟨W5,af⟩:=nam (W4.setCells (w.heap.size+3) 0 L);have S5:EI w r s (Xi (λ_=>false) 0 193 (λi=>i==0&&(x || y))) W5:=by rw[af,hL];exact Hs.o.put 0 193 _ Qo
 have ah:=hyd af;have aa:=hyd S5;clear hL ai af;have r1:=S5.a.sub 1 96 Qo;have r2:=S5.b.sub 1 96 Qo;clear S5;have HF:Hid (∀i,i<193->Xi (Xi (Xi (λ_=>false) 0 193 (λi=>i==0&&(x || y))) 1 96 (λi=>r (1+i) || s (1+i))) 97 96 (λi=>r (97+i) || s (97+i)) i=(r i || s i)):=λi hi=>by
  unfold Xi;by_cases h1:97<=i/\i<97+96
  .rw[dF h1];show(r (97+(i-97)) || s (97+(i-97)))=_;rw[show 97+(i-97)=i by omega]
  rw[dG h1];by_cases h2:1<=i/\i<1+96
  .rw[dF h2];show(r (1+(i-1)) || s (1+(i-1)))=_;rw[show 1+(i-1)=i by omega]
  rw[dG h2,p_];have:i=0:=Qo
  subst this;simp[Hx.o,Hy.o]
 let⟨C,hC⟩:=nam (Xi (λ_=>false) 0 193 (λi=>i==0&&(x || y)));rw[<-hC]at aa HF;clear Hx Hy hC;cases x
 .go_enter func200,ntmps200;go_wp2_with (first|(apply SM rfl _ rfl y Qr;rw[show bl (λi=>i==0&&y) 193=L from (by rw[HL.o];rfl)])|(refine Za rfl 247 _ _ rfl (w.heap.size+3) 0 L.toArray rfl rfl (by rw[<-p.o];simpa[T.o]using aj) (by simpa[T.o]using Y3) ag.o ?_;rw[Zc,<-p.o,<-ah.o])|(refine Zb rfl 132 _ rfl w.heap.size 1 rfl _ _ r1 u_a rfl (by rw[Y9];exact Y0) ?_)|(refine Zb rfl 132 _ rfl (w.heap.size+1) 1 rfl _ _ r2 u_a rfl (by rw[Y9];exact Y0) ?_));apply ft (Xn _ _ W5);rintro e w6 ⟨rfl,F⟩;have S6:=aa.o.below F;let⟨R,d⟩:=nam (bl (λi=>r (1+i) || s (1+i)) 96);have t:=S6.put 1 96 (λi=>r (1+i) || s (1+i)) Qo;have t1:=S6.c.thereAt 1 96 Qo;rw[<-d]at t;let⟨W7,n⟩:=nam (w6.setCells (w.heap.size+3) 1 R);rw[<-n]at t;have ac:=hyd n;have A:Hid (R.length=96):=by show _=_;rw[d];exact Y9 _ _
  have X:Hid (R.toArray.all (·.oneCell')=true):=by show _=true;rw[d];exact YJ _ _
  rw[<-d];have r3:=t.a.sub 97 96 Qo;have r4:=t.b.sub 97 96 Qo;have ab:=hyd t;clear n d S6 t F r1 r2;go_wp2_with (first|(apply Za rfl 132 _ _ rfl (w.heap.size+3) 1 R.toArray rfl rfl (by simpa[A.o]using t1) (by simpa[A.o]using Y0) X.o;rw[Zc,<-ac.o])|(refine Zb rfl 132 _ rfl w.heap.size 97 rfl _ _ r3 u_a rfl (by rw[Y9];exact Y0) ?_)|(refine Zb rfl 132 _ rfl (w.heap.size+1) 97 rfl _ _ r4 u_a rfl (by rw[Y9];exact Y0) ?_));apply ft (Xn _ _ W7);rintro e w8 ⟨rfl,G⟩;have S8:=ab.o.below G;let⟨S,f⟩:=nam (bl (λi=>r (97+i) || s (97+i)) 96);have m:=S8.put 97 96 (λi=>r (97+i) || s (97+i)) Qo;have t2:=S8.c.thereAt 97 96 Qo;rw[<-f]at m;let⟨U,o⟩:=nam (w8.setCells (w.heap.size+3) 97 S);rw[<-o]at m;have ae:=hyd o;have B:Hid (S.length=96):=by show _=_;rw[f];exact Y9 _ _
  have Y:Hid (S.toArray.all (·.oneCell')=true):=by show _=true;rw[f];exact YJ _ _
  rw[<-f];let⟨M,I⟩:=nam (bl (Xi (Xi C 1 96 (λi=>r (1+i) || s (1+i))) 97 96 (λi=>r (97+i) || s (97+i))) 193);have Sc:=m.c;rw[<-I]at Sc;have k:M.length=193:=by rw[I];exact Y9 _ _
  have HM:Hid (M=bl (λi=>r i || s i) 193):=by show _=_;rw[I];exact YW (λi hi=>HF.o i hi)
  have rM:=Sc.range;have tz:=m.z.thereAt 0 193 Qo;have H:=Y8 (w.heap.size+2) M 0 U;have Q:=Zo U (w.heap.size+2) 0 M (by rw[k];exact tz);have j:=ZF (P:=prog) (U.setCells (w.heap.size+2) 0 M) (w.heap.size+2) 0 247 M _ Q u_b rfl (by rw[k];exact Y3);have u:=m.e.grown H m.e.size (λq hq=>by cases hq;omega);let⟨ak,g⟩:=nam (U.setCells (w.heap.size+2) 0 M);rw[<-g]at j u;have D:=hyd g;have E:=hyd j;have l:=hyd k;have Z:Hid (M.toArray.all (·.oneCell')=true):=by show _=true;rw[I];exact YJ _ _
  clear o f S8 m Sc I k H Q j g G r3 r4 t1;go_wp2_with (first|(apply Za rfl 132 _ _ rfl (w.heap.size+3) 97 S.toArray rfl rfl (by simpa[B.o]using t2) (by simpa[B.o]using Y0) Y.o;rw[Zc,<-ae.o])|(refine Zb rfl 247 _ rfl (w.heap.size+3) 0 rfl M _ rM u_b rfl (by rw[l.o];exact Y3) ?_)|(apply Za rfl 247 _ _ rfl (w.heap.size+2) 0 M.toArray rfl rfl (by simpa[l.o]using tz) (by simpa[l.o]using Y3) Z.o;rw[Zc,<-D.o]));apply Zr (v:=.agg M.toArray) (res_load1 results200 rfl E.o) rfl;exact⟨by rw[HM.o],u⟩
 go_enter func200,ntmps200;go_wp2_with (first|(apply SM rfl _ rfl true Qr;rw[show bl (λi=>i==0&&true) 193=L from (by rw[HL.o];rfl)])|(refine Za rfl 247 _ _ rfl (w.heap.size+3) 0 L.toArray rfl rfl (by rw[<-p.o];simpa[T.o]using aj) (by simpa[T.o]using Y3) ag.o ?_;rw[Zc,<-p.o,<-ah.o])|(refine Zb rfl 132 _ rfl w.heap.size 1 rfl _ _ r1 u_a rfl (by rw[Y9];exact Y0) ?_)|(refine Zb rfl 132 _ rfl (w.heap.size+1) 1 rfl _ _ r2 u_a rfl (by rw[Y9];exact Y0) ?_));apply ft (Xn _ _ W5);rintro e w6 ⟨rfl,F⟩;have S6:=aa.o.below F;let⟨R,d⟩:=nam (bl (λi=>r (1+i) || s (1+i)) 96);have t:=S6.put 1 96 (λi=>r (1+i) || s (1+i)) Qo;have t1:=S6.c.thereAt 1 96 Qo;rw[<-d]at t;let⟨W7,n⟩:=nam (w6.setCells (w.heap.size+3) 1 R);rw[<-n]at t;have ac:=hyd n;have A:Hid (R.length=96):=by show _=_;rw[d];exact Y9 _ _
 have X:Hid (R.toArray.all (·.oneCell')=true):=by show _=true;rw[d];exact YJ _ _
 rw[<-d];have r3:=t.a.sub 97 96 Qo;have r4:=t.b.sub 97 96 Qo;have ab:=hyd t;clear n d S6 t F r1 r2;go_wp2_with (first|(apply Za rfl 132 _ _ rfl (w.heap.size+3) 1 R.toArray rfl rfl (by simpa[A.o]using t1) (by simpa[A.o]using Y0) X.o;rw[Zc,<-ac.o])|(refine Zb rfl 132 _ rfl w.heap.size 97 rfl _ _ r3 u_a rfl (by rw[Y9];exact Y0) ?_)|(refine Zb rfl 132 _ rfl (w.heap.size+1) 97 rfl _ _ r4 u_a rfl (by rw[Y9];exact Y0) ?_));apply ft (Xn _ _ W7);rintro e w8 ⟨rfl,G⟩;have S8:=ab.o.below G;let⟨S,f⟩:=nam (bl (λi=>r (97+i) || s (97+i)) 96);have m:=S8.put 97 96 (λi=>r (97+i) || s (97+i)) Qo;have t2:=S8.c.thereAt 97 96 Qo;rw[<-f]at m;let⟨U,o⟩:=nam (w8.setCells (w.heap.size+3) 97 S);rw[<-o]at m;have ae:=hyd o;have B:Hid (S.length=96):=by show _=_;rw[f];exact Y9 _ _
 have Y:Hid (S.toArray.all (·.oneCell')=true):=by show _=true;rw[f];exact YJ _ _
 rw[<-f];let⟨M,I⟩:=nam (bl (Xi (Xi C 1 96 (λi=>r (1+i) || s (1+i))) 97 96 (λi=>r (97+i) || s (97+i))) 193);have Sc:=m.c;rw[<-I]at Sc;have k:M.length=193:=by rw[I];exact Y9 _ _
 have HM:Hid (M=bl (λi=>r i || s i) 193):=by show _=_;rw[I];exact YW (λi hi=>HF.o i hi)
 have rM:=Sc.range;have tz:=m.z.thereAt 0 193 Qo;have H:=Y8 (w.heap.size+2) M 0 U;have Q:=Zo U (w.heap.size+2) 0 M (by rw[k];exact tz);have j:=ZF (P:=prog) (U.setCells (w.heap.size+2) 0 M) (w.heap.size+2) 0 247 M _ Q u_b rfl (by rw[k];exact Y3);have u:=m.e.grown H m.e.size (λq hq=>by cases hq;omega);let⟨ak,g⟩:=nam (U.setCells (w.heap.size+2) 0 M);rw[<-g]at j u;have D:=hyd g;have E:=hyd j;have l:=hyd k;have Z:Hid (M.toArray.all (·.oneCell')=true):=by show _=true;rw[I];exact YJ _ _
 clear o f S8 m Sc I k H Q j g G r3 r4 t1;go_wp2_with (first|(apply Za rfl 132 _ _ rfl (w.heap.size+3) 97 S.toArray rfl rfl (by simpa[B.o]using t2) (by simpa[B.o]using Y0) Y.o;rw[Zc,<-ae.o])|(refine Zb rfl 247 _ rfl (w.heap.size+3) 0 rfl M _ rM u_b rfl (by rw[l.o];exact Y3) ?_)|(apply Za rfl 247 _ _ rfl (w.heap.size+2) 0 M.toArray rfl rfl (by simpa[l.o]using tz) (by simpa[l.o]using Y3) Z.o;rw[Zc,<-D.o]));apply Zr (v:=.agg M.toArray) (res_load1 results200 rfl E.o) rfl;exact⟨by rw[HM.o],u⟩
def ER(w:World):(zeroValue 251).run prog w=.ok (.agg (bl (λ_=>false) 256).toArray) w:=Qk
def Py:(prog.info? 251).map (·.size)=some 256:=Qk
def VX(l:List (Nat->Bool)):List Value:=l.flatMap λf=>bl f 256
def JU(a b:List (N_)):VX (a++b)=VX a++VX b:=by simp[VX]
def DW(f:N_):VX [f]=bl f 256:=by simp[VX]
def Ir:∀(l:List (N_)) (s j:Nat) (f:N_),l[s]?=some f->j<256->(VX l)[s*256+j]?=some (.bool (f j))
 |[],s,j,f,h,_=>by simp at h
 |g::l,0,j,f,h,hj=>by
  simp at h;subst h;rw[show VX (g::l)=bl g 256++VX l from by simp[VX],Zv (by rw[Y9];omega),fJ,Zn,YO _ hj]
 |g::l,s+1,j,f,h,hj=>by
  rw[show VX (g::l)=bl g 256++VX l from by simp[VX],ZG (by rw[Y9];omega),Y9,show(s+1)*256+j-256=s*256+j by omega];exact Ir l s j f (by simpa using h) hj
def Wu(base:Nat)(v:Value)(l:List (Nat->Bool))(w:World):Prop:=w.ownsRow base 251 256 v l.length (VX l)
def Wu.nil(base:Nat)(w:World):Wu base (sN) [] w:=⟨rfl,Or.inl ⟨rfl,rfl⟩⟩
def Wu.blk(h:Wu base v l w):∀k,v.ownBlock=some k->base<=k/\k<w.heap.size:=λk a=>h.lt k a
def Wu.keep(h:Wu base v l w)(z:∀k,v.ownBlock=some k->w'.heap[k]?=w.heap[k]?):Wu base v l w':=by
 refine⟨h.1,?_⟩;rcases h.2 with h0|⟨g,cap,a,rfl,h1,h2,h3⟩
 .exact Or.inl h0
 exact Or.inr ⟨g,cap,a,rfl,h1,by rw[z g rfl];exact h2,h3⟩
def Wu.below(h:Wu base v l w)(z:Bl w w'):Wu base v l w':=h.keep (λk a=>z.block k (h.blk k a).2)
def Wu.grown(h:Wu base v l w)(H:w.grownBy w' row)(z:∀k,v.ownBlock=some k->row≠some k):Wu base v l w':=
 h.keep (λk a=>H.block k (h.blk k a).2 (λe=>z k a e.symm))
def Wu.at_(h:Wu base v l w):∃ad cap,v=.slice ad l.length cap/\∀(s:Nat) (f:N_),l[s]?=some f->∃g,ad=some (a_ g 0)/\w.rangeAt g (s*256) (bl f 256):=by
 rcases h.2 with ⟨rfl,h0⟩|⟨g,cap,d,rfl,h1,h2,h3,k,m,n⟩
 .refine⟨none,0,by rw[h0],λi x e=>?_⟩;have o:=(Zi.1 e).1;omega
 refine⟨some (a_ g 0),cap,rfl,λs f hs=>⟨g,rfl,λj v a=>?_⟩⟩;have b:j<256:=by have:=(Zi.1 a).1;rw[Y9]at this;exact this
 rw[YO _ b]at a;cases a;have c:=h.cells (g:=g) rfl (s*256+j) (.bool (f j)) (Ir l s j f hs b);rw[fe,Zn]at c;exact c
def Bo:∃i,prog.info? 251=some i/\i.zero=some (.agg (bl (λ_=>false) 256).toArray)/\i.size=256/\i.bytes=256:=by
 have h:(prog.info? 251).isSome=true:=Qk
 let⟨i,a⟩:=Zx.1 h;refine⟨i,a,?_,?_,?_⟩
 .have:((prog.info? 251).bind (·.zero))=some (.agg (bl (λ_=>false) 256).toArray):=Qk
  rw[a]at this;simpa using this
 .have:((prog.info? 251).map (·.size))=some 256:=Qk
  rw[a]at this;simpa using this
 have:((prog.info? 251).map (·.bytes))=some 256:=Qk
 rw[a]at this;simpa using this
def Rv(hgd:o.guard=none)(s x:Operand)
  (ho:o.op=.call { callee:=.builtin .append,args:=#[s,x],argTypes:=#[129,129] }) (base:Nat)
  (v:Value) (l:List (N_)) (hs:a.eval s=v) (hown:Wu base v l w) (hn:l.length<=100000)
  (B:Nat) (f:N_) (hx:a.eval x=.slice (some ⟨B,0,none⟩) 1 1) (hnews:w.rangeAt B 0 (bl f 256)) (hbase:base<=w.heap.size) (H:Nat) (hH:w.heap.size=H)
  (h:∀g cap w',Wu base (.slice (some ⟨g,0,none⟩) (l.length+1) cap) (l++[f]) w'->w.grownBy w' v.ownBlock->(v.ownBlock=some g\/g=H)->g<w'.heap.size->wpList prog ops Q rest (a.put o.dst (.slice (some ⟨g,0,none⟩) (l.length+1) cap)) w'):wpList prog ops Q (o::rest) a w:=by
 obtain⟨i,m,c,d,e⟩:=Bo;refine fD w hgd s x 129 ho base 251 i _ 256 256 underlying129 m c d e (by simp[Value.cells,Y9]) Qo v l.length (VX l) hs hown ⟨B,0,none⟩ 1 1 (bl f 256) hx (by rw[Y9]) (λj u b=>by rw[fe];exact hnews j u b) (λu b=>?_) Qo (by unfold maxLen;omega) Qo hbase H hH ?_
 .have:=YJ f 256;rw[Array.all_eq_true']at this;exact this u (by simpa using b)
 intro g cap w' h1 h2 h3 k;refine h g cap w' ?_ h2 h3 k;unfold Wu;rw[Zl,JU,DW];exact h1
def KA(f:N_)(w:World):(Instr.buildSlice 129 1 #[(0,.agg (bl f 256).toArray)]).run prog w=.ok (.slice (some (a_ w.heap.size 0)) 1 1) (w.alloc (.cells (bl f 256).toArray 251)):=by
 have hs:(sizeOf 251).run prog w=.ok 256 w:=Qk
 have hz:=ER w;have a:=MK (λi=>some (i*256,256)) ((Array.range (1*256)).map ((bl (λ_=>false) 256).toArray[·%(bl (λ_=>false) 256).toArray.size]!)) (.agg (bl f 256).toArray) 256 rfl (by simp[Value.cells,Y9]) Qs;have b:(Value.agg (bl f 256).toArray).cells=(bl f 256).toArray:=rfl;have e2:(Value.agg (bl (λ_=>false) 256).toArray).cells=(bl (λ_=>false) 256).toArray:=rfl;rw[b]at a;simp only[Instr.buildSlice,fE,gd underlying129,Zu,hs,f9,hz,e2,fV,a,newRow];simp
