import Derived.Test.YtoaaklhpmhjhkaaGreatC06
import Derived.Test.YtoaaklhpmhjhkaaGreatC07
set_option maxRecDepth 100000
set_option maxHeartbeats 4000000
set_option linter.all false
namespace Go.Proofs.YtoaaklhpmhjhkaaGreat
open Go.Proofs.Tryz
section
open Go.RowKit
open Bm
def BR(ba:Option Addr)(h:Nat->Bool)(n:Nat)(w:World):Prop:=∀i,i<n->∃blk off,ba=some ⟨blk,off,none⟩/\w.cell? ⟨blk,off+i,none⟩=some (.bool (h i))
variable {a:Act}{ops:Array Oper}{tmps:Array Value}{s:ByteArray}{Q:Exit->Act->World->Prop}{fn:Func}{r x0 x1 x2 x3:Int}{bs ck ck' df nt nt':List Int}{rest:List Oper}{cs:List Value}{B N b base cap cb g g1 g2 i j k m n pb rb:Nat}{f:Nat->Int}{rk:Nat->Nat}{nx:Nat->Nat->Int}{o:Oper}{ad ba:Option Addr}{v v0 v1 v2 v3 v4 v5 v6 vb vb' vc vc' vd vn vn':Value}{W W' W1 w w' w2 w3 w5:World}
def BR.below{h:N_}(H:BR ba h n w)(z:Bl w w'):BR ba h n w':=λi c=>by
 let⟨b,o,e,a⟩:=H i c;exact⟨b,o,e,by rw[z.cell (p:=(a_ b (o+i))) (Ze w _ a)];exact a⟩
def BR.keep{h:N_}(H:BR ba h n w)(z:∀k o,ba=some (a_ k o)->w'.heap[k]?=w.heap[k]?):BR ba h n w':=λi d=>by
 let⟨b,o,e,c⟩:=H i d;exact⟨b,o,e,by rw[eZ (w:=w) (a:=(a_ b (o+i))) (z b o e)];exact c⟩
def Vd(f h:Nat->Bool)(n:Nat):Bool:=(List.range n).any λi=>h i&&!f i
def M4(f h:N_)(n:Nat):Vd f h (n+1)=(Vd f h n || (h n&&!f n)):=by simp[Vd,ZT]
def Rq(f h:Nat->Bool)(k i:Nat):Bool:=f i || (decide (i<k)&&h i)
def PO(Y Z n:Nat)(f:N_)(ba:Option Addr)(bn bc:Nat)(h:N_)(w:World)(hn:n<=1000000)(hT:TC Y (bl f n) w)(ac:n<=bn)(hB:BR ba h n w)(aa:∀k o,ba=some (a_ k o)->k≠Y):
  Cp 117 #[sL Y n Z,.slice ba bn bc] w λe w'=>e=.returned (.bool (Vd f h n))/\TC Y (bl (λi=>f i || h i) n) w'/\(∀k,k≠Y->w'.heap[k]?=w.heap[k]?)/\w'.heap.size=w.heap.size/\(∀B0 w0,B0<=Y->Below B0 w0 w->Below B0 w0 w'):=by
 have J:Hid (∀w':World,(∀k,k≠Y->w'.heap[k]?=w.heap[k]?)->BR ba h n w'):=λw' d=>hB.keep (λk o e=>d k (aa k o e))
 have T0:TC Y (bl (Rq f h 0) n) w:=by
  rw[YW (g:=f) (λi _=>by simp[Rq])];exact hT
 have P:(n:Int)<=1000000:=Qo
 have F:(n:Int)<=bn:=Qo
 go_enter func117,ntmps117;go_wp2
 go_loopw [5,6] (λm x w'=>∃i:Nat,i<=n/\x=I6 i/\m=.bool (Vd f h i)/\TC Y (bl (Rq f h i) n) w'/\(∀k,k≠Y->w'.heap[k]?=w.heap[k]?)/\w'.heap.size=w.heap.size/\Hid (∀B0 w0,B0<=Y->Below B0 w0 w->Below B0 w0 w')) (λ_ x _=>n-(intOf x).toNat)
 .exact⟨0,Qo,rfl,rfl,T0,λ_ _=>rfl,rfl,λ_ _ _ h=>h⟩
 obtain⟨i,S,rfl,rfl,T,d,t,a⟩:=hrel;have l:Hid (∀B0 w0,B0<=Y->Below B0 w0 w->Below B0 w0 (wr.setCell (a_ Y i) (.bool true))):=λB0 w0 s h=>(a B0 w0 s h).setCell (p:=(a_ Y i)) s _
 by_cases c:i<n
 .have G:(i:Int)<n:=Qo
  have H:(i:Int)<bn:=Qo
  let⟨Q,R,L,cb⟩:=J.o wr d i c;subst L;let⟨A,fa⟩:=T i _ (YO _ c);have e0:Rq f h i i=f i:=by simp[Rq]
  rw[e0]at A;have z:h i=true->f i=false->TC Y (bl (Rq f h (i+1)) n) (wr.setCell (a_ Y i) (.bool true)):=λh1 h2=>by
   have:=T.set i (by rw[Y9];exact c) (.bool true);rw[Vm]at this;rw[YW (g:=λj=>if j=i then true else Rq f h i j) (λj C=>?_)]
   .exact this
   by_cases e:j=i
   .subst e;simp[Rq,h1]
   have:decide (j<i+1)=decide (j<i):=Qp
   simp[Rq,e,this]
  have D:∀k,k≠Y->(wr.setCell (a_ Y i) (.bool true)).heap[k]?=w.heap[k]?:=λk r=>by
   rw[Zq wr (a_ Y i) _ k (λe=>r e)];exact d k r
  have K:(h i&&!f i)=false->TC Y (bl (Rq f h (i+1)) n) wr:=λh1=>by
   rw[YW (g:=Rq f h i) (λj C=>?_)]
   .exact T
   by_cases e:j=i
   .subst e;simp only[Rq];cases hh:h j<;>cases hf:f j<;>simp_all
   have:decide (j<i+1)=decide (j<i):=Qp
   simp[Rq,this]
  have I:=M4 f h i;let⟨M,N⟩:=nam (Vd f h i);rw[<-N]at I ⊢;have y:=hyd I;have u:=hyd z;have q:=hyd K;have v:=hyd D;have E:=hyd d;have b:=hyd t;cases hh:h i
  .rw[hh]at cb;go_wp2;go_roundw
   .exact⟨i+1,Qo,Qg,by rw[y.o,hh];simp,q.o (by rw[hh];rfl),E.o,b.o,a⟩
   simp[intOf];omega
  rw[hh]at cb;cases hf:f i
  .rw[hf]at A;go_wp2;go_roundw
   .exact⟨i+1,Qo,Qg,by rw[y.o,hh,hf];simp,u.o hh hf,v.o,by simpa using b.o,l⟩
   simp[intOf];omega
  rw[hf]at A;go_wp2;go_roundw
  .exact⟨i+1,Qo,Qg,by rw[y.o,hh,hf];simp,q.o (by rw[hh,hf];rfl),E.o,b.o,a⟩
  simp[intOf];omega
 have O:¬(i:Int)<n:=Qo
 have B:i=n:=Qo
 subst B;have z:TC Y (bl (λj=>f j || h j) i) wr:=by
  rw[YW (g:=Rq f h i) (λj C=>by simp[Rq,C])];exact T
 go_wp2;go_ret;exact⟨rfl,z,d,t,a⟩
def JX(L:Nat->ByteArray)(k:ByteArray)(n:Nat):Int:=match (List.range n).find? (λi=>decide (L i=k))with|some i=>(i:Int)|none=>-1
def Iu{L:Nat->ByteArray}{k:ByteArray}(H:i<n)(h:L i=k)(z:∀j,j<i->L j≠k):JX L k n=i:=by
 have:(List.range n).find? (λi=>decide (L i=k))=some i:=by
  rw[List.find?_range_eq_some];refine⟨by simp[h],by simpa using H,λj a=>by simpa using z j a⟩
 simp[JX,this]
def La{L:Nat->ByteArray}{k:ByteArray}(z:∀j,j<n->L j≠k):JX L k n=-1:=by
 have:(List.range n).find? (λi=>decide (L i=k))=none:=by
  rw[List.find?_eq_none];intro x a;simpa using z x (by simpa using a)
 simp[JX,this]
def Bx(b z cap n:Nat)(L:Nat->ByteArray)(k:ByteArray)(w:World)(J:n<=1000000)(H:RL b z L n w):
  Cp 59 #[.slice (some (a_ b z)) n cap,.string k] w λe w'=>e=.returned (I6 (JX L k n))/\w'=w:=by
 have p:(n:Int)<=1000000:=Qo
 have m:=hyd H;go_enter func59,ntmps59;go_wp2
 go_loop [5] (λx=>∃i:Nat,i<=n/\x=I6 i/\Hid (∀j,j<i->L j≠k)) (λx=>n-(intOf x).toNat)
 .exact⟨0,Qo,rfl,λj h=>Qo⟩
 obtain⟨i,s,rfl,f⟩:=hrel;by_cases a:i<n
 .have l:(i:Int)<n:=Qo
  have r:=m.o i a;by_cases c:L i=k
  .have d:=hyd (Iu a c f);have q:((L i).toList==k.toList)=true:=by rw[c];simp
   go_wp2;go_ret;exact⟨Y2 d.o.symm,rfl⟩
  have q:((L i).toList==k.toList)=false:=by
   rw[dU];intro e;apply c;have h1:(L i).data.toList=k.data.toList:=by simpa[fS]using e
   exact ByteArray.ext (Array.toList_inj.1 h1)
  have g:Hid (∀j,j<i+1->L j≠k):=λj h=>by
   by_cases e:j=i
   .subst e;exact c
   exact f j Qo
  go_wp2
  go_round
  .exact⟨i+1,Qo,Qg,g⟩
  simp[intOf];omega
 have o:¬(i:Int)<n:=Qo
 have d:Hid (JX L k n=-1):=La (λj h=>f.o j Qo);go_wp2;go_ret;exact⟨Y2 d.o.symm,rfl⟩
def FV:∃i,prog.info? 4=some i/\i.zero=some (.bool false)/\i.size=1/\i.bytes=1:=by
 have h1:(prog.info? 4).isSome=true:=Qk
 let⟨i,a⟩:=Zx.1 h1;refine⟨i,a,?_,?_,?_⟩
 .have:((prog.info? 4).bind (·.zero))=some (.bool false):=Qk
  rw[a]at this;exact this
 .have:((prog.info? 4).map (·.size))=some 1:=Qk
  rw[a]at this;simpa using this
 have:((prog.info? 4).map (·.bytes))=some 1:=Qk
 rw[a]at this;simpa using this
def BN:∃i,prog.info? 5=some i/\i.zero=some (.int .u8 0)/\i.size=1/\i.bytes=1:=by
 have h1:(prog.info? 5).isSome=true:=Qk
 let⟨i,a⟩:=Zx.1 h1;refine⟨i,a,?_,?_,?_⟩
 .have:((prog.info? 5).bind (·.zero))=some (.int .u8 0):=Qk
  rw[a]at this;exact this
 .have:((prog.info? 5).map (·.size))=some 1:=Qk
  rw[a]at this;simpa using this
 have:((prog.info? 5).map (·.bytes))=some 1:=Qk
 rw[a]at this;simpa using this
def SA(v:Value)(n:Nat):madeCells #[v] n=((List.range n).map λ_=>v).toArray:=by
 refine Array.ext_getElem? (λi=>?_);by_cases h:i<n
 .simp[madeCells,h,Nat.mod_one]
 simp[madeCells,h]
def Tm(w:World)(n:Nat)(z:n<=1000000):(Instr.makeSlice 78 (I6 (n:Int)) (I6 (n:Int))).run prog w=.ok (.slice (some (a_ w.heap.size 0)) n n) (w.alloc (.cells (bl (λ_=>false) n).toArray 4)):=by
 let⟨i,b,hz,hs,a⟩:=FV;have h:=run_make (P:=prog) w 78 4 i (.bool false) u_q b hz .i64 .i64 n n Qo Qo (by rw[a];omega) Qo;rw[hs]at h;simp only[ZE,ff]at h;rw[show(Value.bool false).cells=#[.bool false] from rfl,SA]at h;exact h
def L9(g:Nat->UInt8)(n:Nat):List Value:=(List.range n).map λi=>.int .u8 ((g i).toNat:Int)
def Ot(g:Nat->UInt8)(n:Nat):(L9 g n).length=n:=by simp[L9]
def Df(g:Nat->UInt8){n i:Nat}(h:i<n):(L9 g n)[i]?=some (.int .u8 ((g i).toNat:Int)):=by simp[L9,h]
def PK{f g:Nat->UInt8}(h:∀i,i<n->f i=g i):L9 f n=L9 g n:=by
 unfold L9;exact ZO (λi a=>by rw[h i (by simpa using a)])
def AE(g:Nat->UInt8)(n i:Nat)(x:UInt8):(L9 g n).set i (.int .u8 (x.toNat:Int))=L9 (λj=>if j=i then x else g j) n:=by
 refine fG (λj=>?_);rw[List.getElem?_set];by_cases a:j<n
 .by_cases e:i=j
  .subst e;simp[L9,a]
  have:¬j=i:=λh=>e h.symm
  simp[L9,a,e,this]
 have h1:(L9 (λj=>if j=i then x else g j) n)[j]?=none:=ZB (by rw[Ot];omega);have h2:(L9 g n)[j]?=none:=ZB (by rw[Ot];omega);rw[h1,h2];split
 .rename_i e;subst e;rw[dG (by rw[Ot];omega)]
 rfl
def GD(w:World)(n:Nat)(z:n<=1000000):(Instr.makeSlice 99 (I6 (n:Int)) (I6 (n:Int))).run prog w=.ok (.slice (some (a_ w.heap.size 0)) n n) (w.alloc (.cells (L9 (λ_=>0) n).toArray 5)):=by
 let⟨i,b,hz,hs,a⟩:=BN;have h:=run_make (P:=prog) w 99 5 i (.int .u8 0) u_g b hz .i64 .i64 n n Qo Qo (by rw[a];omega) Qo;rw[hs]at h;simp only[ZE,ff]at h;rw[show(Value.int .u8 0).cells=#[.int .u8 0] from rfl,SA]at h;exact h
def Oy(f:Nat->Bool)(n:Nat):List UInt8:=(List.range n).map λi=>if f i then 1 else 0
def Wi(f:Nat->Bool)(n:Nat):ByteArray:=⟨(Oy f n).toArray⟩
def BU{f g:N_}:Wi f n=Wi g n<->∀i,i<n->f i=g i:=by
 constructor
 .intro h i a;have h1:Oy f n=Oy g n:=by
   have:=congrArg (λx=>x.data.toList) h;simpa[Wi]using this
  have h2:=congrArg (λl=>l[i]?) h1;simp only[Oy,fT,List.getElem?_range a,dX,Zp]at h2;cases hf:f i<;>cases hg:g i<;>simp_all
 intro h;have:Oy f n=Oy g n:=ZO (λi a=>by rw[h i (by simpa using a)]);unfold Wi;rw[this]
def Mb(z:o.guard=none)(x:Operand)
  (Z:o.op=.convert 99 9 x) (g n cap:Nat) (l:List UInt8) (hx:a.eval x=sL g n cap) (Y:l.length=n) (J:∀j (H:j<l.length),w.cell? (a_ g j)=some (.int .u8 (l[j].toNat:Int)))
  (h:wpList prog ops Q rest (a.put o.dst (.string ⟨l.toArray⟩)) w):wpList prog ops Q (o::rest) a w:=
 fU z λ_ b=>by
  subst Y;have c:=run_convert_bytes_back (P:=prog) w 99 9 5 (a_ g 0) cap l u_g u_l u_h (λj H=>by
   rw[fe,Zn];exact J j H)
  unfold Oper.wp execOp;simp only[Z,fE,fV,Zu,hx,c];exact b _ _ h
def D6(f:Nat->Bool)(k i:Nat):UInt8:=if decide (i<k)&&f i then 1 else 0
def J0(H:Option Addr)(n cap:Nat)(f:N_)(w:World)(Y:n<=1000000)(J:BR H f n w):
  Cp 56 #[.slice H n cap] w λe w'=>e=.returned (.string (Wi f n))/\Bl w w':=by
 have o:=GD w n Y;have C:(n:Int)<=1000000:=Qo
 let⟨W,d⟩:=nam (w.alloc (.cells (L9 (λ_=>0) n).toArray 5));rw[<-d]at o;have T0:TC w.heap.size (L9 (D6 f 0) n) W:=by
  rw[d,PK (g:=λ_=>0) (λi _=>by simp[D6])];exact TC.boxed w _ _
 have B0:Bl w W:=by rw[d];exact box_bel _ _
 have t:Hid (∀w',Bl w w'->BR H f n w'):=λw' h=>J.below h
 clear J d;go_enter func56,ntmps56;go_wp2
 go_loopw [4] (λx w'=>∃i:Nat,i<=n/\x=I6 i/\TC w.heap.size (L9 (D6 f i) n) w'/\Bl w w') (λx _=>n-(intOf x).toNat)
 .exact⟨0,Qo,rfl,T0,B0⟩
 clear T0 B0;obtain⟨i,G,rfl,T,B⟩:=hrel;by_cases a:i<n
 .have r:(i:Int)<n:=Qo
  let⟨E,F,z,cb⟩:=t.o wr B i a;subst z;let⟨y,fa⟩:=T i _ (Df _ a);have c:∀x,f i=x->L9 (D6 f (i+1)) n=L9 (λj=>if j=i then (if x then 1 else 0) else D6 f i j) n:=λx D=>PK (λj b=>by
   by_cases e:j=i
   .subst e;simp[D6,D]
   have:decide (j<i+1)=decide (j<i):=Qp
   simp[D6,e,this])
  cases hf:f i
  .have k:TC w.heap.size (L9 (D6 f (i+1)) n) wr:=by
    rw[c _ hf,PK (g:=D6 f i) (λj b=>?_)]
    .exact T
    by_cases e:j=i
    .subst e;simp[D6]
    simp[e]
   rw[hf]at cb;clear T c y fa;go_wp2;go_roundw
   .exact⟨i+1,Qo,Qg,k,B⟩
   simp[intOf];omega
  have k:TC w.heap.size (L9 (D6 f (i+1)) n) (wr.setCell (a_ w.heap.size i) (.int .u8 1)):=by
   rw[c _ hf];have:=T.set i (by rw[Ot];exact a) (.int .u8 1);have h2:=AE (D6 f i) n i 1;rw[show((1:UInt8).toNat:Int)=1 from rfl]at h2;rw[h2]at this;exact this
  have s:Bl w (wr.setCell (a_ w.heap.size i) (.int .u8 1)):=B.setCell (p:=(a_ w.heap.size i)) (Zg _) _;rw[hf]at cb;clear T c B;go_wp2;go_roundw
  .exact⟨i+1,Qo,Qg,k,s⟩
  simp[intOf];omega
 have A:¬(i:Int)<n:=Qo
 have l:i=n:=Qo
 subst l;have m:(Oy f i).length=i:=by simp[Oy]
 have q:∀j (b:j<(Oy f i).length),wr.cell? (a_ w.heap.size j)=some (.int .u8 ((Oy f i)[j].toNat:Int)):=λj b=>by
  rw[m]at b;rw[(T j _ (Df _ b)).1];simp[Oy,D6,b]
 have u:=hyd q;have v:=hyd m;clear T q m;go_wp2_with (first|(with_reducible show wpList _ _ _ (⟨_,Op.convert _ _ _,_,_,_,_⟩::_) _ _;refine Mb rfl _ rfl w.heap.size i i (Oy f i) rfl v.o u.o ?_));go_ret;exact⟨rfl,B⟩
structure FB (pb N:Nat) (vd:Nat->Int) (nx:Nat->Nat->Int) (bs:List Nat) (w:World):Prop where
 v:∃va vc,w.cell? ⟨pb,0,none⟩=some (.slice va N vc)/\IL va vd N w
 n:∃na nc,w.cell? ⟨pb,1,none⟩=some (.slice na N nc)/\∀i,i<N->∃nb off ra rc,na=some ⟨nb,off,none⟩/\w.cell? ⟨nb,off+i,none⟩=some (.slice ra 256 rc)/\IL ra (nx i) 256 w
 b:∃ba bc,w.cell? ⟨pb,2,none⟩=some (.slice ba bs.length bc)/\IL ba (fun i=>(bs.getD i 0:Int)) bs.length w
def FB.below{vd:Nat->Int}{bs:List Nat}(h:FB pb N vd nx bs w)(z:Bl w w'):FB pb N vd nx bs w':=by
 let⟨s,vc,c0,l⟩:=h.v;let⟨q,nc,c1,m⟩:=h.n;let⟨ba,d,c2,o⟩:=h.b;have g:=Ze w _ c0;have e:∀k,w'.cell? (a_ pb k)=w.cell? (a_ pb k):=λk=>z.cell (p:=(a_ pb k)) g
 refine⟨⟨s,vc,by rw[e];exact c0,l.below z⟩,⟨q,nc,by rw[e];exact c1,λi j=>?_⟩,⟨ba,d,by rw[e];exact c2,o.below z⟩⟩;let⟨nb,a,ra,r,f,c,il⟩:=m i j;exact⟨nb,a,ra,r,f,by rw[z.cell (p:=(a_ nb (a+i))) (Ze w _ c)];exact c,il.below z⟩
def Dr(N:Nat)(vd:Nat->Int)(i:Nat):Int:=if i=N then -1 else vd i
def Tu(N:Nat)(nx:Nat->Nat->Int)(i b:Nat):Nat:=if i=N\/nx i b<0 then N else (nx i b).toNat
def CB(pb N:Nat)(vd:Nat->Int)(nx:Nat->Nat->Int)(bs:List Nat)(i:Nat)(w:World)(H:N<=1000000)(z:FB pb N vd nx bs w)(J:i<=N):
  Cp 60 #[pT pb,I6 i] w λe w'=>e=.returned (I6 (Dr N vd i))/\w'=w:=by
 let⟨j,vc,c0,g⟩:=z.v;by_cases h:i=N
 .have f:((i:Int)==(N:Int))=true:=by simp[h]
  have a:Hid (Dr N vd i=-1):=by show _=_;simp[Dr,h]
  go_enter func60,ntmps60;go_wp2;go_ret;exact⟨Y2 a.o.symm,rfl⟩
 have f:((i:Int)==(N:Int))=false:=Qp
 have d:(i:Int)<N:=Qo
 let⟨b,o,e,c⟩:=g i Qo;subst e;have a:Hid (Dr N vd i=vd i):=by show _=_;simp[Dr,h]
 go_enter func60,ntmps60;go_wp2;go_ret;exact⟨Y2 a.o.symm,rfl⟩
def Nk(pb N:Nat)(vd:Nat->Int)(nx:Nat->Nat->Int)(bs:List Nat)(i b:Nat)(w:World)(J:N<=1000000)(z:FB pb N vd nx bs w)(Y:i<=N)(H:b<256):
  Cp 30 #[pT pb,I6 i,I6 b] w λe w'=>e=.returned (I6 (Tu N nx i b))/\w'=w:=by
 let⟨r,vc,c0,_⟩:=z.v;let⟨o,nc,c1,k⟩:=z.n;have f:(b:Int)<256:=Qo
 by_cases h:i=N
 .have j:((i:Int)==(N:Int))=true:=by simp[h]
  have a:Hid ((Tu N nx i b:Int)=N):=by show _=_;simp[Tu,h]
  go_enter func30,ntmps30;go_wp2;go_ret;exact⟨Y2 a.o.symm,rfl⟩
 have j:((i:Int)==(N:Int))=false:=Qp
 have g:(i:Int)<N:=Qo
 let⟨nb,l,ra,p,e,c,il⟩:=k i Qo;subst e;let⟨rb,q,e,m⟩:=il b H;subst e;by_cases d:nx i b<0
 .have a:Hid ((Tu N nx i b:Int)=N):=by show _=_;simp[Tu,d]
  go_enter func30,ntmps30;go_wp2;go_ret;exact⟨Y2 a.o.symm,rfl⟩
 have a:Hid ((Tu N nx i b:Int)=nx i b):=by show _=_;simp only[Tu,h,d,or_self,eU];omega
 go_enter func30,ntmps30;go_wp2;go_ret;exact⟨Y2 a.o.symm,rfl⟩
def TB(ta:Option Addr)(N:Nat)(t:Nat->Nat->Bool)(w:World):Prop:=∀i,i<=N->∃tb off ra rc,ta=some ⟨tb,off,none⟩/\w.cell? ⟨tb,off+i,none⟩=some (.slice ra (N+1) rc)/\BR ra (t i) (N+1) w
def Vu(N:Nat)(nx:Nat->Nat->Int)(bs:List Nat)(t:Nat->Nat->Bool)(i j m:Nat):Bool:=(bs.take m).any λb=>t (Tu N nx i b) (Tu N nx j b)
def Gn{bs:List Nat}{t:Nat->N_}(h:bs[m]?=some b):Vu N nx bs t i j (m+1)=(Vu N nx bs t i j m || t (Tu N nx i b) (Tu N nx j b)):=by
 unfold Vu;rw[fW,h];simp
def NN(h:i<N->nx i b<N)(z:i<=N):Tu N nx i b<=N:=by
 unfold Tu;split
 .omega
 have:=h Qo;omega
def Ek(pb N:Nat)(vd:Nat->Int)(nx:Nat->Nat->Int)(bs:List Nat)(ta:Option Addr)(tc:Nat)(t:Nat->N_)(i j:Nat)(w:World)(hN:N<=1000000)(hP:FB pb N vd nx bs w)(hT:TB ta N t w)(hi:i<=N)(hj:j<=N)(aa:∀(k b:Nat),bs[k]?=some b->b<256)(hl:bs.length<=256)(Z:∀i b,i<N->b<256->nx i b<N):
  Cp 61 #[pT pb,.slice ta (N+1) tc,I6 i,I6 j] w λe w'=>e=.returned (.bool (Vu N nx bs t i j bs.length))/\w'=w:=by
 have l:Hid (∀(i b:Nat),i<=N->b<256->Cp 30 #[pT pb,I6 i,I6 b] w λe w'=>e=.returned (I6 (Tu N nx i b))/\w'=w):=λi b h1 h2=>Nk pb N vd nx bs i b w hN hP h1 h2
 let⟨ba,O,c2,E⟩:=hP.b;let⟨m,A⟩:=nam bs.length;rw[<-A]at c2 hl ⊢;have L:(m:Int)<=256:=Qo
 have F:Hid (∀(k b:Nat),bs[k]?=some b->∃g o,ba=some (a_ g o)/\w.cell? (a_ g (o+k))=some (I6 b)):=λk b y=>by
  have h1:=(Zi.1 y).1;let⟨g,o,e,c⟩:=E k h1;refine⟨g,o,e,?_⟩;simp only[Zf,y,fX]at c;exact c
 have H:=hyd A;have G:=hyd hT;clear hP E A hT;go_enter func61,ntmps61;go_wp2
 go_loop [9] (λx=>∃k:Nat,k<=m/\x=I6 k/\Hid (Vu N nx bs t i j k=false)) (λx=>m-(intOf x).toNat)
 .exact⟨0,Qo,rfl,by show _=_;simp[Vu]⟩
 obtain⟨k,y,rfl,n⟩:=hrel;by_cases K:k<m
 .have D:(k:Int)<m:=Qo
  obtain⟨b,r⟩:∃b,bs[k]?=some b:=⟨bs[k]'(by have:=H.o;omega),Zd _⟩;have d:=aa k b r;let⟨g,o,e,cb⟩:=F.o k b r;subst e;have x1:=l.o i b hi d;have x2:=l.o j b hj d;let⟨X,p⟩:=nam (Tu N nx i b);let⟨Y,q⟩:=nam (Tu N nx j b);have v:X<=N:=by rw[p];exact NN (λh=>Z i b h d) hi
  have I:Y<=N:=by rw[q];exact NN (λh=>Z j b h d) hj
  have HS:Hid (Vu N nx bs t i j (k+1)=t X Y):=by show _=_;rw[Gn r,n.o,p,q];simp
  rw[<-p]at x1;rw[<-q]at x2;have s:=hyd x1;have u:=hyd x2;let⟨tb,to,ra,Q,e,P,B⟩:=G.o X v;subst e;let⟨rb,R,e,C⟩:=B Y Qo;subst e;have a:Hid (Vu N nx bs t i j (k+1)=true->Vu N nx bs t i j m=true):=λh=>by
   unfold Vu at h ⊢;rw[fY]at h ⊢;let⟨x,M,h⟩:=h;refine⟨x,?_,h⟩;exact fZ (i:=k+1) (by rw[List.take_take,Nat.min_eq_left Qo];exact M)
  clear x1 x2 p q B r;go_wp2_with fail;apply s.o.mono;rintro en w' ⟨rfl,rfl⟩;go_wp2_with fail;apply u.o.mono;rintro en w' ⟨rfl,rfl⟩;cases hxy:t X Y
  .rw[hxy]at C;have f:Hid (Vu N nx bs t i j (k+1)=false):=by show _=_;rw[HS.o,hxy]
   clear n a HS;go_wp2
   go_round
   .exact⟨k+1,Qo,Qg,f⟩
   simp[intOf];omega
  rw[hxy]at C;have f:=hyd (a.o (by rw[HS.o,hxy]));clear n a HS;go_wp2;go_ret;exact⟨YM f.o.symm,rfl⟩
 have J:¬(k:Int)<m:=Qo
 have z:k=m:=Qo
 subst z;go_wp2;go_ret;exact⟨YM n.o.symm,rfl⟩
structure Qc (base tb N:Nat) (rk:Nat->Nat) (t:Nat->Nat->Bool) (m:Nat) (w:World):Prop where
 c:∀i,i<m->w.cell? ⟨tb,i,none⟩=some (.slice (some ⟨rk i,0,none⟩) (N+1) (N+1))
 z:∀i,m<=i->i<N+1->w.cell? ⟨tb,i,none⟩=some (.slice none 0 0)
 f:∀i,i<N+1->w.frozen? ⟨tb,i,none⟩=false
 r:∀i,i<m->TC (rk i) (bl (t i) (N+1)) w
 inj:∀i j,i<m->j<m->rk i=rk j->i=j
 ne:∀i,i<m->rk i≠tb/\base<=rk i
def Qc.tb{tb:Nat}{t:Nat->N_}(h:Qc base tb N rk t (N+1) w):TB (some (a_ tb 0)) N t w:=λi b=>by
 refine⟨tb,0,_,_,rfl,by rw[Zn];exact h.c i Qo,λj a=>⟨rk i,0,rfl,?_⟩⟩;rw[Zn];exact(h.r i Qo j _ (YO _ a)).1
variable {tb:Nat}
def Qc.keep{t:Nat->N_}(h:Qc base tb N rk t m w)(h0:w'.heap[tb]?=w.heap[tb]?)(H:∀i,i<m->w'.heap[rk i]?=w.heap[rk i]?):Qc base tb N rk t m w':=
 ⟨λi b=>by rw[eZ (w:=w) (a:=(a_ tb i)) h0];exact h.c i b,
  λi h1 h2=>by rw[eZ (w:=w) (a:=(a_ tb i)) h0];exact h.z i h1 h2,
  λi b=>by rw[fd (w:=w) (a:=(a_ tb i)) h0];exact h.f i b,
  λi b=>(h.r i b).block (H i b),h.inj,h.ne⟩
def Qc.congr{t t':Nat->N_}(h:Qc base tb N rk t m w)(e:∀i j,i<m->j<N+1->t i j=t' i j):Qc base tb N rk t' m w:=
 ⟨h.c,h.z,h.f,λi a=>by rw[<-YW (f:=t i) (λj b=>e i j a b)];exact h.r i a,h.inj,h.ne⟩
def y9(t:Nat->Nat->Bool)(i j:Nat)(x:Bool)(a b:Nat):Bool:=if a=i/\b=j then x else t a b
def Qc.set{t:Nat->N_}(h:Qc base tb N rk t m w){i j:Nat}(H:i<m)(J:j<N+1)(x:Bool):Qc base tb N rk (y9 t i j x) m (w.setCell (a_ (rk i) j) (.bool x)):=by
 have d:∀k,k≠rk i->(w.setCell (a_ (rk i) j) (.bool x)).heap[k]?=w.heap[k]?:=λk l=>Zq w (a_ (rk i) j) _ k (λe=>l e)
 have h0:=d tb (λe=>(h.ne i H).1 e.symm);refine⟨λa ha=>?_,λa h1 h2=>?_,λa ha=>?_,λa ha=>?_,h.inj,h.ne⟩
 .rw[eZ (w:=w) (a:=(a_ tb a)) h0];exact h.c a ha
 .rw[eZ (w:=w) (a:=(a_ tb a)) h0];exact h.z a h1 h2
 .rw[fd (w:=w) (a:=(a_ tb a)) h0];exact h.f a ha
 by_cases e:a=i
 .subst e;have:=(h.r a ha).set j (by rw[Y9];exact J) (.bool x);rw[Vm]at this;rw[YW (g:=λb=>if b=j then x else t a b) (λb d=>?_)]
  .exact this
  simp[y9]
 rw[YW (g:=t a) (λb d=>by simp[y9,e])];exact(h.r a ha).block (d _ (λe'=>e (h.inj a i ha H e')))
def Qc.blk{t:Nat->N_}(h:Qc base tb N rk t m w):∀i,i<m->rk i<w.heap.size:=λi a=>Ze w _ ((h.r i a) 0 _ (YO _ Qo)).1
def Qc.row{t:Nat->N_}(h:Qc base tb N rk t m w)(Y:m<N+1)(Z:tb<w.heap.size)(J:base<=w.heap.size)(H:TypeId):
  Qc base tb N (λa=>if a=m then w.heap.size else rk a) (λa b=>if a=m then false else t a b) (m+1) ((w.alloc (.cells (bl (λ_=>false) (N+1)).toArray H)).setCell (a_ tb m) (.slice (some (a_ w.heap.size 0)) (N+1) (N+1))):=by
 let⟨W,n⟩:=nam (w.alloc (.cells (bl (λ_=>false) (N+1)).toArray H));have B:Bl w W:=by rw[n];exact box_bel _ _
 have T:TC w.heap.size (bl (λ_=>false) (N+1)) W:=by rw[n];exact TC.boxed w _ _
 have h1:=h.keep (B.block tb Z) (λi q=>B.block (rk i) (h.blk i q));have g:w.heap.size≠tb:=Qo
 rw[<-n];have j:∀k,k≠tb->(W.setCell (a_ tb m) (.slice (some (a_ w.heap.size 0)) (N+1) (N+1))).heap[k]?=W.heap[k]?:=λk j=>Zq W (a_ tb m) _ k (λe=>j e)
 have o:=h1.z m (Zg _) Y;have d:∀a,a≠m->(W.setCell (a_ tb m) (.slice (some (a_ w.heap.size 0)) (N+1) (N+1))).cell? (a_ tb a)=W.cell? (a_ tb a):=λa ha=>fB _ (a_ tb m) (a_ tb a) _ (λe=>ha (by cases e;rfl))
 refine⟨λa ha=>?_,λa h2 h3=>?_,λa ha=>?_,λa ha=>?_,λa b ha p e=>?_,λa ha=>?_⟩
 .by_cases e:a=m
  .subst e;simp only[dB];exact fy _ _ _ o
  simp only[e,eU];rw[d a e];exact h1.c a Qo
 .rw[d a Qo];exact h1.z a Qo h3
 .rw[fw];exact h1.f a ha
 .by_cases e:a=m
  .subst e;simp only[dB];exact T.block (j _ g)
  simp only[e,eU];exact(h1.r a Qo).block (j _ (h1.ne a Qo).1)
 .by_cases l:a=m
  .by_cases e2:b=m
   .omega
   simp only[l,e2,dB,eU]at e;have:=h.blk b Qo;omega
  by_cases e2:b=m
  .simp only[l,e2,dB,eU]at e;have:=h.blk a Qo;omega
  simp only[l,e2,eU]at e;exact h.inj a b Qo Qo e
 by_cases e:a=m
 .simp only[e,dB];exact⟨g,J⟩
 simp only[e,eU];exact h.ne a Qo
end
section
open Go.RowKit
variable {a:Act}{ops:Array Oper}{tmps:Array Value}{s:ByteArray}{Q:Exit->Act->World->Prop}{fn:Func}{r x0 x1 x2 x3:Int}{bs ck ck' df nt nt':List Int}{rest:List Oper}{cs:List Value}{B b base cap cb g g1 g2 i j k m n rb:Nat}{f:Nat->Int}{o:Oper}{ad:Option Addr}{v v0 v1 v2 v3 v4 v5 v6 vb vb' vc vc' vd vn vn':Value}{W W' W1 w w' w2 w3 w5:World}
def QP(hgd:o.guard=none)(s x:Operand)(t e:TypeId)
  (ho:o.op=.call { callee:=.builtin .append,args:=#[s,x],argTypes:=#[t,t] }) (i:TypeInfo) (z:Value) (bytes:Nat)
  (ht:prog.underlying t=some (.slice e)) (hi:prog.info? e=some i) (hz:i.zero=some z) (hsize:i.size=1) (hby:i.bytes=bytes) (hzs:z.cells.size=1) (hbyt:bytes<=8) (base:Nat)
  (v:Value) (cs:List Value) (hs:a.eval s=v) (hG:YI base v cs w)
  (B m:Nat) (news:List Value) (hx:a.eval x=.slice (some ⟨B,0,none⟩) m m) (hl:news.length=m) (hnews:∀j u,news[j]?=some u->w.cell? ⟨B,j,none⟩=some u) (h1c:∀u∈news,u.oneCell'=true)
  (hb:cs.length+m<=100000000) (hbase:base<=w.heap.size) (hm:0<m)
  (h:∀g cap w',YI base (.slice (some ⟨g,0,none⟩) (cs.length+m) cap) (cs++news) w'->w.grownBy w' v.ownBlock->(v.ownBlock=some g\/w.heap.size<=g)->wpList prog ops Q rest (a.put o.dst (.slice (some ⟨g,0,none⟩) (cs.length+m) cap)) w'):wpList prog ops Q (o::rest) a w:=by
 have p:(cs.length+m)*bytes<=140737488355328:=by
  have:(cs.length+m)*bytes<=100000000*8:=dP hb hbyt;omega
 have A:∀j u,news[j]?=some u->w.cell? ((⟨B,0,none⟩:Addr).add j)=some u:=λj u d=>by rw[fe,Zn];exact hnews j u d
 have r:∀v' w' (row:Option Nat),w'.ownsRow w.heap.size e 1 v' (cs.length+m) (cs++news)->w.grownBy w' none->∃g cap,v'=.slice (some ⟨g,0,none⟩) (cs.length+m) cap/\w.heap.size<=g/\YI base (.slice (some ⟨g,0,none⟩) (cs.length+m) cap) (cs++news) w'/\w.grownBy w' row:=by
  intro v' w' row f c;have C:=(YI.ofOwns f).mono hbase;rcases f.2 with ⟨_,h0⟩|⟨g,cap,M,rfl,D,_⟩
  .omega
  exact⟨g,cap,rfl,D,C,⟨c.os,c.tape,c.output,c.size,λk P _=>c.block k P Qs⟩⟩
 rcases hG with ⟨rfl,rfl⟩|⟨g,cap,rfl,h1,h2,h3,K,n⟩
 .refine wpList_append_grows w hgd s x t ho e i z 1 bytes ht hi hz hsize hby hzs Qo none 0 0 [] hs (λ_=>⟨rfl,rfl⟩) rfl (λb hb=>by cases hb) ⟨B,0,none⟩ m m news hx Qo A h1c Qo (by unfold maxLen;simp at hb;omega) (by simpa using p) ?_;intro v' w' f c;obtain⟨g,cap,rfl,H,I,J⟩:=r v' w' (Value.ownBlock (.slice none 0 0)) (by simpa using f) c;exact h g cap w' I J (Or.inr H)
 refine wpList_append_arg w hgd s x t ho e i z 1 bytes ht hi hz hsize hby hzs Qo g 0 cs.length cap cs hs Qo (λj u d=>by rw[Zn];exact K j u d) ⟨B,0,none⟩ m m news hx Qo A h1c (λL j E=>?_) (by unfold maxLen;omega) p (λL=>?_) (λL v' w' f c=>?_)
 .rw[Zn,ff];exact n _ Qo
 .rw[Zn,ff];refine h g cap _ (Or.inr ⟨g,cap,by rw[Zl,hl],h1,by rw[VE];exact h2,by rw[Zl];omega,λj u d=>?_,λj E=>?_⟩) (Y8 g news _ w) (Or.inl rfl)
  .by_cases y:j<cs.length
   .rw[Zv y]at d;rw[fh g news cs.length w ⟨g,j,none⟩ (λ_ _=>Or.inl y)];exact K j u d
   rw[ZG Qo]at d;obtain⟨F,G⟩:=Zi.1 d;have:=fj g news cs.length w (λq R=>(n _ Qo).1) (j-cs.length) F;rw[show cs.length+(j-cs.length)=j by omega]at this;rw[this,G]
  rw[fp];refine⟨?_,(n j E).2⟩;by_cases O:cs.length<=j/\j<cs.length+news.length
  .have:=fj g news cs.length w (λq R=>(n _ Qo).1) (j-cs.length) Qo;rw[show cs.length+(j-cs.length)=j by omega]at this;rw[this];rfl
  rw[fh g news cs.length w ⟨g,j,none⟩ (λ_ _=>by simp only;omega)];exact(n j E).1
 obtain⟨N,l,rfl,H,I,J⟩:=r v' w' (Value.ownBlock (.slice (some ⟨g,0,none⟩) cs.length cap)) f c;exact h N l w' I J (Or.inr H)
structure Qa (b:Nat) (s:ByteArray) (i:Nat) (x0 x1 x2 x3:Int) (v0 v1 v2 v3 v4 v5 v6:Value) (w:World):Prop where
 h0:w.cell? ⟨b,0,none⟩=some (.int .i64 x0)
 h1:w.cell? ⟨b,1,none⟩=some (.int .i64 x1)
 h2:w.cell? ⟨b,2,none⟩=some (.int .i64 x2)
 h3:w.cell? ⟨b,3,none⟩=some (.int .i64 x3)
 z:w.there (b+1) 0 7
 r:OI (b+1+1) s i w
 t0:w.cell? ⟨b+1+1+1,0,none⟩=some v0
 t1:w.cell? ⟨b+1+1+1,1,none⟩=some v1
 t2:w.cell? ⟨b+1+1+1,2,none⟩=some v2
 t3:w.cell? ⟨b+1+1+1,3,none⟩=some v3
 t4:w.cell? ⟨b+1+1+1,4,none⟩=some v4
 t5:w.cell? ⟨b+1+1+1,5,none⟩=some v5
 t6:w.cell? ⟨b+1+1+1,6,none⟩=some v6
 f0:w.frozen? ⟨b+1+1+1,0,none⟩=false
 f1:w.frozen? ⟨b+1+1+1,1,none⟩=false
 f2:w.frozen? ⟨b+1+1+1,2,none⟩=false
 f3:w.frozen? ⟨b+1+1+1,3,none⟩=false
 f4:w.frozen? ⟨b+1+1+1,4,none⟩=false
 f5:w.frozen? ⟨b+1+1+1,5,none⟩=false
 f6:w.frozen? ⟨b+1+1+1,6,none⟩=false
def Qa.take(h:Qa b s i x0 x1 x2 x3 v0 v1 v2 v3 v4 v5 v6 w)(J:OI (b+1+1) s j w')(H:∀k,k<w.heap.size->k≠b+1+1->k<=b+1+1+1->w'.heap[k]?=w.heap[k]?):Qa b s j x0 x1 x2 x3 v0 v1 v2 v3 v4 v5 v6 w':=by
 have d:b+1+1+1<w.heap.size:=Ze w _ h.t0;have e2:∀k,w'.cell? (a_ (b+1+1+1) k)=w.cell? (a_ (b+1+1+1) k):=λk=>eZ (w:=w) (a:=(a_ (b+1+1+1) k)) (H (b+1+1+1) d Qo Qo)
 have c:∀k,w'.frozen? (a_ (b+1+1+1) k)=w.frozen? (a_ (b+1+1+1) k):=λk=>fd (w:=w) (a:=(a_ (b+1+1+1) k)) (H (b+1+1+1) d Qo Qo)
 have e0:∀k,w'.cell? (a_ b k)=w.cell? (a_ b k):=λk=>eZ (w:=w) (a:=(a_ b k)) (H b Qo Qo Qo)
 have f:∀k,w'.cell? (a_ (b+1) k)=w.cell? (a_ (b+1) k):=λk=>eZ (w:=w) (a:=(a_ (b+1) k)) (H (b+1) Qo Qo Qo)
 have e:∀k,w'.frozen? (a_ (b+1) k)=w.frozen? (a_ (b+1) k):=λk=>fd (w:=w) (a:=(a_ (b+1) k)) (H (b+1) Qo Qo Qo)
 exact⟨by rw[e0];exact h.h0,by rw[e0];exact h.h1,by rw[e0];exact h.h2,by rw[e0];exact h.h3,λj g=>by rw[f,e];exact h.z j g,J,
  by rw[e2];exact h.t0,by rw[e2];exact h.t1,by rw[e2];exact h.t2,by rw[e2];exact h.t3,by rw[e2];exact h.t4,by rw[e2];exact h.t5,by rw[e2];exact h.t6,by rw[c];exact h.f0,by rw[c];exact h.f1,by rw[c];exact h.f2,by rw[c];exact h.f3,by rw[c];exact h.f4,by rw[c];exact h.f5,by rw[c];exact h.f6⟩
def Qa.set0(h:Qa b s i x0 x1 x2 x3 v0 v1 v2 v3 v4 v5 v6 w)(u:Value):Qa b s i x0 x1 x2 x3 u v1 v2 v3 v4 v5 v6 (w.setCell ⟨b+1+1+1,0,none⟩ u):=by
 obtain⟨h0,h1,h2,h3,z,⟨n,o,p⟩,t0,q,r,t,v,x,y,d,e,f,g,k,l,m⟩:=h;refine⟨?_,?_,?_,?_,λj c=>?_,⟨?_,?_,?_⟩,?_,?_,?_,?_,?_,?_,?_,?_,?_,?_,?_,?_,?_,?_⟩
 case refine_5=>rw[fB _ _ _ _ (by intro a;cases a),fw];exact z j c
 all_goals go_simp
def Qa.set1(h:Qa b s i x0 x1 x2 x3 v0 v1 v2 v3 v4 v5 v6 w)(u:Value):Qa b s i x0 x1 x2 x3 v0 u v2 v3 v4 v5 v6 (w.setCell ⟨b+1+1+1,1,none⟩ u):=by
 obtain⟨h0,h1,h2,h3,z,⟨n,o,p⟩,t0,q,r,t,v,x,y,d,e,f,g,k,l,m⟩:=h;refine⟨?_,?_,?_,?_,λj c=>?_,⟨?_,?_,?_⟩,?_,?_,?_,?_,?_,?_,?_,?_,?_,?_,?_,?_,?_,?_⟩
 case refine_5=>rw[fB _ _ _ _ (by intro a;cases a),fw];exact z j c
 all_goals go_simp
def Qa.set2(h:Qa b s i x0 x1 x2 x3 v0 v1 v2 v3 v4 v5 v6 w)(u:Value):Qa b s i x0 x1 x2 x3 v0 v1 u v3 v4 v5 v6 (w.setCell ⟨b+1+1+1,2,none⟩ u):=by
 obtain⟨h0,h1,h2,h3,z,⟨n,o,p⟩,t0,q,r,t,v,x,y,d,e,f,g,k,l,m⟩:=h;refine⟨?_,?_,?_,?_,λj c=>?_,⟨?_,?_,?_⟩,?_,?_,?_,?_,?_,?_,?_,?_,?_,?_,?_,?_,?_,?_⟩
 case refine_5=>rw[fB _ _ _ _ (by intro a;cases a),fw];exact z j c
 all_goals go_simp
def Qa.set3(h:Qa b s i x0 x1 x2 x3 v0 v1 v2 v3 v4 v5 v6 w)(u:Value):Qa b s i x0 x1 x2 x3 v0 v1 v2 u v4 v5 v6 (w.setCell ⟨b+1+1+1,3,none⟩ u):=by
 obtain⟨h0,h1,h2,h3,z,⟨n,o,p⟩,t0,q,r,t,v,x,y,d,e,f,g,k,l,m⟩:=h;refine⟨?_,?_,?_,?_,λj c=>?_,⟨?_,?_,?_⟩,?_,?_,?_,?_,?_,?_,?_,?_,?_,?_,?_,?_,?_,?_⟩
 case refine_5=>rw[fB _ _ _ _ (by intro a;cases a),fw];exact z j c
 all_goals go_simp
def Qa.set4(h:Qa b s i x0 x1 x2 x3 v0 v1 v2 v3 v4 v5 v6 w)(u:Value):Qa b s i x0 x1 x2 x3 v0 v1 v2 v3 u v5 v6 (w.setCell (a_ (b+1+1+1) 4) u):=by
 let⟨h0,h1,h2,h3,z,⟨n,o,p⟩,t0,q,r,t,v,x,y,d,e,f,g,k,l,m⟩:=h;refine⟨?_,?_,?_,?_,λj c=>?_,⟨?_,?_,?_⟩,?_,?_,?_,?_,?_,?_,?_,?_,?_,?_,?_,?_,?_,?_⟩
 case refine_5=>rw[fB _ _ _ _ (by intro a;cases a),fw];exact z j c
 all_goals go_simp
def Qa.set5(h:Qa b s i x0 x1 x2 x3 v0 v1 v2 v3 v4 v5 v6 w)(u:Value):Qa b s i x0 x1 x2 x3 v0 v1 v2 v3 v4 u v6 (w.setCell (a_ (b+1+1+1) 5) u):=by
 let⟨h0,h1,h2,h3,z,⟨n,o,p⟩,t0,q,r,t,v,x,y,d,e,f,g,k,l,m⟩:=h;refine⟨?_,?_,?_,?_,λj c=>?_,⟨?_,?_,?_⟩,?_,?_,?_,?_,?_,?_,?_,?_,?_,?_,?_,?_,?_,?_⟩
 case refine_5=>rw[fB _ _ _ _ (by intro a;cases a),fw];exact z j c
 all_goals go_simp
def Qa.set6(h:Qa b s i x0 x1 x2 x3 v0 v1 v2 v3 v4 v5 v6 w)(u:Value):Qa b s i x0 x1 x2 x3 v0 v1 v2 v3 v4 v5 u (w.setCell (a_ (b+1+1+1) 6) u):=by
 let⟨h0,h1,h2,h3,z,⟨n,o,p⟩,t0,q,r,t,v,x,y,d,e,f,g,k,l,m⟩:=h;refine⟨?_,?_,?_,?_,λj c=>?_,⟨?_,?_,?_⟩,?_,?_,?_,?_,?_,?_,?_,?_,?_,?_,?_,?_,?_,?_⟩
 case refine_5=>rw[fB _ _ _ _ (by intro a;cases a),fw];exact z j c
 all_goals go_simp
def Fm(s:ByteArray)(st ce wd:Nat):Tb where
 rules:=X9 s 4 1
 cl:=lst s 10 1 0
 ncl:=256
 lb:=lst s 266 1 1
 nlb:=st
 bs:=lst s (266+st) wd 0
 nbs:=st
 df:=lst s (266+st+st*wd) 1 1
 ndf:=st
 ck:=λk=>X9 s (266+st+st*wd+st+2*k) 1-1
 nck:=ce
 nx:=λk=>X9 s (266+st+st*wd+st+2*k+1) 1-1
 nnx:=ce
def yw(s:ByteArray)(st ce wd:Nat)(w:World)(e:Ending)(w':World):Prop:=
 ∃A:QZ,e=.returned (.agg (A.cells (Fm s st ce wd)))/\(∀w'',w'.heap.size<=w''.heap.size->(∀q,w.heap.size<=q->q<w'.heap.size->w''.heap[q]?=w'.heap[q]?)->Tz (Fm s st ce wd) A w'')/\Below w.heap.size w w'
def YI.keep(h:YI base v cs w)(hs:w.heap.size<=w'.heap.size)(z:∀k,base<=k->k<w.heap.size->w'.heap[k]?=w.heap[k]?):YI base v cs w':=
 h.block hs (λk a b=>z k (h.ge k b) a)
def YI.lt(h:YI base v cs w):∀k,v.ownBlock=some k->k<w.heap.size:=by
 intro k a;rcases h with ⟨rfl,_⟩|⟨g,cap,rfl,_,b,_⟩
 .cases a
 cases a;exact b
def YI.ilOf(h:YI base (.slice ad m cap) (RM f n) w):IL ad f n w:=by
 let⟨_,_,e,h⟩:=h.il;cases e;exact h
variable {row:Option Nat}
def Px{o:Obj}(z:(w2.alloc o).grownBy w3 row):∀q,q<w2.heap.size->row≠some q->w3.heap[q]?=w2.heap[q]?:=λq b a=>
 (z.block q Qp (λe=>a e.symm)).trans (Below.heap_alloc w2 o q b)
def Qa.keep(h:Qa b s i x0 x1 x2 x3 v0 v1 v2 v3 v4 v5 v6 w)(z:∀k,k<=b+1+1+1->w'.heap[k]?=w.heap[k]?):Qa b s i x0 x1 x2 x3 v0 v1 v2 v3 v4 v5 v6 w':=
 h.take (h.r.block (z _ Qo)) (λk _ _ a=>z k a)
def Hw{b N0 g cap:Nat}{w w2 w3 W4:World}{o:Obj}{aC J:Option Addr}{nC Z cC Y q:Nat}{u:Value}{LC LN H:List Value}
  (hk:b+1+1+1<N0) (hz:N0<=w2.heap.size) (hC:YI N0 (.slice aC nC cC) LC w2) (hN:YI N0 (.slice J Z Y) LN w2)
  (z:∀x y,(Value.slice aC nC cC).ownBlock=some x->(Value.slice J Z Y).ownBlock=some y->x≠y)
  (hB:Below b w w2) (hK:∀q,b+1+1+1<q->q<N0->w2.heap[q]?=W4.heap[q]?)
  (aa:YI N0 u H w3) (hu:u=sL g H.length cap)
  (hg:(w2.alloc o).grownBy w3 (Value.slice aC nC cC).ownBlock) (ab:(Value.slice aC nC cC).ownBlock=some g\/(w2.alloc o).heap.size<=g):
  YI N0 u H (w3.setCell (a_ (b+1+1+1) q) u)/\YI N0 (.slice J Z Y) LN (w3.setCell (a_ (b+1+1+1) q) u) /\
  (∀x y,u.ownBlock=some x->(Value.slice J Z Y).ownBlock=some y->x≠y)/\Below b w (w3.setCell (a_ (b+1+1+1) q) u) /\
  (∀p,b+1+1+1<p->p<N0->(w3.setCell (a_ (b+1+1+1) q) u).heap[p]?=W4.heap[p]?)/\N0<=(w3.setCell (a_ (b+1+1+1) q) u).heap.size:=by
 have f:=Px hg;have n:w2.heap.size+1<=w3.heap.size:=by have:=hg.size;simpa using this
 have m:(w3.setCell (a_ (b+1+1+1) q) u).heap.size=w3.heap.size:=by simp[World.setCell]
 have c:∀p,p≠b+1+1+1->(w3.setCell (a_ (b+1+1+1) q) u).heap[p]?=w3.heap[p]?:=λp a=>Zq w3 (a_ (b+1+1+1) q) u p (λe=>a e)
 have d:=hC.ge;have l:=hB.size;refine⟨aa.keep Qo (λp a _=>c p Qo),?_,?_,?_,?_,Qo⟩
 .have h3:YI N0 (.slice J Z Y) LN w3:=hN.block Qo (λp a r=>f p a (λe=>z p p e r rfl));exact h3.keep Qo (λp a _=>c p Qo)
 .intro x y j k;rw[hu]at j;have i:g=x:=Zh j;subst i;rcases ab with h|h
  .exact z _ _ h k
  have:=hN.lt y k;simp at h;omega
 .have h3:Below b w w3:=(hB.alloc Qo o).grown hg Qp (λp a=>by have:=d p a;omega);exact h3.setCell (p:=(a_ (b+1+1+1) q)) Qp _
 intro p h1 h2;rw[c p Qo,f p Qo (λe=>by have:=d p e;omega)];exact hK p h1 h2
def Nm(s:ByteArray)(st ce wd:Nat)(w:World)(hs:s.size<=1000000)(a3:st<=96)(a2:ce<=24576)(a4:wd=1\/wd=2)(a1:s.size=266+st*(wd+2)+ce*2+4):
  Calls prog 89 #[.string s,.agg #[I6 (X9 s 4 1),I6 st,I6 ce,I6 wd]] w (yw s st ce wd w):=by
 have hz:=Vy;let⟨W,hW⟩:=nam ((((w.alloc (.cells #[I6 (X9 s 4 1),I6 st,I6 ce,I6 wd] 171)).alloc (.cells #[I6 0,sN,sN,sN,sN,sN,sN] 83)).alloc (.cells #[.string s,I6 10] 220)).alloc (.cells #[I6 (X9 s 4 1),sN,sN,sN,sN,sN,sN] 83));have T:Qa w.heap.size s 10 (X9 s 4 1) st ce wd (I6 (X9 s 4 1)) (sN) (sN) (sN) (sN) (sN) (sN) W:=by
  rw[hW];refine⟨?_,?_,?_,?_,λj hj=>?_,⟨?_,?_,?_⟩,?_,?_,?_,?_,?_,?_,?_,?_,?_,?_,?_,?_,?_,?_⟩
  case refine_5=>rcases j with _|_|_|_|_|_|_|j<;>first|(refine⟨?_,?_⟩<;>go_simp)|omega
  all_goals go_simp
 have ae:Below w.heap.size w W:=by
  rw[hW];exact((((Zk _ _).alloc (Zg _) _).alloc Qs _).alloc Qp _).alloc Qp _
 have bw:1<=wd/\wd<=2:=Qo
 have ay:s.size=266+st+st*wd+st+ce*2+4:=by rw[a1,Nat.mul_add];omega
 have E:=hyd ay;clear a1;have aZ:w.heap.size+1+1+1<W.heap.size:=Ze W _ T.t0;go_enter func89,ntmps89;go_wp2_with fail;rw[<-hW];clear hW hz;generalize hb:w.heap.size=b at *;clear ay;refine ft (U9 (b+1+1) s 10 256 1 0 W hs Qo Qo (by have:=E.o;omega) Qo T.r) ?_;rintro e w1 ⟨v1,rfl,g1,r1,Y⟩;obtain⟨f,c1,rfl,_⟩:=g1.il;have R1:=T.take (j:=266) (by have:=r1;simpa using this) (λq a I _=>Y.block q a Qp);have B1:Below b w w1:=ae.grown Y (by have:=ae.size;omega) (λq a=>by cases a;omega);have S1:=R1.set1 (.slice f 256 c1);have C1:Below b w (w1.setCell (a_ (b+1+1+1) 1) (.slice f 256 c1)):=B1.setCell (p:=(a_ (b+1+1+1) 1)) Qp _;have K1:b+1+1+1<(w1.setCell (a_ (b+1+1+1) 1) (.slice f 256 c1)).heap.size:=by have:=Y.size;simp only[World.setCell,Array.size_modify];omega
 have D:YI W.heap.size (.slice f 256 c1) (RM (lst s 10 1 0) 256) (w1.setCell (a_ (b+1+1+1) 1) (.slice f 256 c1)):=g1.keep (by simp[World.setCell]) (λq a _=>Zq w1 (a_ (b+1+1+1) 1) _ q (λe=>by have e':q=b+1+1+1:=e;omega));have aj:=D.mono (base':=b+1+1+1+1) Qo;clear D g1;have D:=aj;clear aj;have q1:=R1.t1;have p1:=R1.f1;have bb:=S1.h1;have bc:=S1.h2;have bd:=S1.h3;clear r1 Y;go_wp2_with fail
 (try clear q1);(try clear p1);(try clear bb);(try clear bc);(try clear bd);(try clear R1);(try clear B1);(try clear T);(try clear ae);(try clear aZ)
 generalize w1.setCell (a_ (b+1+1+1) 1) (.slice f 256 c1)=W1 at *;refine ft (U9 (b+1+1) s 266 st 1 1 W1 hs Qo Qo (by have:=E.o;omega) Qo S1.r) ?_;rintro e w2 ⟨v2,rfl,g2,r2,O⟩;obtain⟨l,c2,rfl,_⟩:=g2.il;have R2:=S1.take (j:=(266+st)) (by have:=r2;simpa using this) (λq a I _=>O.block q a Qp);have B2:Below b w w2:=C1.grown O (by have:=C1.size;omega) (λq a=>by cases a;omega);have S2:=R2.set2 (.slice l st c2);have C2:Below b w (w2.setCell (a_ (b+1+1+1) 2) (.slice l st c2)):=B2.setCell (p:=(a_ (b+1+1+1) 2)) Qp _;have K2:b+1+1+1<(w2.setCell (a_ (b+1+1+1) 2) (.slice l st c2)).heap.size:=by have:=O.size;simp only[World.setCell,Array.size_modify];omega
 have J:YI W1.heap.size (.slice l st c2) (RM (lst s 266 1 1) st) (w2.setCell (a_ (b+1+1+1) 2) (.slice l st c2)):=g2.keep (by simp[World.setCell]) (λq a _=>Zq w2 (a_ (b+1+1+1) 2) _ q (λe=>by have e':q=b+1+1+1:=e;omega));have t:YI (b+1+1+1+1) (.slice f 256 c1) (RM (lst s 10 1 0) 256) (w2.setCell (a_ (b+1+1+1) 2) (.slice l st c2)):=(D.keep O.size (λq a c=>O.block q c Qp)).keep (by simp[World.setCell]) (λq a _=>Zq w2 (a_ (b+1+1+1) 2) _ q (λe=>by have e':q=b+1+1+1:=e;omega));clear D;have D:=t;clear t;have ak:=J.mono (base':=b+1+1+1+1) Qo;clear J g2;have J:=ak;clear ak;have q2:=R2.t2;have p2:=R2.f2;have be:=S2.h1;have bf:=S2.h2;have bi:=S2.h3;clear r2 O;go_wp2_with fail
 (try clear q2);(try clear p2);(try clear be);(try clear bf);(try clear bi);(try clear R2);(try clear B2);(try clear S1);(try clear C1);(try clear K1)
 generalize w2.setCell (a_ (b+1+1+1) 2) (.slice l st c2)=W2 at *;refine ft (U9 (b+1+1) s (266+st) st wd 0 W2 hs Qo Qo (by have:=E.o;omega) Qo S2.r) ?_;rintro e w3 ⟨v3,rfl,g3,r3,Z⟩;obtain⟨m,c3,rfl,_⟩:=g3.il;have R3:=S2.take (j:=(266+st+st*wd)) (by have:=r3;simpa using this) (λq a I _=>Z.block q a Qp);have B3:Below b w w3:=C2.grown Z (by have:=C2.size;omega) (λq a=>by cases a;omega);have R:=R3.set3 (.slice m st c3);have C3:Below b w (w3.setCell (a_ (b+1+1+1) 3) (.slice m st c3)):=B3.setCell (p:=(a_ (b+1+1+1) 3)) Qp _;have K3:b+1+1+1<(w3.setCell (a_ (b+1+1+1) 3) (.slice m st c3)).heap.size:=by have:=Z.size;simp only[World.setCell,Array.size_modify];omega
 have G3:YI W2.heap.size (.slice m st c3) (RM (lst s (266+st) wd 0) st) (w3.setCell (a_ (b+1+1+1) 3) (.slice m st c3)):=g3.keep (by simp[World.setCell]) (λq a _=>Zq w3 (a_ (b+1+1+1) 3) _ q (λe=>by have e':q=b+1+1+1:=e;omega));have t:YI (b+1+1+1+1) (.slice f 256 c1) (RM (lst s 10 1 0) 256) (w3.setCell (a_ (b+1+1+1) 3) (.slice m st c3)):=(D.keep Z.size (λq a c=>Z.block q c Qp)).keep (by simp[World.setCell]) (λq a _=>Zq w3 (a_ (b+1+1+1) 3) _ q (λe=>by have e':q=b+1+1+1:=e;omega));clear D;have D:=t;clear t;have G:YI (b+1+1+1+1) (.slice l st c2) (RM (lst s 266 1 1) st) (w3.setCell (a_ (b+1+1+1) 3) (.slice m st c3)):=(J.keep Z.size (λq a c=>Z.block q c Qp)).keep (by simp[World.setCell]) (λq a _=>Zq w3 (a_ (b+1+1+1) 3) _ q (λe=>by have e':q=b+1+1+1:=e;omega));clear J;have J:=G;clear G;have am:=G3.mono (base':=b+1+1+1+1) Qo;clear G3 g3;have G3:=am;clear am;have q3:=R3.t3;have p3:=R3.f3;have bj:=R.h1;have bm:=R.h2;have bn:=R.h3;clear r3 Z;go_wp2_with fail
 (try clear q3);(try clear p3);(try clear bj);(try clear bm);(try clear bn);(try clear R3);(try clear B3);(try clear S2);(try clear C2);(try clear K2)
 generalize w3.setCell (a_ (b+1+1+1) 3) (.slice m st c3)=K at *;refine ft (U9 (b+1+1) s (266+st+st*wd) st 1 1 K hs Qo Qo (by have:=E.o;omega) Qo R.r) ?_;rintro e F ⟨v4,rfl,g4,r4,Q⟩;obtain⟨o,c4,rfl,_⟩:=g4.il;have R4:=R.take (j:=(266+st+st*wd+st)) (by have:=r4;simpa using this) (λq a I _=>Q.block q a Qp);have B4:Below b w F:=C3.grown Q (by have:=C3.size;omega) (λq a=>by cases a;omega);have S4:=R4.set4 (.slice o st c4);have C4:Below b w (F.setCell (a_ (b+1+1+1) 4) (.slice o st c4)):=B4.setCell (p:=(a_ (b+1+1+1) 4)) Qp _;have K4:b+1+1+1<(F.setCell (a_ (b+1+1+1) 4) (.slice o st c4)).heap.size:=by have:=Q.size;simp only[World.setCell,Array.size_modify];omega
 have G4:YI K.heap.size (.slice o st c4) (RM (lst s (266+st+st*wd) 1 1) st) (F.setCell (a_ (b+1+1+1) 4) (.slice o st c4)):=g4.keep (by simp[World.setCell]) (λq a _=>Zq F (a_ (b+1+1+1) 4) _ q (λe=>by have e':q=b+1+1+1:=e;omega));have t:YI (b+1+1+1+1) (.slice f 256 c1) (RM (lst s 10 1 0) 256) (F.setCell (a_ (b+1+1+1) 4) (.slice o st c4)):=(D.keep Q.size (λq a c=>Q.block q c Qp)).keep (by simp[World.setCell]) (λq a _=>Zq F (a_ (b+1+1+1) 4) _ q (λe=>by have e':q=b+1+1+1:=e;omega));clear D;have D:=t;clear t;have G:YI (b+1+1+1+1) (.slice l st c2) (RM (lst s 266 1 1) st) (F.setCell (a_ (b+1+1+1) 4) (.slice o st c4)):=(J.keep Q.size (λq a c=>Q.block q c Qp)).keep (by simp[World.setCell]) (λq a _=>Zq F (a_ (b+1+1+1) 4) _ q (λe=>by have e':q=b+1+1+1:=e;omega));clear J;have J:=G;clear G;have al:YI (b+1+1+1+1) (.slice m st c3) (RM (lst s (266+st) wd 0) st) (F.setCell (a_ (b+1+1+1) 4) (.slice o st c4)):=(G3.keep Q.size (λq a c=>Q.block q c Qp)).keep (by simp[World.setCell]) (λq a _=>Zq F (a_ (b+1+1+1) 4) _ q (λe=>by have e':q=b+1+1+1:=e;omega));clear G3;have G3:=al;clear al;have an:=G4.mono (base':=b+1+1+1+1) Qo;clear G4 g4;have G4:=an;clear an;have q4:=R4.t4;have p4:=R4.f4;have bo:=S4.h1;have bp:=S4.h2;have bq:=S4.h3;clear r4 Q;go_wp2_with fail
 (try clear q4);(try clear p4);(try clear bo);(try clear bp);(try clear bq);(try clear R4);(try clear B4);(try clear R);(try clear C3);(try clear K3)
 generalize F.setCell (a_ (b+1+1+1) 4) (.slice o st c4)=W4 at *;let⟨ti,aA,aB,aD,aE⟩:=WP;let⟨N0,ag⟩:=nam W4.heap.size;let⟨d,S⟩:=nam (266+st+st*wd+st);have ao:Hid (s.size=d+ce*2+4):=by show _=_;rw[E.o,S]
 rw[<-S]at S4;rw[<-ag]at K4;have aI:=hyd S;have ab:=hyd ag;clear S ag E
 go_loopw [32] (λi w'=>∃(k:Nat) (vC vN:Value),k<=ce/\i=I6 k/\Qa b s (d+2*k) (X9 s 4 1) st ce wd (I6 (X9 s 4 1)) (.slice f 256 c1) (.slice l st c2) (.slice m st c3) (.slice o st c4) vC vN w'/\YI N0 vC (RM (λk=>X9 s (d+2*k) 1-1) k) w'/\YI N0 vN (RM (λk=>X9 s (d+2*k+1) 1-1) k) w'/\(∀x y,vC.ownBlock=some x->vN.ownBlock=some y->x≠y)/\Below b w w'/\(∀q,b+1+1+1<q->q<N0->w'.heap[q]?=W4.heap[q]?)/\N0<=w'.heap.size) (λi _=>ce-(intOf i).toNat)
 .exact⟨0,sN,sN,Qo,rfl,S4,YI.nil _ _,YI.nil _ _,λx y h=>(by cases h),C4,λ_ _ _=>rfl,by rw[ab.o];exact Zg _⟩
 obtain⟨k,vC,vN,hk,rfl,H,hC,hN,V,hB,ar,aX⟩:=hrel;have aa:=hyd ar;have ap:=hyd V;clear ar V;by_cases c:k<ce
 .have br:(k:Int)<ce:=Qo
  have hx:=Uh s (d+2*k) 1 Qo;have hy:=Uh s (d+2*k+1) 1 Qo;have T1:=hyd (Vx (b+1+1) s (d+2*k) 1 wr Qo Qo (by have:=ao.o;omega) H.r);have T2:Hid (∀w',OI (b+1+1) s (d+2*k+1) w'->Calls prog 142 #[.pointer (some (a_ (b+1+1) 0)),I6 1] w' λe w''=>e=.returned (I6 (X9 s (d+2*k+1) 1))/\OI (b+1+1) s (d+2*k+1+1) w''/\w'.grownBy w'' (some (b+1+1))/\w''.heap.size=w'.heap.size):=λw' h'=>Vx (b+1+1) s (d+2*k+1) 1 w' Qo Qo (by have:=ao.o;omega) h'
  have aF:Hid (RM (λk=>X9 s (d+2*k) 1-1) (k+1)=RM (λk=>X9 s (d+2*k) 1-1) k++[I6 (X9 s (d+2*k) 1-1)]):=M8 _ _;have aG:Hid (RM (λk=>X9 s (d+2*k+1) 1-1) (k+1)=RM (λk=>X9 s (d+2*k+1) 1-1) k++[I6 (X9 s (d+2*k+1) 1-1)]):=M8 _ _;have lC:(RM (λk=>X9 s (d+2*k) 1-1) k).length=k:=Qw _ _;have lN:(RM (λk=>X9 s (d+2*k+1) 1-1) k).length=k:=Qw _ _;generalize RM (λk=>X9 s (d+2*k) 1-1) k=LC at *;generalize RM (λk=>X9 s (d+2*k+1) 1-1) k=LN at *;generalize X9 s (d+2*k) 1=x at *;generalize X9 s (d+2*k+1) 1=y at *;have aL:Hid (LC.length=k):=lC;have aM:Hid (LN.length=k):=lN;clear lC lN;obtain⟨aC,cC,rfl⟩:∃aC cC,vC=.slice aC LC.length cC:=by
   rcases hC with ⟨rfl,h⟩|⟨g,cap,rfl,_⟩
   .exact⟨none,0,by rw[h];rfl⟩
   exact⟨_,_,rfl⟩
  obtain⟨aN,cN,rfl⟩:∃aN cN,vN=.slice aN LN.length cN:=by
   rcases hN with ⟨rfl,h⟩|⟨g,cap,rfl,_⟩
   .exact⟨none,0,by rw[h];rfl⟩
   exact⟨_,_,rfl⟩
  go_wp2_with fail;apply T1.o.mono;rintro e w1 ⟨rfl,r1,Y,z1⟩;have Q1:=H.take r1 (λq a I _=>Y.block q a Qp);go_wp2_with fail;apply(T2.o w1 r1).mono;rintro e w2 ⟨rfl,r2,O,z2⟩;have Q2:=Q1.take r2 (λq a I _=>O.block q a Qp);have B:=Ut Y O;have af:=hC.keep B.size (λq a hl=>B.block q hl Qp);have aT:=hN.keep B.size (λq a hl=>B.block q hl Qp);have aO:Below b w w2:=hB.grown B (by have:=hB.size;omega) (λq a=>by cases a;omega);have aS:Hid (∀q,b+1+1+1<q->q<N0->w2.heap[q]?=W4.heap[q]?):=λq h1 h2=>(B.block q Qo Qp).trans (aa.o q h1 h2)
  have a9:N0<=w2.heap.size:=Qo
  have bu:b+1+1+1<w2.heap.size:=Qo
  clear H hC hN hB aa Q1 r1 Y O z1 z2 T1 T2 B aX r2;have ax:∀q u,[Value.int .i64 (x-1)][q]?=some u->(w2.alloc (.cells #[I6 (x-1)] 3)).cell? (a_ w2.heap.size q)=some u:=λq u hu=>by
   rw[Zm];simpa using hu
  have aP:=af.alloc (.cells #[I6 (x-1)] 3);have aw:LC.length+1<=100000000:=by have:=aL.o;omega
  have ah:LN.length+1<=100000000:=by have:=aM.o;omega
  have bv:=Q2.t5;have aH:Hid (∀(K:World) (n:Nat),K.heap.size=n->∀q u,[Value.int .i64 (y-1)][q]?=some u->(K.alloc (.cells #[I6 (y-1)] 3)).cell? (a_ n q)=some u):=λK n hn q u hu=>by
   subst hn;rw[Zm];simpa using hu
  have ac:Hid (∀(g cap:Nat),(∀x y,(sL g (LC.length+1) cap).ownBlock=some x->(Value.slice aN LN.length cN).ownBlock=some y->x≠y)->Hid (∀x y,(Value.slice aN LN.length cN).ownBlock=some x->(sL g (LC.length+1) cap).ownBlock=some y->x≠y)):=λg cap h x y hx hy e=>h y x hy hx e.symm
  have aK:Hid (∀(K:World),(∀p,b+1+1+1<p->p<N0->K.heap[p]?=W4.heap[p]?)->Hid (∀p,b+1+1+1<p->p<N0->K.heap[p]?=W4.heap[p]?)):=λK h=>h
  go_wp2_with (first|(at_builtin;apply QP Qr _ _ 23 3 Qr ti (I6 0) 8 u_e aA aB aD aE rfl Qo N0 (.slice aC LC.length cC) LC Qr aP w2.heap.size 1 [I6 (x-1)] Qr rfl ax (by simp[Value.oneCell']) aw Qp Qo;intro g cap w3 aQ A aY;have Q3:=Q2.keep (λq a=>Px A q Qo (λe=>by have:=af.ge q e;omega));have R:=Q3.set5 (sL g (LC.length+1) cap);let⟨e1,e2,e3,e4,e5,e6⟩:=Hw (q:=5) (cap:=cap) K4 a9 af aT ap.o aO aS.o aQ Qs A aY;have s5:=Q3.t5;have p5:=Q3.f5;have s6:=R.t6;have aU:=e2.alloc (.cells #[I6 (y-1)] 3);have ai:=aH.o (w3.setCell (a_ (b+1+1+1) 5) (sL g (LC.length+1) cap)) w3.heap.size (by simp[World.setCell]);have aJ:=ac.o g cap e3;have H5:=aK.o (w3.setCell (a_ (b+1+1+1) 5) (sL g (LC.length+1) cap)) e5;clear e3 e5;have z3:N0<=w3.heap.size:=(by have:=A.size;simp at this;omega))|(at_builtin;apply QP Qr _ _ 23 3 Qr ti (I6 0) 8 u_e aA aB aD aE rfl Qo N0 (.slice aN LN.length cN) LN Qr aU w3.heap.size 1 [I6 (y-1)] Qr rfl ai (by simp[Value.oneCell']) ah (ZJ e6 Qs) Qo;intro g2 U w5 aV C av;have Q5:=R.keep (λq a=>Px C q Qo (λe=>by have:=e2.ge q e;omega));have s7:=Q5.t6;have p7:=Q5.f6));let⟨d1,d2,d3,d4,d5,d6⟩:=Hw (q:=6) (cap:=U) K4 e6 e2 e1 aJ.o e4 H5.o aV Qs C av;have S5:=Q5.set6 (sL g2 (LN.length+1) U);rw[<-aF.o]at d2;rw[<-aG.o]at d1;go_roundw
  .exact⟨k+1,_,_,Qo,Qg,by rw[show d+2*(k+1)=d+2*k+1+1 by omega];exact S5,d2,d1,λx y hx hy h=>d3 y x hy hx h.symm,d4,d5,d6⟩
  simp[intOf];omega
 have bt:¬(k:Int)<ce:=Qo
 have a0:ce=k:=Qo
 subst a0;obtain rfl:=aI.o;obtain⟨L,c5,rfl,_⟩:=hC.il;obtain⟨M,N,rfl,_⟩:=hN.il;have a8:wr.rangeAt (b+1+1+1) 0 [I6 (X9 s 4 1),.slice f 256 c1,.slice l st c2,.slice m st c3,.slice o st c4,.slice L ce c5,.slice M ce N]:=λj v X=>by
  rw[Zn];rcases j with _|_|_|_|_|_|_|j
  .cases X;exact H.t0
  .cases X;exact H.t1
  .cases X;exact H.t2
  .cases X;exact H.t3
  .cases X;exact H.t4
  .cases X;exact H.t5
  .cases X;exact H.t6
  cases X
 have az:=H.z;go_wp2_with (first|(refine Zb rfl 83 _ rfl _ _ rfl [I6 (X9 s 4 1),.slice f 256 c1,.slice l st c2,.slice m st c3,.slice o st c4,.slice L ce c5,.slice M ce N] _ a8 u_f rfl YG ?_)|(refine Za rfl 83 _ _ rfl (b+1) 0 #[I6 (X9 s 4 1),.slice f 256 c1,.slice l st c2,.slice m st c3,.slice o st c4,.slice L ce c5,.slice M ce N] rfl rfl az YG (by simp[Value.oneCell']) ?_));have hG:=Y8 (b+1) [I6 (X9 s 4 1),.slice f 256 c1,.slice l st c2,.slice m st c3,.slice o st c4,.slice L ce c5,.slice M ce N] 0 wr;have a7:=Zo wr (b+1) 0 [I6 (X9 s 4 1),.slice f 256 c1,.slice l st c2,.slice m st c3,.slice o st c4,.slice L ce c5,.slice M ce N] az;have au:=ZF (P:=prog) (wr.setCells (b+1) 0 [I6 (X9 s 4 1),.slice f 256 c1,.slice l st c2,.slice m st c3,.slice o st c4,.slice L ce c5,.slice M ce N]) (b+1) 0 83 [I6 (X9 s 4 1),.slice f 256 c1,.slice l st c2,.slice m st c3,.slice o st c4,.slice L ce c5,.slice M ce N] _ a7 u_f rfl YG;apply Zr (v:=.agg #[I6 (X9 s 4 1),.slice f 256 c1,.slice l st c2,.slice m st c3,.slice o st c4,.slice L ce c5,.slice M ce N]) (V0 results89 rfl au) rfl;generalize wr.setCells (b+1) 0 [I6 (X9 s 4 1),.slice f 256 c1,.slice l st c2,.slice m st c3,.slice o st c4,.slice L ce c5,.slice M ce N]=W9 at *;have kp:∀q,b+1+1+1+1<=q->q<W4.heap.size->W9.heap[q]?=W4.heap[q]?:=λq h1 h2=>by
  have:=ab.o;rw[hG.block q Qo Qp];exact aa.o q Qo Qo
 have sz:W4.heap.size<=W9.heap.size:=by have:=ab.o;have:=hG.size;omega
 have aR:=hC.keep hG.size (λq a c=>hG.block q c Qp);have aW:=hN.keep hG.size (λq a c=>hG.block q c Qp);refine⟨⟨f,c1,l,c2,m,c3,o,c4,L,c5,M,N⟩,rfl,λaq zz kk=>?_,?_⟩
 .have k1:∀q,b+1+1+1+1<=q->q<W9.heap.size->aq.heap[q]?=W9.heap[q]?:=λq a hl=>kk q Qo hl
  have k2:∀q,N0<=q->q<W9.heap.size->aq.heap[q]?=W9.heap[q]?:=λq a hl=>kk q Qo hl
  exact⟨((D.keep sz kp).keep zz k1).ilOf,((J.keep sz kp).keep zz k1).ilOf,((G3.keep sz kp).keep zz k1).ilOf,((G4.keep sz kp).keep zz k1).ilOf,(aR.keep zz k2).ilOf,(aW.keep zz k2).ilOf⟩
 rw[hb];exact hB.grown hG (by have:=hB.size;omega) (λq a=>by cases a;omega)
variable {u:Tmp}
def MG{p:Tmp}{z:TypeId}(h:fn.results=#[.cell p z,.tmp u])(tmps:Array Value)(P:Program)(w:World):
  (results fn tmps).run P w=((asAddr (tmps.getD p undef)).run P w).andThen λa w₁=>((loadVar z a).run P w₁).andThen λv w₂=>.ok (.tuple #[v,tmps.getD u undef]) w₂:=by
 simp only[results,h];simp[fE,Result.andThen]
def Yd{p:Tmp}{z:TypeId}{P:Program}{ad:Addr}{b:Value}(h:fn.results=#[.cell p z,.tmp u])(Y:tmps.getD p undef=.pointer (some ad))(J:(loadVar z ad).run P w=.ok v w)(H:tmps.getD u undef=b):
  (results fn tmps).run P w=.ok (.tuple #[v,b]) w:=by
 rw[MG h,Y];subst H;simp[asAddr,J]
def Fw(s:ByteArray):Prop:=10<=s.size/\Vh (X9 s 4 1) (X9 s 6 1) (X9 s 7 2) (X9 s 9 1)/\s.size=266+(X9 s 6 1).toNat*((X9 s 9 1).toNat+2)+(X9 s 7 2).toNat*2+4
def XM(s:ByteArray):Tb:=Fm s (X9 s 6 1).toNat (X9 s 7 2).toNat (X9 s 9 1).toNat
def ys(s:ByteArray):Prop:=PX (XM s)/\(⟨(XR (XM s)).toArray⟩:ByteArray)=s
def Tx(s:ByteArray)(c:Int):Prop:=
 (V7 s=false/\c=12)\/(V7 s=true/\¬Fw s/\c=13)\/(V7 s=true/\Fw s/\L1 s=false/\c=14)\/(V7 s=true/\Fw s/\L1 s=true/\¬ys s/\c=11)
def zg(B:Nat)(T:Tb)(A:QZ)(w:World):Prop:=∀w'',w.heap.size<=w''.heap.size->(∀q,B<=q->q<w.heap.size->w''.heap[q]?=w.heap[q]?)->Tz T A w''
def zg.in_{T:Tb}{A:QZ}(h:zg B T A w):Tz T A w:=h w (Zg _) (λ_ _ _=>rfl)
def zg.below{T:Tb}{A:QZ}(h:zg B T A w)(z:Bl w w'):zg B T A w':=λw'' hz a=>
 h w'' (ZJ z.size hz) (λq h1 h2=>by rw[a q h1 (ZH h2 z.size),z.block q h2])
def ES(s:ByteArray)(w:World)(e:Ending)(w':World):Prop:=
 Below w.heap.size w w'/\((∃c,Tx s c/\e=.returned (.tuple #[.agg Yk,.int .i64 c])) \/
  ((V7 s=true/\Fw s/\L1 s=true/\ys s)/\∃A:QZ,e=.returned (.tuple #[.agg (A.cells (XM s)),.int .i64 0])/\zg w.heap.size (XM s) A w'))
def Pi(w:World)(t:TypeId):(w.alloc (.cells Yk t)).there w.heap.size 0 7:=λj a=>by
 unfold Yk;rcases j with _|_|_|_|_|_|_|j<;>first|(refine⟨?_,?_⟩<;>go_simp)|omega
def Yi{o:Nat}(h:W.there b o n)(H:0<n)(z:Bl W W'):W'.there b o n:=λj e=>by
 have d:b<W.heap.size:=by
  have h0:=(h 0 H).1;let⟨v,f⟩:=Zx.1 h0;exact Ze W _ f
 have c:=z.block b d;rw[eZ (w:=W) (w':=W') (a:=(a_ b (o+j))) c,fd (w:=W) (w':=W') (a:=(a_ b (o+j))) c];exact h j e
def SZ{c:Int}(z:W.there w.heap.size 0 7)(H:Bl w W)(J:Tx s c):
  ∃W',W'=W.setCells w.heap.size 0 Yk.toList/\(loadVar 83 (a_ w.heap.size 0)).run prog W'=.ok (.agg Yk) W'/\ES s w (.returned (.tuple #[.agg Yk,I6 c])) W':=by
 refine⟨_,rfl,?_,?_,Or.inl ⟨c,J,rfl⟩⟩
 .exact ZF (P:=prog) _ w.heap.size 0 83 Yk.toList _ (Zo W w.heap.size 0 Yk.toList z) u_f rfl YG
 exact H.grown (Y8 w.heap.size Yk.toList 0 W) H.size (λq a=>by cases a;exact Zg _)
def DG{a b:ByteArray}(h:a.toList=b.toList):a=b:=by
 have h2:a.data.toList=b.data.toList:=by rw[fS,fS]at h;exact h
 apply ByteArray.ext;exact Array.ext' h2
structure Fy (b:Nat) (r st ce wd:Int) (w:World):Prop where
 c0:w.cell? ⟨b,0,none⟩=some (.int .i64 r)
 c1:w.cell? ⟨b,1,none⟩=some (.int .i64 st)
 c2:w.cell? ⟨b,2,none⟩=some (.int .i64 ce)
 c3:w.cell? ⟨b,3,none⟩=some (.int .i64 wd)
def Fy.below{st z H:Int}(h:Fy b r st z H w)(J:Bl w w'):Fy b r st z H w':=by
 have a:=Ze w _ h.c0;have e:∀k,w'.cell? (a_ b k)=w.cell? (a_ b k):=λk=>J.cell (p:=(a_ b k)) a
 exact⟨by rw[e];exact h.c0,by rw[e];exact h.c1,by rw[e];exact h.c2,by rw[e];exact h.c3⟩
def Fy.boxed(r st z H:Int)(w:World)(t:TypeId):Fy w.heap.size r st z H (w.alloc (.cells #[I6 r,I6 st,I6 z,I6 H] t)):=by
 refine⟨?_,?_,?_,?_⟩<;>go_simp
def FO(s:ByteArray)(w:World)(hs:s.size<=281474976710656):Cp 37 #[.string s] w (ES s w):=by
 have hz:=Vy;let⟨W0,g⟩:=nam (w.alloc (.cells #[I6 0,sN,sN,sN,sN,sN,sN] 83));have u:W0.there w.heap.size 0 7:=by rw[g];exact Pi w _
 have O:Bl w W0:=by rw[g];exact X5 _ _
 have aG:w.heap.size<W0.heap.size:=by rw[g];simp
 have HM:=IC s W0 (by unfold maxLen;omega);by_cases hm:V7 s=true
 case neg=>
  have aM:V7 s=false:=by simpa using hm
  rw[aM]at HM;let⟨W1,i,H,I⟩:=SZ u O (Or.inl ⟨aM,rfl⟩:Tx s 12);have b:=hyd I;have B:Hid (Cp 84 #[.string s] W0 λe w'=>e=.returned (.bool false)/\w'=W0):=HM;have c:=hyd i;have a:=hyd H;clear HM I hm i H;go_enter func37,ntmps37;go_wp2_with fail;rw[<-g];clear g;apply B.o.mono;rintro e W0 ⟨rfl,rfl⟩;go_wp2_with (first|(apply Za rfl 83 _ _ rfl w.heap.size 0 Yk rfl rfl u YG (by simp[Yk,Value.oneCell']);rw[<-c.o]));refine Zr (v:=.tuple #[.agg Yk,I6 12]) (Yd results37 rfl a.o rfl) rfl b.o
 have B:Hid (Cp 84 #[.string s] W0 λe w'=>e=.returned (.bool true)/\w'=W0):=by rw[hm]at HM;exact HM
 clear HM;by_cases aO:s.size<10
 .have aA:(s.size:Int)<10:=Qo
  let⟨W1,i,H,I⟩:=SZ u O (Or.inr (Or.inl ⟨hm,λh=>by have:=h.1;omega,rfl⟩):Tx s 13);have b:=hyd I;have c:=hyd i;have a:=hyd H;clear I hm i H;go_enter func37,ntmps37;go_wp2_with fail;rw[<-g];clear g;apply B.o.mono;rintro e W0 ⟨rfl,rfl⟩;go_wp2_with (first|(apply Za rfl 83 _ _ rfl w.heap.size 0 Yk rfl rfl u YG (by simp[Yk,Value.oneCell']);rw[<-c.o]));refine Zr (v:=.tuple #[.agg Yk,I6 13]) (Yd results37 rfl a.o rfl) rfl b.o
 have aA:¬(s.size:Int)<10:=Qo
 have HH:=hyd (Kn s W0 hs Qo);have Hm:=hyd hm;have b6:=Uh s 6 1 Qo;have b7:=Uh s 7 2 Qo;have b9:=Uh s 9 1 Qo;have HF:Hid (∀st f d:Nat,X9 s 6 1=st->X9 s 7 2=f->X9 s 9 1=d->(Fw s<->Vh (X9 s 4 1) st f d/\s.size=266+st*(d+2)+f*2+4)):=λst f d e1 e2 e3=>by
  unfold Fw;rw[e1,e2,e3];simp only[ZE];exact⟨λh=>h.2,λh=>⟨Qo,h⟩⟩
 have HT:Hid (∀st f d:Nat,X9 s 6 1=st->X9 s 7 2=f->X9 s 9 1=d->XM s=Fm s st f d):=λst f d e1 e2 e3=>by
  unfold XM;rw[e1,e2,e3];simp only[ZE]
 obtain⟨st,e6⟩:∃st:Nat,X9 s 6 1=st:=⟨(X9 s 6 1).toNat,Qo⟩;obtain⟨f,e7⟩:∃f:Nat,X9 s 7 2=f:=⟨(X9 s 7 2).toNat,Qo⟩;obtain⟨d,e9⟩:∃d:Nat,X9 s 9 1=d:=⟨(X9 s 9 1).toNat,Qo⟩;have L:=hyd (HF st f d e6 e7 e9);have r:=hyd (HT st f d e6 e7 e9);have ax:Hid (Cp 85 #[.string s] W0 λe w'=>e=.returned (.agg #[I6 (X9 s 4 1),I6 st,I6 f,I6 d])/\Bl W0 w'):=by
  have h:=HH.o;unfold BK at h;rw[e6,e7,e9]at h;exact h
 clear HH HF HT e6 e7 e9 b6 b7 b9 hm aO;go_enter func37,ntmps37;go_wp2_with fail;rw[<-g];clear g;apply B.o.mono;rintro e W0 ⟨rfl,rfl⟩;go_wp2_with fail;apply ax.o.mono;rintro e w1 ⟨rfl,i⟩;have aH:=Yi u Qo i;have ai:=O.trans (i.mono (ZM aG));clear ax B u O i;go_wp2_with fail;let⟨W2,Y⟩:=nam (w1.alloc (.cells #[I6 (X9 s 4 1),I6 st,I6 f,I6 d] 171));have aw:Bl w1 W2:=by rw[Y];exact X5 _ _
 have aI:=Yi aH Qo aw;have aj:=ai.trans (aw.mono ai.size);have aB:Fy w1.heap.size (X9 s 4 1) st f d W2:=by rw[Y];exact Fy.boxed _ _ _ _ _ _
 rw[<-Y];clear aw aH ai Y;clear aG;generalize w1.heap.size=hd at *;apply ft (DH (X9 s 4 1) st f d W2);rintro e w3 ⟨bb,rfl,ao,Z⟩;have W:=Yi aI Qo Z;have Q:=aj.trans (Z.mono aj.size);have t:=aB.below Z;clear aI aj aB Z;rcases bb with _|_
 .have aQ:¬Vh (X9 s 4 1) st f d:=λh=>by simpa using ao.2 h
  let⟨V,l,m,o⟩:=SZ W Q (Or.inr (Or.inl ⟨Hm.o,λh=>aQ (L.o.1 h).1,rfl⟩):Tx s 13);have b:=hyd o;have c:=hyd l;have a:=hyd m;clear o l m;go_wp2_with (first|(apply Za rfl 83 _ _ rfl w.heap.size 0 Yk rfl rfl W YG (by simp[Yk,Value.oneCell']);rw[<-c.o]));refine Zr (v:=.tuple #[.agg Yk,I6 13]) (Yd results37 rfl a.o rfl) rfl b.o
 have N:=hyd (ao.1 rfl);have af:st<=96:=by have:=N.o.2.1;omega
 have aq:f<=24576:=by have:=N.o.2.2.1;omega
 have av:d=1\/d=2:=by have:=N.o.2.2.2;omega
 clear ao;have k0:=t.c0;have k1:=t.c1;have k2:=t.c2;have k3:=t.c3;go_wp2_with fail;clear k0 k1 k2 k3;apply ft (CX (X9 s 4 1) st f d w3 af aq av);rintro e w4 ⟨rfl,aa⟩;have X:=Yi W Qo aa;have R:=Q.trans (aa.mono Q.size);have aC:=t.below aa;clear W Q t aa;let⟨n,hn⟩:=nam (266+st*(d+2)+f*2+4);rw[<-hn];rw[<-hn]at L;have Hn:=hyd hn;clear hn;by_cases au:s.size=n
 case neg=>
  have ae:((s.size:Int)==(n:Int))=false:=Qp
  have ar:((s.size:Int) != (n:Int))=true:=Qp
  let⟨V,l,m,o⟩:=SZ X R (Or.inr (Or.inl ⟨Hm.o,λh=>au (L.o.1 h).2,rfl⟩):Tx s 13);have b:=hyd o;have c:=hyd l;have a:=hyd m;clear o l m;go_wp2_with (first|(apply Za rfl 83 _ _ rfl w.heap.size 0 Yk rfl rfl X YG (by simp[Yk,Value.oneCell']);rw[<-c.o]));refine Zr (v:=.tuple #[.agg Yk,I6 13]) (Yd results37 rfl a.o rfl) rfl b.o
 have ae:((s.size:Int)==(n:Int))=true:=Qp
 have ar:((s.size:Int) != (n:Int))=false:=Qp
 go_wp2_with fail;have ag:Hid (s.size=266+st*(d+2)+f*2+4):=by show _=_;rw[au,Hn.o]
 have M:=hyd (L.o.2 ⟨N.o,au⟩);have h4:4<=s.size:=by rw[ag.o];omega
 have hs2:s.size<=1000000:=by
  rw[ag.o];have:st*(d+2)<=96*4:=dP af Qo;omega
 clear ae ar;apply ft (FU s w4 h4 hs2);rintro e w5 ⟨rfl,ab⟩;have G:=Yi X Qo ab;have S:=R.trans (ab.mono R.size);have D:=aC.below ab;clear X R aC ab;by_cases p:L1 s=true
 case neg=>
  have J:L1 s=false:=by simpa using p
  rw[J];let⟨V,l,m,o⟩:=SZ G S (Or.inr (Or.inr (Or.inl ⟨Hm.o,M.o,J,rfl⟩)):Tx s 14);have b:=hyd o;have c:=hyd l;have a:=hyd m;clear o l m;go_wp2_with (first|(apply Za rfl 83 _ _ rfl w.heap.size 0 Yk rfl rfl G YG (by simp[Yk,Value.oneCell']);rw[<-c.o]));refine Zr (v:=.tuple #[.agg Yk,I6 14]) (Yd results37 rfl a.o rfl) rfl b.o
 rw[p];have C:=hyd p;clear p;have k0:=D.c0;have k1:=D.c1;have k2:=D.c2;have k3:=D.c3;go_wp2_with fail;clear k0 k1 k2 k3;apply ft (Nm s st f d w5 hs2 af aq av ag);rintro e w6 ⟨A,rfl,E,an⟩;have aE:=E w6 (Zg _) (λ_ _ _=>rfl);have aT:w.heap.size<w5.heap.size:=by
  let⟨v,K⟩:=Zx.1 (G 0 Qo).1;exact Ze w5 _ K
 have aJ:=Yi G Qo an;have ak:=S.trans (an.mono S.size);have aP:Dw (Fm s st f d):=by
  refine⟨?_,?_,?_,?_,?_,?_⟩<;>(show _+3<=_;simp only[Fm];omega)
 have HI:=hyd E;clear G S D an af aq av E;generalize Fm s st f d=T at *;unfold QZ.cells;go_wp2_with fail;let⟨W7,ac⟩:=nam (w6.alloc (.cells #[I6 T.rules,.slice A.a1 T.ncl A.c1,.slice A.a2 T.nlb A.c2,.slice A.a3 T.nbs A.c3,.slice A.a4 T.ndf A.c4,.slice A.a5 T.nck A.c5,.slice A.a6 T.nnx A.c6] 83));have z:Bl w6 W7:=by rw[ac];exact X5 _ _
 have aK:=Yi aJ Qo z;have al:=ak.trans (z.mono ak.size);have ah:VY w6.heap.size T A W7:=by rw[ac];exact VY.boxed T A w6 _
 have aF:=aE.below z;have ay:Hid (∀q,q<w6.heap.size->W7.heap[q]?=w6.heap[q]?):=λq hq=>z.block q hq
 have az:=hyd z.size;rw[<-ac];clear z aJ ak ac aE;generalize w6.heap.size=tb at *;apply ft (SS tb T A W7 aP ah aF);rintro e w8 ⟨y,ap⟩;have x:=Yi aK Qo y;have U:=al.trans (y.mono al.size);have k:=ah.below y;have aN:Hid (∀W9,w8.grownBy W9 (some w.heap.size)->zg w.heap.size T A W9):=λW9 hG w'' aU hk=>by
  have z7:=az.o;have z8:=y.size;have z9:=hG.size;refine HI.o w'' Qo (λq h1 h2=>?_);rw[hk q Qo Qo,hG.block q Qo (λe=>by have:=Zh e;omega),y.block q Qo,ay.o q h2]
 clear aK al ah aF y HI ay az;rcases ap with ⟨hS,rfl⟩|⟨hS,rfl⟩
 .have HS:=hyd hS;obtain⟨F,hF⟩:∃F:ByteArray,(⟨(XR T).toArray⟩:ByteArray)=F:=⟨_,rfl⟩;rw[hF];have HF:=hyd hF;clear hS hF;by_cases am:F=s
  case neg=>
   have ae:(F.toList==s.toList)=false:=by
    rw[dU];exact λh=>am (DG h)
   have ar:(F.toList != s.toList)=true:=by simp only[bne,ae];rfl
   let⟨V,l,m,o⟩:=SZ x U (Or.inr (Or.inr (Or.inr ⟨Hm.o,M.o,C.o,λh=>am (by have h1:=h.2;rw[r.o,HF.o]at h1;exact h1),rfl⟩)):Tx s 11);have b:=hyd o;have c:=hyd l;have a:=hyd m;clear o l m;go_wp2_with (first|(apply Za rfl 83 _ _ rfl w.heap.size 0 Yk rfl rfl x YG (by simp[Yk,Value.oneCell']);rw[<-c.o]));refine Zr (v:=.tuple #[.agg Yk,I6 11]) (Yd results37 rfl a.o rfl) rfl b.o
  have aD:=am.symm;subst aD;have aS:w8.rangeAt tb 0 [I6 T.rules,.slice A.a1 T.ncl A.c1,.slice A.a2 T.nlb A.c2,.slice A.a3 T.nbs A.c3,.slice A.a4 T.ndf A.c4,.slice A.a5 T.nck A.c5,.slice A.a6 T.nnx A.c6]:=λj v K=>by
   rw[Zn];rcases j with _|_|_|_|_|_|_|j
   .cases K;exact k.c0
   .cases K;exact k.c1
   .cases K;exact k.c2
   .cases K;exact k.c3
   .cases K;exact k.c4
   .cases K;exact k.c5
   .cases K;exact k.c6
   cases K
  go_wp2_with (first|(refine Zb rfl 83 _ rfl tb 0 rfl [I6 T.rules,.slice A.a1 T.ncl A.c1,.slice A.a2 T.nlb A.c2,.slice A.a3 T.nbs A.c3,.slice A.a4 T.ndf A.c4,.slice A.a5 T.nck A.c5,.slice A.a6 T.nnx A.c6] _ aS u_f rfl YG ?_)|(refine Za rfl 83 _ _ rfl w.heap.size 0 #[I6 T.rules,.slice A.a1 T.ncl A.c1,.slice A.a2 T.nlb A.c2,.slice A.a3 T.nbs A.c3,.slice A.a4 T.ndf A.c4,.slice A.a5 T.nck A.c5,.slice A.a6 T.nnx A.c6] rfl rfl x YG (by simp[Value.oneCell']) ?_));have hG:=Y8 w.heap.size [I6 T.rules,.slice A.a1 T.ncl A.c1,.slice A.a2 T.nlb A.c2,.slice A.a3 T.nbs A.c3,.slice A.a4 T.ndf A.c4,.slice A.a5 T.nck A.c5,.slice A.a6 T.nnx A.c6] 0 w8;have aR:=Zo w8 w.heap.size 0 [I6 T.rules,.slice A.a1 T.ncl A.c1,.slice A.a2 T.nlb A.c2,.slice A.a3 T.nbs A.c3,.slice A.a4 T.ndf A.c4,.slice A.a5 T.nck A.c5,.slice A.a6 T.nnx A.c6] x;have aL:=ZF (P:=prog) (w8.setCells w.heap.size 0 [I6 T.rules,.slice A.a1 T.ncl A.c1,.slice A.a2 T.nlb A.c2,.slice A.a3 T.nbs A.c3,.slice A.a4 T.ndf A.c4,.slice A.a5 T.nck A.c5,.slice A.a6 T.nnx A.c6]) w.heap.size 0 83 [I6 T.rules,.slice A.a1 T.ncl A.c1,.slice A.a2 T.nlb A.c2,.slice A.a3 T.nbs A.c3,.slice A.a4 T.ndf A.c4,.slice A.a5 T.nck A.c5,.slice A.a6 T.nnx A.c6] _ aR u_f rfl YG;apply Zr (v:=.tuple #[.agg #[I6 T.rules,.slice A.a1 T.ncl A.c1,.slice A.a2 T.nlb A.c2,.slice A.a3 T.nbs A.c3,.slice A.a4 T.ndf A.c4,.slice A.a5 T.nck A.c5,.slice A.a6 T.nnx A.c6],I6 0]) (Yd results37 rfl aL rfl) rfl;generalize w8.setCells w.heap.size 0 [I6 T.rules,.slice A.a1 T.ncl A.c1,.slice A.a2 T.nlb A.c2,.slice A.a3 T.nbs A.c3,.slice A.a4 T.ndf A.c4,.slice A.a5 T.nck A.c5,.slice A.a6 T.nnx A.c6]=W9 at *;refine⟨U.grown hG U.size (λq hq=>by cases hq;exact Zg _),Or.inr ⟨⟨Hm,M,C,?_,?_⟩,A,?_,?_⟩⟩
  .rw[r.o];exact HS.o
  .rw[r.o];exact HF.o
  .rw[r.o];rfl
  rw[r.o];exact aN.o W9 hG
 have HS:=hyd hS;clear hS;let⟨V,l,m,o⟩:=SZ x U (Or.inr (Or.inr (Or.inr ⟨Hm.o,M.o,C.o,λh=>HS.o (by have h1:=h.1;rw[r.o]at h1;exact h1),rfl⟩)):Tx s 11);have b:=hyd o;have c:=hyd l;have a:=hyd m;clear o l m;go_wp2_with (first|(apply Za rfl 83 _ _ rfl w.heap.size 0 Yk rfl rfl x YG (by simp[Yk,Value.oneCell']);rw[<-c.o]));refine Zr (v:=.tuple #[.agg Yk,I6 11]) (Yd results37 rfl a.o rfl) rfl b.o
def Mi(s:ByteArray):Prop:=V7 s=true/\Fw s/\L1 s=true/\ys s
def AO(s:ByteArray)(w:World)(e:Ending)(w':World):Prop:=
 Below w.heap.size w w'/\((∃c,Tx s c/\e=.returned (.tuple #[.pointer none,.int .i64 c])) \/
  (Mi s/\∃(b:Nat) (A:QZ),e=.returned (.tuple #[.pointer (some ⟨b,0,none⟩),.int .i64 0])/\w.heap.size<=b/\VY b (XM s) A w'/\zg w.heap.size (XM s) A w'))
def Tx.ne{c:Int}(h:Tx s c):(c==0)=false/\(c != 0)=true:=by
 rcases h with ⟨_,rfl⟩|⟨_,_,rfl⟩|⟨_,_,_,rfl⟩|⟨_,_,_,_,rfl⟩<;>exact⟨rfl,rfl⟩
def Cd(s:ByteArray)(w:World)(hs:s.size<=281474976710656):Cp 14 #[.string s] w (AO s w):=by
 have hz:=Vy;have b:=hyd (FO s w hs);go_enter func14,ntmps14;go_wp2_with fail;refine b.out.mono ?_;rintro e w1 ⟨a,⟨c,d,rfl⟩|⟨i,A,rfl,m⟩⟩
 .have j:=hyd d;obtain⟨n,o⟩:=d.ne;clear d b;unfold Yk;go_wp2_with fail;go_ret2;exact⟨a.trans ((X5 w1 _).mono a.size),Or.inl ⟨c,j,rfl⟩⟩
 generalize h:XM s=T at *;have g:=hyd h;have k:=hyd i;clear h i b;unfold QZ.cells;go_wp2_with fail;go_ret2;have x1:=X5 w1 (.cells #[.int .i64 T.rules,.slice A.a1 T.ncl A.c1,.slice A.a2 T.nlb A.c2,.slice A.a3 T.nbs A.c3,.slice A.a4 T.ndf A.c4,.slice A.a5 T.nck A.c5,.slice A.a6 T.nnx A.c6] 83);have f:=a.trans (x1.mono a.size);have l:=m.below x1;refine⟨f.trans ((X5 _ _).mono f.size),Or.inr ⟨k,w1.heap.size+1,A,rfl,by have:=a.size;omega,?_,?_⟩⟩
 .rw[g.out];have:=VY.boxed T A (w1.alloc (.cells #[.int .i64 T.rules,.slice A.a1 T.ncl A.c1,.slice A.a2 T.nlb A.c2,.slice A.a3 T.nbs A.c3,.slice A.a4 T.ndf A.c4,.slice A.a5 T.nck A.c5,.slice A.a6 T.nnx A.c6] 83)) 91;simpa[QZ.cells]using this
 rw[g.out];exact l.below (X5 _ _)
def DL(ad:Option Addr)(n cap:Nat)(f:Nat->Int)(w w2:World)(hn:n<=17592186044416)
  (hcp:(Builtin.copy_ #[23,23] 3 #[.slice (some ⟨w.heap.size,0,none⟩) n n,.slice ad n cap]).run prog (w.alloc (.cells (UJ n) 3))=.ok (goInt n) w2)
  (hW2:Bl w w2) (hR:Wt w.heap.size f n w2):
  Cp 70 #[.slice ad n cap] w λe w'=>e=.returned (.slice (some ⟨w.heap.size,0,none⟩) n n)/\Wt w.heap.size f n w'/\Bl w w':=by
 have a:=GB w n hn;go_enter func70,ntmps70;go_wp2_with fail;go_ret;exact⟨rfl,hR,hW2⟩
def MB(ad:Option Addr)(n cap:Nat)(f:Nat->Int)(w:World)(hn:n<=17592186044416)(hr:IL ad f n w):
  Cp 70 #[.slice ad n cap] w λe w'=>e=.returned (.slice (some ⟨w.heap.size,0,none⟩) n n)/\Wt w.heap.size f n w'/\Bl w w':=by
 obtain⟨w2,h1,h2,h3⟩:=Ez ad n cap n f w (Zg _) hr;exact DL ad n cap f w w2 hn h1 h2 (h3.congr (λk a=>by simp[a]))
open Bm
def Mc.st(M:Mc):Pk.St:=Pk.run M.nx M.k M.nlb
def Xw(M:Mc):Tb where
 rules:=M.rules
 cl:=M.cl
 ncl:=M.ncl
 lb:=M.lb
 nlb:=M.nlb
 bs:=λi=>M.st.bs.getD i 0
 nbs:=M.st.bs.length
 df:=λi=>M.st.df.getD i 0
 ndf:=M.st.df.length
 ck:=λi=>M.st.ck.getD i 0
 nck:=M.st.ck.length
 nx:=λi=>M.st.nt.getD i 0
 nnx:=M.st.nt.length
def RK(u v:Value):Prop:=∀k,u.ownBlock=some k->v.ownBlock≠some k
def RK.symm{u:Value}(h:RK u v):RK v u:=λk h1 h2=>h k h2 h1
structure P0 (w:World) (M:Mc) (A:NZ) (rb tb g1 g2 ob cb base:Nat) (ck nt bs df:List Int) (vb vd vc vn:Value) (W:World):Prop where
 z:W.there rb 0 7
 t:TC tb [.int .i64 M.rules,.slice (some ⟨g1,0,none⟩) M.ncl M.ncl,.slice (some ⟨g2,0,none⟩) M.nlb M.nlb,vb,vd,.slice none 0 0,.slice none 0 0] W
 k1:Wt g1 M.cl M.ncl W
 k2:Wt g2 M.lb M.nlb W
 r0:TC ob [.int .i64 M.k,.slice A.a3 M.nnx A.c3] W
 c:Cs base cb vc vn ck nt W
 b:OwnL base vb bs W
 d:OwnL base vd df W
 bd:RK vb vd
 bc:RK vb vc
 bn:RK vb vn
 dc:RK vd vc
 dn:RK vd vn
 bel:Below w.heap.size w W
 bw:base<=W.heap.size
 o0:w.heap.size<=rb
 o1:rb<tb
 o2:tb<g1
 o3:g1<g2
 o4:g2<ob
 o5:ob<cb
def Si{o:Nat}(h:W.there b o n)(z:W'.heap[b]?=W.heap[b]?):W'.there b o n:=λj c=>by
 rw[eZ (w:=W) (w':=W') (a:=(a_ b (o+j))) z,fd (w:=W) (w':=W') (a:=(a_ b (o+j))) z];exact h j c
variable {M:Mc}{tb:Nat}
def P0.move{A:NZ}{ob:Nat}{H J:List Int}{vd':Value}(h:P0 w M A rb tb g1 g2 ob cb base ck nt bs df vb vd vc vn W)
  (Y:∀q,q<base->q≠tb->q≠cb->W'.heap[q]?=W.heap[q]?) (hz:W.heap.size<=W'.heap.size)
  (ht:TC tb [I6 M.rules,sL g1 M.ncl M.ncl,sL g2 M.nlb M.nlb,vb',vd',sN,sN] W')
  (hc:Cs base cb vc' vn' ck' nt' W') (hb:OwnL base vb' H W') (hd:OwnL base vd' J W') (bd:RK vb' vd') (Z:RK vb' vc') (bn:RK vb' vn') (dc:RK vd' vc') (dn:RK vd' vn') (hB:Bl w W'):
  P0 w M A rb tb g1 g2 ob cb base ck' nt' H J vb' vd' vc' vn' W':=by
 have h0:=h.o0;have h1:=h.o1;have h2:=h.o2;have h3:=h.o3;have a:=h.o4;have b:=h.o5;have d:=h.c.lt;exact⟨Si h.z (Y _ Qo Qo Qo),ht,h.k1.block (Y _ Qo Qo Qo),h.k2.block (Y _ Qo Qo Qo),
  h.r0.block (Y _ Qo Qo Qo),hc,hb,hd,bd,Z,bn,dc,dn,hB,ZJ h.bw hz,h0,h1,h2,h3,a,b⟩
def P0.below{A:NZ}{ob:Nat}(h:P0 w M A rb tb g1 g2 ob cb base ck nt bs df vb vd vc vn W)(z:Bl W W'):
  P0 w M A rb tb g1 g2 ob cb base ck nt bs df vb vd vc vn W':=
 h.move (λq a _ _=>z.block q (ZH a h.bw)) z.size (h.t.below z) (h.c.below z) (h.b.below z) (h.d.below z) h.bd h.bc h.bn h.dc h.dn (h.bel.trans (z.mono h.bel.size))
def P0.rw{A:NZ}{ob:Nat}(h:P0 w M A rb tb g1 g2 ob cb base ck nt bs df vb vd vc vn W)(z:G0 M A w):Rw ob M.k A.a3 M.nnx A.c3 M.nx W:=
 ⟨(h.r0 0 _ rfl).1,(h.r0 1 _ rfl).1,z.l3.below h.bel⟩
def P0.put{A:NZ}{ob:Nat}(h:P0 w M A rb tb g1 g2 ob cb base ck nt bs df vb vd vc vn W)
  (J:Cs base cb vc' vn' ck' nt' W') (H:WG cb vc vn vc' vn' W W'):P0 w M A rb tb g1 g2 ob cb base ck' nt' bs df vb vd vc' vn' W':=by
 have G:=h.o5;have C:=h.bw;have j:=h.c.c.blk;have m:=h.c.n.blk;have i:∀q,q<base->q≠cb->W'.heap[q]?=W.heap[q]?:=λq o h0=>H.kept q Qo h0 (λe=>by have:=(j q e).1;omega) (λe=>by have:=(m q e).1;omega)
 have a:∀(u:Value) (l:List Int),OwnL base u l W->RK u vc->RK u vn->OwnL base u l W'/\RK u vc'/\RK u vn':=λu l g p r=>by
  refine⟨g.keep (λk f=>H.kept k (g.blk k f).2 (by have:=(g.blk k f).1;have:=h.c.lt;omega) (p k f) (r k f)),λk f e=>?_,λk f e=>?_⟩
  .rcases H.oc k e with e|e
   .exact p k f e
   have:=(g.blk k f).2;omega
  rcases H.on k e with e|e
  .exact r k f e
  have:=(g.blk k f).2;omega
 let⟨s,v,x⟩:=a vb bs h.b h.bc h.bn;let⟨y,z,B⟩:=a vd df h.d h.dc h.dn;have h0:=h.o0;have h1:=h.o1;have h2:=h.o2;have h3:=h.o3;have F:=h.o4;have D:=h.c.lt;exact h.move (λq o _ E=>i q o E) H.bel.size (h.t.block (i _ Qo Qo)) J s y h.bd v x z B (h.bel.trans (H.bel.mono Qo))
def P0.ready{A:NZ}{ob:Nat}(x:Int)(h:P0 w M A rb tb g1 g2 ob cb base ck nt bs df vb vd vc vn W):
  OwnL base vd df (W.alloc (.cells #[I6 x] 3))/\OwnL base vb bs (W.alloc (.cells #[I6 x] 3))/\(W.alloc (.cells #[I6 x] 3)).cell? (a_ W.heap.size 0)=some (I6 x)/\base<=(W.alloc (.cells #[I6 x] 3)).heap.size /\
  (∀w5,(W.alloc (.cells #[I6 x] 3)).grownBy w5 vd.ownBlock->w5.cell? (a_ tb 4)=some vd/\w5.frozen? (a_ tb 4)=false) /\
  (∀w5,(W.alloc (.cells #[I6 x] 3)).grownBy w5 vb.ownBlock->w5.cell? (a_ tb 3)=some vb/\w5.frozen? (a_ tb 3)=false):=by
 have a:=box_bel W (.cells #[I6 x] 3);have h2:=h.o2;have h3:=h.o3;have g:=h.o4;have i:=h.o5;have j:=h.c.lt;refine⟨h.d.below a,h.b.below a,by rw[Zm];rfl,ZJ h.bw a.size,λw5 f=>?_,λw5 f=>?_⟩
 .exact((h.t.below a).block (f.block _ (ZH h.t.lt a.size) (λe=>by have:=(h.d.blk _ e.symm).1;omega))) 4 _ rfl
 exact((h.t.below a).block (f.block _ (ZH h.t.lt a.size) (λe=>by have:=(h.b.blk _ e.symm).1;omega))) 3 _ rfl
def R8{u v v':Value}{g n cap:Nat}{W W1:World}(H:v'=sL g n cap)(z:v.ownBlock=some g\/g=W1.heap.size)(hz:W.heap.size<=W1.heap.size)(Y:∀k,u.ownBlock=some k->k<W.heap.size)(J:RK v u):RK v' u:=by
 intro k a e;rw[H]at a;have e2:g=k:=Zh a;rcases z with h1|h1
 .rw[e2]at h1;exact J k h1 e
 have:=Y k e;omega
def P0.pushD{A:NZ}{ob:Nat}{x:Int}{o:Obj}(h:P0 w M A rb tb g1 g2 ob cb base ck nt bs df vb vd vc vn W)(J:W1=W.alloc o)
  (Z:OwnL base (sL g (df.length+1) cap) (df++[x]) w5) (Y:W1.grownBy w5 vd.ownBlock) (H:vd.ownBlock=some g\/g=W1.heap.size):
  P0 w M A rb tb g1 g2 ob cb base ck nt bs (df++[x]) vb (sL g (df.length+1) cap) vc vn (w5.setCell (a_ tb 4) (sL g (df.length+1) cap)):=by
 have x1:Bl W W1:=by rw[J];exact box_bel _ _
 have z:W1.heap.size=W.heap.size+1:=by rw[J];simp
 have k1:=h.below x1;have h0:=h.o0;have h1:=h.o1;have h2:=h.o2;have h3:=h.o3;have B:=h.o4;have C:=h.o5;have D:=h.c.lt;have E:=h.bw;have v:=(Z.blk g rfl).1;have f:=h.d.blk;have s:∀k,k≠tb->(w5.setCell (a_ tb 4) (sL g (df.length+1) cap)).heap[k]?=w5.heap[k]?:=λk a=>Zq w5 (a_ tb 4) _ k (λe=>a e)
 have i:∀q,q<W1.heap.size->q≠tb->vd.ownBlock≠some q->(w5.setCell (a_ tb 4) (sL g (df.length+1) cap)).heap[q]?=W1.heap[q]?:=λq j h0 h1=>by
  rw[s q h0,Y.block q j (λe=>h1 e.symm)]
 have kl:∀(u:Value) (l:List Int),OwnL base u l W1->RK vd u->OwnL base u l (w5.setCell (a_ tb 4) (sL g (df.length+1) cap)):=λu l r y=>r.keep (λk a=>i k (r.blk k a).2 (by have:=(r.blk k a).1;omega) (λe=>y k e a))
 refine k1.move (λq j m _=>i q Qo m (λe=>by have:=(f q e).1;omega)) (by have:=Y.size;simpa[World.setCell]using this) ?_ ?_ (kl vb bs k1.b h.bd.symm) (Z.keep (λk a=>s k (by cases a;show g≠_;omega))) ?_ h.bc h.bn ?_ ?_ ?_
 .exact(k1.t.block (Y.block _ Qo (λe=>by have:=(f _ e.symm).1;omega))).set 4 Qs _
 .refine k1.c.keep (i cb Qo Qo (λe=>by have:=(f _ e).1;omega)) (λk a=>i k (k1.c.c.blk k a).2 (by have:=(k1.c.c.blk k a).1;omega) (λe=>h.dc k e a)) (λk a=>i k (k1.c.n.blk k a).2 (by have:=(k1.c.n.blk k a).1;omega) (λe=>h.dn k e a))
 .exact(R8 rfl H Qo (λk a=>(h.b.blk k a).2) h.bd.symm).symm
 .exact R8 rfl H Qo (λk a=>(h.c.c.blk k a).2) h.dc
 .exact R8 rfl H Qo (λk a=>(h.c.n.blk k a).2) h.dn
 exact(k1.bel.grown Y Qo (λq j=>by have:=(f q j).1;omega)).setCell (p:=(a_ tb 4)) (show w.heap.size<=tb by omega) _
def P0.pushB{A:NZ}{ob:Nat}{x:Int}{o:Obj}(h:P0 w M A rb tb g1 g2 ob cb base ck nt bs df vb vd vc vn W)(J:W1=W.alloc o)
  (Z:OwnL base (sL g (bs.length+1) cap) (bs++[x]) w5) (Y:W1.grownBy w5 vb.ownBlock) (H:vb.ownBlock=some g\/g=W1.heap.size):
  P0 w M A rb tb g1 g2 ob cb base ck nt (bs++[x]) df (sL g (bs.length+1) cap) vd vc vn (w5.setCell (a_ tb 3) (sL g (bs.length+1) cap)):=by
 have x1:Bl W W1:=by rw[J];exact box_bel _ _
 have z:W1.heap.size=W.heap.size+1:=by rw[J];simp
 have k1:=h.below x1;have h0:=h.o0;have h1:=h.o1;have h2:=h.o2;have h3:=h.o3;have B:=h.o4;have C:=h.o5;have D:=h.c.lt;have E:=h.bw;have v:=(Z.blk g rfl).1;have f:=h.b.blk;have s:∀k,k≠tb->(w5.setCell (a_ tb 3) (sL g (bs.length+1) cap)).heap[k]?=w5.heap[k]?:=λk a=>Zq w5 (a_ tb 3) _ k (λe=>a e)
 have i:∀q,q<W1.heap.size->q≠tb->vb.ownBlock≠some q->(w5.setCell (a_ tb 3) (sL g (bs.length+1) cap)).heap[q]?=W1.heap[q]?:=λq j h0 h1=>by
  rw[s q h0,Y.block q j (λe=>h1 e.symm)]
 have kl:∀(u:Value) (l:List Int),OwnL base u l W1->RK vb u->OwnL base u l (w5.setCell (a_ tb 3) (sL g (bs.length+1) cap)):=λu l r y=>r.keep (λk a=>i k (r.blk k a).2 (by have:=(r.blk k a).1;omega) (λe=>y k e a))
 refine k1.move (λq j m _=>i q Qo m (λe=>by have:=(f q e).1;omega)) (by have:=Y.size;simpa[World.setCell]using this) ?_ ?_ (Z.keep (λk a=>s k (by cases a;show g≠_;omega))) (kl vd df k1.d h.bd) ?_ ?_ ?_ h.dc h.dn ?_
 .exact(k1.t.block (Y.block _ Qo (λe=>by have:=(f _ e.symm).1;omega))).set 3 Qs _
 .refine k1.c.keep (i cb Qo Qo (λe=>by have:=(f _ e).1;omega)) (λk a=>i k (k1.c.c.blk k a).2 (by have:=(k1.c.c.blk k a).1;omega) (λe=>h.bc k e a)) (λk a=>i k (k1.c.n.blk k a).2 (by have:=(k1.c.n.blk k a).1;omega) (λe=>h.bn k e a))
 .exact R8 rfl H Qo (λk a=>(h.d.blk k a).2) h.bd
 .exact R8 rfl H Qo (λk a=>(h.c.c.blk k a).2) h.bc
 .exact R8 rfl H Qo (λk a=>(h.c.n.blk k a).2) h.bn
 exact(k1.bel.grown Y Qo (λq j=>by have:=(f q j).1;omega)).setCell (p:=(a_ tb 3)) (show w.heap.size<=tb by omega) _
def BW(nx:Nat->Int)(n s b:Nat)(l:List Nat)(p:List Int × List Int)(i c:Nat)(h:l[i]?=some c):
  Pk.lay nx n s b (l.take (i+1)) p=(Pk.put (Pk.lay nx n s b (l.take i) p).1 (b+c) s,Pk.put (Pk.lay nx n s b (l.take i) p).2 (b+c) (Pk.ld nx n s c)):=by
 rw[fW,h,Pk.lay_append];rfl
end
section
open Go.RowKit
variable {a:Act}{ops:Array Oper}{Q:Exit->Act->World->Prop}{r:Int}{rest:List Oper}{base i j k n:Nat}{f:Nat->Int}{o:Oper}{v:Value}{W w w':World}
def Id:∀ {k n:Nat},YD f k=some n->∀i,i<k->0<=f i/\f i<=i
 |0,_,_,i,hi=>Qo
 |k+1,n,h,i,hi=>by
  rw[YD]at h;rcases hc:YD f k with _|m
  .rw[hc]at h;cases h
  rw[hc]at h;simp only at h;have b:=Qf hc;by_cases e:i=k
  .subst e;by_cases a:f i<0\/(m:Int)<f i
   .rw[dF a]at h;cases h
   omega
  exact Id hc i Qo
def PX.cl{T:Tb}(h:PX T):T.ncl=256/\∀i,i<256->0<=T.cl i/\T.cl i<=255:=by
 have a:=h.hd.2.2.1;unfold Vc at a;by_cases e:T.ncl=256
 .rw[dF e]at a;refine⟨e,λi b=>?_⟩;rcases hc:YD T.cl 256 with _|m
  .rw[hc]at a;simp at a
  have:=Id hc i b;omega
 rw[dG e]at a;omega
def Mf(T:Tb):Nat->Int->Int->Int
 |0,_,_=>-1
 |u+1,s,c=>if s=-1 then -1 else if T.bs s.toNat+c<T.nck/\T.ck (T.bs s.toNat+c).toNat=s then T.nx (T.bs s.toNat+c).toNat else Mf T u (T.df s.toNat) c
def IJ(T:Tb)(u:Nat)(c:Int):Mf T u (-1) c=-1:=by cases u<;>simp[Mf]
def BY{T:Tb}{u:Nat}{c:Int}(z:T.bs n+c=(k:Int))(h1:k<T.nck)(h2:T.ck k=n):Mf T (u+1) (n:Int) c=T.nx k:=by
 rw[Mf,g_,ZE,z,ZE,dF ⟨Qo,h2⟩]
def Ga{T:Tb}{u:Nat}{c:Int}(z:T.bs n+c=(k:Int))(h:¬(k<T.nck/\T.ck k=n)):Mf T (u+1) (n:Int) c=Mf T u (T.df n) c:=by
 rw[Mf,g_,ZE,z,ZE,dG (λe=>h ⟨Qo,e.2⟩)]
def QI(T:Tb)(s b:Int):Int:=if s<0\/(T.nlb:Int)<=s\/b<0\/256<=b then -1 else Mf T 97 s (T.cl b.toNat)
def II(T:Tb)(s:Int):Int:=if s<0\/(T.nlb:Int)<=s then -1 else T.lb s.toNat
def BZ(b:Nat)(T:Tb)(A:QZ)(n0:Nat)(c:Int)(w:World)(hS:PX T)(hA:VY b T A w)(hI:Tz T A w)(hn:n0<T.nlb)(hc:0<=c/\c<=255):
  Cp 180 #[pT b,I6 n0,I6 c] w λe w'=>e=.returned (I6 (Mf T 97 n0 c))/\w'=w:=by
 let⟨R,m⟩:=nam (Mf T 97 n0 c);rw[<-m];have h:=hyd m;have HS:=hyd hS;have j:=hyd hI;let⟨U,M,V,N,z,O,B,P,W,Q,C,S⟩:=A;let⟨H,I,J,o,p,K,q⟩:=hA;have e3:=hS.e3;have e4:=hS.e4;have e6:=hS.e6;have hl:=hS.hd.2.1;have D:=hS.e5;rw[e3]at o;rw[e4]at p;rw[e6]at q;have l3:IL z T.bs T.nlb w:=by rw[<-e3];exact j.o.l3
 have l4:IL B T.df T.nlb w:=by rw[<-e4];exact j.o.l4
 have l5:=j.o.l5;have l6:IL C T.nx T.nck w:=by rw[<-e6];exact j.o.l6
 have L3:=hyd l3;have v:=hyd l4;have y:=hyd l5;have L6:=hyd l6;have r:=hyd HS.o.b3;have t:=hyd HS.o.b4;simp only at H I J o p K q;go_enter func180,ntmps180;go_wp2
 go_loopw [1] (λx w'=>∃(s:Int) (u:Nat),x=I6 s/\-1<=s/\s<T.nlb/\s<u/\u<=97/\Hid (R=Mf T u s c)/\w'=w) (λx _=>(intOf x+1).toNat)
 .exact⟨n0,97,rfl,Qo,Qo,Qo,Qo,h,rfl⟩
 obtain⟨s,u,rfl,E,F,G,hu,h,rfl⟩:=hrel;by_cases hs:s=-1
 .subst hs;have a:Hid (R=-1):=by show _=_;rw[h.o,IJ]
  go_wp2;go_ret;exact⟨Y2 a.o.symm,rfl⟩
 obtain⟨n,rfl⟩:=ZA (show 0<=s by omega);rcases u with _|u
 .omega
 have q2:((n:Int) != -1)=true:=Qs
 have g:n<T.nlb:=Qo
 have b3:=r.o n g;have b4:=t.o n g;obtain⟨k,l⟩:∃k:Nat,T.bs n+c=(k:Int):=⟨(T.bs n+c).toNat,Qo⟩;obtain⟨Y,o3,rfl,c3⟩:=L3.o n g;obtain⟨Z,o4,rfl,c4⟩:=v.o n g;by_cases f:k<T.nck
 .have i:(k:Int)<(T.nck:Int):=Qo
  obtain⟨g5,o5,rfl,c5⟩:=y.o k f;obtain⟨g6,o6,rfl,X⟩:=L6.o k f;by_cases d:T.ck k=n
  .have a:Hid (R=T.nx k):=by show _=_;rw[h.o,BY l f d]
   have L:(T.ck k==(n:Int))=true:=by simpa using d
   go_wp2;go_ret;exact⟨Y2 a.o.symm,rfl⟩
  have a:Hid (R=Mf T u (T.df n) c):=by show _=_;rw[h.o,Ga l (λe=>d e.2)]
  have L:(T.ck k==(n:Int))=false:=by simpa using d
  go_wp2;go_roundw
  .exact⟨T.df n,u,rfl,b4.1,Qo,Qo,Qo,a,trivial⟩
  simp[intOf];omega
 have i:¬(k:Int)<(T.nck:Int):=Qo
 have a:Hid (R=Mf T u (T.df n) c):=by show _=_;rw[h.o,Ga l (λe=>f e.1)]
 go_wp2;go_roundw
 .exact⟨T.df n,u,rfl,b4.1,Qo,Qo,Qo,a,trivial⟩
 simp[intOf];omega
def EJ(b:Nat)(T:Tb)(A:QZ)(s x:Int)(w:World)(hS:PX T)(hA:VY b T A w)(hI:Tz T A w):
  Cp 144 #[.pointer (some ⟨b,0,none⟩),.int .i64 s,.int .i64 x] w λe w'=>e=.returned (.int .i64 (QI T s x))/\w'=w:=by
 obtain⟨R,a⟩:=nam (QI T s x);rw[<-a];unfold QI at a;have d:=hS.cl;have f:Hid (∀(n0:Nat) (c:Int),n0<T.nlb->(0<=c/\c<=255)->Cp 180 #[.pointer (some ⟨b,0,none⟩),.int .i64 n0,.int .i64 c] w λe w'=>e=.returned (.int .i64 (Mf T 97 n0 c))/\w'=w):=λn0 c h1 h2=>BZ b T A n0 c w hS hA hI h1 h2
 obtain⟨o,y,F,z,G,B,H,C,I,D,J,E⟩:=A;obtain⟨p,l,q,r,t,u,v⟩:=hA;simp only at p l q r t u v;rw[d.1]at l;have l1:IL o T.cl 256 w:=by rw[<-d.1];exact hI.l1
 have g:=hyd l1;have h:=hyd d.2;clear hI l1 d hS;by_cases c1:s<0
 .rw[dF (Or.inl c1)]at a;subst a;clear f g;go_enter func144,ntmps144;go_wp2_with fail;go_ret;exact⟨rfl,rfl⟩
 by_cases c2:(T.nlb:Int)<=s
 .rw[dF (Or.inr (Or.inl c2))]at a;subst a;clear f g;go_enter func144,ntmps144;go_wp2_with fail;go_ret;exact⟨rfl,rfl⟩
 by_cases c3:x<0
 .rw[dF (Or.inr (Or.inr (Or.inl c3)))]at a;subst a;clear f g;go_enter func144,ntmps144;go_wp2_with fail;go_ret;exact⟨rfl,rfl⟩
 by_cases c4:256<=x
 .rw[dF (Or.inr (Or.inr (Or.inr c4)))]at a;subst a;clear f g;go_enter func144,ntmps144;go_wp2_with fail;go_ret;exact⟨rfl,rfl⟩
 rw[dG (by omega)]at a;obtain⟨n,rfl⟩:=ZA (show 0<=s by omega);obtain⟨m,rfl⟩:=ZA (show 0<=x by omega);rw[ZE]at a;have k:m<256:=by omega
 have i:=f.out n (T.cl m) (by omega) (h m k);rw[<-a]at i;have j:Hid (Cp 180 #[.pointer (some ⟨b,0,none⟩),.int .i64 n,.int .i64 (T.cl m)] w λe w'=>e=.returned (.int .i64 R)/\w'=w):=i;obtain⟨g1,L,rfl,K⟩:=g.out m k;clear i f g a h;go_enter func144,ntmps144;go_wp2_with fail;refine j.out.mono ?_;rintro e w' ⟨rfl,rfl⟩;go_wp2_with fail;go_ret;exact⟨rfl,rfl⟩
def GH(b:Nat)(T:Tb)(A:QZ)(s:Int)(w:World)(hA:VY b T A w)(hI:Tz T A w):
  Cp 145 #[.pointer (some ⟨b,0,none⟩),.int .i64 s] w λe w'=>e=.returned (.int .i64 (II T s))/\w'=w:=by
 obtain⟨R,a⟩:=nam (II T s);rw[<-a];unfold II at a;obtain⟨v,o,x,p,y,q,z,r,B,t,C,u⟩:=A;obtain⟨g,h,i,j,k,l,m⟩:=hA;simp only at g h i j k l m;have c:=hyd hI.l2;clear hI;by_cases c1:s<0
 .rw[dF (Or.inl c1)]at a;subst a;clear c;go_enter func145,ntmps145;go_wp2_with fail;go_ret;exact⟨rfl,rfl⟩
 by_cases c2:(T.nlb:Int)<=s
 .rw[dF (Or.inr c2)]at a;subst a;clear c;go_enter func145,ntmps145;go_wp2_with fail;go_ret;exact⟨rfl,rfl⟩
 rw[dG (by omega)]at a;obtain⟨n,rfl⟩:=ZA (show 0<=s by omega);rw[ZE]at a;have d:n<T.nlb:=by omega
 have f:(n:Int)<(T.nlb:Int):=by omega
 obtain⟨g2,E,rfl,D⟩:=c.out n d;subst a;clear c;go_enter func145,ntmps145;go_wp2_with fail;go_ret;exact⟨rfl,rfl⟩
def Mh(T:Tb)(x:ByteArray)(i:Nat):Nat->Nat->Int->Int->Int->Int × Int
 |0,_,_,r,l=>(r,l)
 |u+1,j,s,r,l=>if j<x.size then
   (if QI T s (fb x j)=-1 then (r,l) else if II T (QI T s (fb x j))=-1 then Mh T x i u (j+1) (QI T s (fb x j)) r l else Mh T x i u (j+1) (QI T s (fb x j)) (II T (QI T s (fb x j))) ((j:Int)+1-i))
  else (r,l)
def Fs{T:Tb}{x:ByteArray}{u:Nat}{s l:Int}(h:x.size<=j):Mh T x i u j s r l=(r,l):=by
 cases u
 .rfl
 rw[Mh,g_]
def Jq{T:Tb}{x:ByteArray}{u:Nat}{s l:Int}(h:j<x.size)(hs:QI T s (fb x j)=-1):Mh T x i (u+1) j s r l=(r,l):=by
 rw[Mh,dF h,dF hs]
def Jp{T:Tb}{x:ByteArray}{u:Nat}{s l:Int}(h:j<x.size)(hs:QI T s (fb x j)≠-1)(z:II T (QI T s (fb x j))=-1):Mh T x i (u+1) j s r l=Mh T x i u (j+1) (QI T s (fb x j)) r l:=by
 rw[Mh,dF h,dG hs,dF z]
def Jr{T:Tb}{x:ByteArray}{u:Nat}{s l:Int}(h:j<x.size)(hs:QI T s (fb x j)≠-1)(z:II T (QI T s (fb x j))≠-1):Mh T x i (u+1) j s r l=Mh T x i u (j+1) (QI T s (fb x j)) (II T (QI T s (fb x j))) ((j:Int)+1-i):=by
 rw[Mh,dF h,dG hs,dG z]
def GK{T:Tb}{x:ByteArray}:∀(u j:Nat) (s r l:Int),i<=j->1<=l->(i:Int)+l<=x.size->1<=(Mh T x i u j s r l).2/\(i:Int)+(Mh T x i u j s r l).2<=x.size
 |0,_,_,_,_,_,h1,h2=>⟨h1,h2⟩
 |u+1,j,s,r,l,hj,h1,h2=>by
  rw[Mh];split
  .split
   .exact⟨h1,h2⟩
   split
   .exact GK u (j+1) _ _ _ Qo h1 h2
   exact GK u (j+1) _ _ _ Qo Qo Qo
  exact⟨h1,h2⟩
def Ud(T:Tb)(x:ByteArray)(i:Nat):Int × Int:=Mh T x i (x.size-i) i 0 (-1) 1
def AB(T:Tb)(x:ByteArray)(i:Nat)(h:i<x.size):1<=(Ud T x i).2/\(i:Int)+(Ud T x i).2<=x.size:=GK _ _ _ _ _ (Zg _) Qo Qo
def TK:(prog.info? 97).map (·.size)=some 3:=Qk
def Jy(w:World):(zeroValue 97).run prog w=.ok (.agg #[I6 0,I6 0,I6 0]) w:=by
 go_simp
def EM(w:World)(a b c:Int)(t:TypeId):(w.alloc (.cells #[I6 a,I6 b,I6 c] t)).there w.heap.size 0 3:=λj d=>by
 rcases j with _|_|_|j<;>first|(refine⟨?_,?_⟩<;>go_simp)|omega
structure TS (w:World) (r i l:Int) (W:World):Prop where
 z:W.there w.heap.size 0 3
 t:T_ (w.heap.size+1) [.int .i64 r,.int .i64 i,.int .i64 l] W
 b:Below w.heap.size w W
def TS.set0{i l:Int}(h:TS w r i l W)(x:Int):TS w x i l (W.setCell (a_ (w.heap.size+1) 0) (I6 x)):=
 ⟨λj c=>by rw[fB _ _ _ _ (by intro a;have h1:=congrArg Addr.block a;simp at h1),fw];exact h.z j c,h.t.set 0 Qs _,h.b.setCell (p:=(a_ (w.heap.size+1) 0)) (fH _) _⟩
def TS.set2{i l:Int}(h:TS w r i l W)(x:Int):TS w r i x (W.setCell (a_ (w.heap.size+1) 2) (I6 x)):=
 ⟨λj c=>by rw[fB _ _ _ _ (by intro a;have h1:=congrArg Addr.block a;simp at h1),fw];exact h.z j c,h.t.set 2 Qs _,h.b.setCell (p:=(a_ (w.heap.size+1) 2)) (fH _) _⟩
def TS.out{i l:Int}(h:TS w r i l W):∃W',W'=W.setCells w.heap.size 0 [I6 r,I6 i,I6 l]/\(loadVar 97 (a_ w.heap.size 0)).run prog W'=.ok (.agg #[I6 r,I6 i,I6 l]) W'/\Bl w W':=by
 refine⟨_,rfl,?_,?_⟩
 .exact ZF (P:=prog) _ w.heap.size 0 97 [I6 r,I6 i,I6 l] _ (Zo W w.heap.size 0 [I6 r,I6 i,I6 l] h.z) u_m rfl TK
 exact h.b.grown (Y8 w.heap.size [I6 r,I6 i,I6 l] 0 W) h.b.size (λq a=>by cases a;exact Zg _)
def Js(b:Nat)(T:Tb)(A:QZ)(x:ByteArray)(i:Nat)(w:World)(hS:PX T)(hA:VY b T A w)(hI:Tz T A w)(hx:x.size<=2000)(hi:i<x.size):
  Cp 90 #[.pointer (some ⟨b,0,none⟩),.string x,.int .i64 i] w λe w'=>e=.returned (.agg #[.int .i64 (Ud T x i).1,.int .i64 i,.int .i64 (Ud T x i).2])/\Bl w w':=by
 have hz:=Jy;obtain⟨R,I⟩:=nam (Ud T x i);rw[<-I];have d:=hyd I;clear I;have O:Hid (∀w' (s c:Int),Bl w w'->Cp 144 #[.pointer (some ⟨b,0,none⟩),.int .i64 s,.int .i64 c] w' λe w''=>e=.returned (.int .i64 (QI T s c))/\w''=w'):=λw' s c F=>EJ b T A s c w' hS (hA.below F) (hI.below F)
 have P:Hid (∀w' (s:Int),Bl w w'->Cp 145 #[.pointer (some ⟨b,0,none⟩),.int .i64 s] w' λe w''=>e=.returned (.int .i64 (II T s))/\w''=w'):=λw' s F=>GH b T A s w' (hA.below F) (hI.below F)
 clear hA hI hS;obtain⟨W,J⟩:=nam ((w.alloc (.cells #[.int .i64 0,.int .i64 0,.int .i64 0] 97)).alloc (.cells #[.int .i64 (-1),.int .i64 i,.int .i64 1] 97));have S0:TS w (-1) i 1 W:=by
  have L:(w.alloc (.cells #[.int .i64 0,.int .i64 0,.int .i64 0] 97)).heap.size=w.heap.size+1:=by simp
  rw[J];refine⟨Yi (EM w 0 0 0 _) Qo (X5 _ _),?_,(X5 w _).trans ((X5 _ _).mono (by simp))⟩;rw[<-L];exact T_.boxed _ [.int .i64 (-1),.int .i64 i,.int .i64 1] _
 go_enter func90,ntmps90;go_wp2_with fail;rw[<-J];clear J
 go_loopw [8,9] (λst M w'=>∃(u j:Nat) (s r l:Int),st=.int .i64 s/\M=.int .i64 j/\i<=j/\j<=x.size/\x.size<=u+j/\TS w r i l w'/\Hid (R=Mh T x i u j s r l)) (λ_ M _=>x.size-(intOf M).toNat)
 .exact⟨x.size-i,i,0,-1,1,rfl,rfl,Zg _,Qo,Qo,S0,d⟩
 clear d S0;obtain⟨u,j,s,r,l,rfl,rfl,V,hj,hu,hS,d⟩:=hrel;by_cases k:j<x.size
 .have N:(j:Int)<(x.size:Int):=Qo
  rcases u with _|u
  .omega
  have Q:=hyd (zk x j k);have K:=x[j].toNat_lt;go_wp2_with fail;refine(O.out _ s _ hS.b).mono ?_;rintro e w1 ⟨rfl,rfl⟩;rw[Q.out];clear K;obtain⟨m,B⟩:=nam (QI T s (fb x j));rw[<-B];have h:=hyd B;clear B;by_cases G:m=-1
  .have a:Hid (R=(r,l)):=by show _=_;rw[d.out,Jq k (by rw[<-h.out];exact G)]
   have Z:(m==-1)=true:=by simpa using G
   obtain⟨S,f,g,p⟩:=hS.out;have o:=hyd f;have n:=hyd g;have y:=hS.t.range;have C:=hS.z;clear f g d h;go_wp2_with (first|(refine Zb rfl 97 _ rfl (w.heap.size+1) 0 rfl [.int .i64 r,.int .i64 i,.int .i64 l] _ y u_m rfl TK ?_)|(refine Za rfl 97 _ _ rfl w.heap.size 0 #[.int .i64 r,.int .i64 i,.int .i64 l] rfl rfl C TK (by simp[Value.oneCell']) ?_;rw[Zc,<-o.out]));refine Zr (v:=.agg #[.int .i64 r,.int .i64 i,.int .i64 l]) (V0 results90 rfl n.out) rfl ?_;rw[a.out];exact⟨rfl,p⟩
  have Z:(m==-1)=false:=by simpa using G
  go_wp2_with fail;refine(P _ m hS.b).mono ?_;rintro e w2 ⟨rfl,rfl⟩;obtain⟨D,q⟩:=nam (II T m);rw[<-q];have E:=hyd q;clear q;by_cases H:D=-1
  .have a:Hid (R=Mh T x i u (j+1) m r l):=by show _=_;rw[d.out,Jp k (by rw[<-h.out];exact G) (by rw[<-h.out,<-E.out];exact H),<-h.out]
   have q3:(D != -1)=false:=by simp[H]
   clear d h E;go_wp2_with fail;go_roundw
   .exact⟨u,j+1,m,r,l,rfl,by go_num,Qo,Qo,Qo,hS,a⟩
   simp[intOf];omega
  have a:Hid (R=Mh T x i u (j+1) m D ((j:Int)+1-i)):=by show _=_;rw[d.out,Jr k (by rw[<-h.out];exact G) (by rw[<-h.out,<-E.out];exact H),<-h.out,<-E.out]
  have q3:(D != -1)=true:=by simp[H]
  obtain⟨k0,X⟩:=hS.t 0 _ rfl;obtain⟨k2,Y⟩:=(hS.set0 D).t 2 _ rfl;have S2:=(hS.set0 D).set2 ((j:Int)+1-i);clear d h E;go_wp2_with fail;go_roundw
  .exact⟨u,j+1,m,D,(j:Int)+1-i,rfl,by go_num,Qo,Qo,Qo,S2,a⟩
  simp[intOf];omega
 have U:¬(j:Int)<(x.size:Int):=Qo
 have a:Hid (R=(r,l)):=by show _=_;rw[d.out,Fs Qo]
 obtain⟨S,f,g,p⟩:=hS.out;have o:=hyd f;have n:=hyd g;have y:=hS.t.range;have C:=hS.z;clear f g d;go_wp2_with (first|(refine Zb rfl 97 _ rfl (w.heap.size+1) 0 rfl [.int .i64 r,.int .i64 i,.int .i64 l] _ y u_m rfl TK ?_)|(refine Za rfl 97 _ _ rfl w.heap.size 0 #[.int .i64 r,.int .i64 i,.int .i64 l] rfl rfl C TK (by simp[Value.oneCell']) ?_;rw[Zc,<-o.out]));refine Zr (v:=.agg #[.int .i64 r,.int .i64 i,.int .i64 l]) (V0 results90 rfl n.out) rfl ?_;rw[a.out];exact⟨rfl,p⟩
def GV(T:Tb)(x:ByteArray):Nat->Nat->List (Int × Int × Int)
 |0,_=>[]
 |u+1,i=>if i<x.size then ((Ud T x i).1,(i:Int),(Ud T x i).2)::GV T x u (i+(Ud T x i).2.toNat) else []
def Ft{T:Tb}{x:ByteArray}{u:Nat}(h:x.size<=i):GV T x u i=[]:=by
 cases u
 .rfl
 rw[GV,g_]
def NM{T:Tb}{x:ByteArray}{u:Nat}(h:i<x.size)(e:Ud T x i=(r,(n:Int))):GV T x (u+1) i=(r,(i:Int),(n:Int))::GV T x u (i+n):=by
 rw[GV,dF h,e];simp
def SQ(T:Tb)(x:ByteArray):List (Int × Int × Int):=if 2000<x.size then [] else GV T x x.size 0
def Jo(t:Int × Int × Int):List Value:=[.int .i64 t.1,.int .i64 t.2.1,.int .i64 t.2.2]
def V5(l:List (Int × Int × Int)):List Value:=l.flatMap Jo
def JV(a b:List (Int × Int × Int)):V5 (a++b)=V5 a++V5 b:=by simp[V5]
def DY(a:Int × Int × Int):V5 [a]=Jo a:=by simp[V5]
def DX(l:List (Int × Int × Int)):(V5 l).length=l.length*3:=by
 induction l with
 |nil=>rfl
 |cons a l ih=>rw[show V5 (a::l)=Jo a++V5 l from by simp[V5],Zl,ih];simp[Jo];omega
def VG(base:Nat)(v:Value)(l:List (Int × Int × Int))(w:World):Prop:=w.ownsRow base 97 3 v l.length (V5 l)
def VG.below{l:List (Int × Int × Int)}(h:VG base v l w)(z:Bl w w'):VG base v l w':=Ik h z
def VG.ge{l:List (Int × Int × Int)}(h:VG base v l w):∀k,v.ownBlock=some k->base<=k:=λk a=>(h.lt k a).1
def VG.nil(base:Nat)(w:World):VG base (sN) [] w:=⟨rfl,Or.inl ⟨rfl,rfl⟩⟩
def D4:∃i,prog.info? 97=some i/\i.zero=some (.agg #[I6 0,I6 0,I6 0])/\i.size=3/\i.bytes=24:=by
 have h:(prog.info? 97).isSome=true:=Qk
 let⟨i,a⟩:=Zx.1 h;refine⟨i,a,?_,?_,?_⟩
 .have:((prog.info? 97).bind (·.zero))=some (.agg #[I6 0,I6 0,I6 0]):=Qk
  rw[a]at this;simpa using this
 .have:((prog.info? 97).map (·.size))=some 3:=Qk
  rw[a]at this;simpa using this
 have:((prog.info? 97).map (·.bytes))=some 24:=Qk
 rw[a]at this;simpa using this
def Uz(hgd:o.guard=none)(s x:Operand)
  (ho:o.op=.call { callee:=.builtin .append,args:=#[s,x],argTypes:=#[42,42] }) (base:Nat)
  (v:Value) (l:List (Int × Int × Int)) (hs:a.eval s=v) (hown:VG base v l w) (hn:l.length<=100000)
  (B:Nat) (t:Int × Int × Int) (hx:a.eval x=.slice (some ⟨B,0,none⟩) 1 1) (hnews:∀j u,(Jo t)[j]?=some u->w.cell? ⟨B,j,none⟩=some u) (hbase:base<=w.heap.size)
  (h:∀g cap w',VG base (.slice (some ⟨g,0,none⟩) (l.length+1) cap) (l++[t]) w'->w.grownBy w' v.ownBlock->wpList prog ops Q rest (a.put o.dst (.slice (some ⟨g,0,none⟩) (l.length+1) cap)) w'):wpList prog ops Q (o::rest) a w:=by
 obtain⟨i,e,b,c,d⟩:=D4;refine fD w hgd s x 42 ho base 97 i (.agg #[.int .i64 0,.int .i64 0,.int .i64 0]) 3 24 underlying42 e b c d (by simp[Value.cells]) Qo v l.length (V5 l) hs hown ⟨B,0,none⟩ 1 1 (Jo t) hx (by simp[Jo]) (λj u f=>by rw[Addr.add_mid,Zn];exact hnews j u f) (by simp[Jo,Value.oneCell']) Qo (by unfold maxLen;omega) Qo hbase _ rfl ?_;intro g cap w' h1 h2 h3 k;refine h g cap w' ?_ h2;unfold VG;rw[JV,DY,Zl];exact h1
def QH(x:ByteArray):Int:=if 2000<x.size then 2 else 0
def Mp(T:Tb)(x:ByteArray)(w:World)(e:Ending)(w':World):Prop:=
 ∃v,e=.returned (.tuple #[v,.int .i64 (QH x)])/\VG w.heap.size v (SQ T x) w'/\Below w.heap.size w w'
def zN(b:Nat)(T:Tb)(A:QZ)(x:ByteArray)(w:World)(hS:PX T)(hA:VY b T A w)(hI:Tz T A w)(hx:x.size<=140737488355328):
  Cp 38 #[pT b,.string x] w (Mp T x w):=by
 by_cases F:2000<x.size
 .have N:(2000:Int)<(x.size:Int):=Qo
  have m:Hid (SQ T x=[]):=by show _=_;rw[SQ,dF F]
  have H:Hid (QH x=2):=by show _=_;rw[QH,dF F]
  go_enter func38,ntmps38;go_wp2;go_ret2;refine⟨sN,?_,?_,Zk _ _⟩
  .rw[H.o];rfl
  rw[m.o];exact VG.nil _ _
 have N:¬(2000:Int)<(x.size:Int):=Qo
 have hz:=Jy;let⟨R,M⟩:=nam (SQ T x);have I:=hyd M;rw[SQ,dG F]at M;have m:=hyd M;have H:Hid (QH x=0):=by show _=_;rw[QH,dG F]
 have Y:Hid (∀w' (i:Nat),Bl w w'->i<x.size->Cp 90 #[pT b,.string x,I6 i] w' λe w''=>e=.returned (.agg #[I6 (Ud T x i).1,I6 i,I6 (Ud T x i).2])/\Bl w' w''):=λw' i Q U=>Js b T A x i w' hS (hA.below Q) (hI.below Q) Qo U
 go_enter func38,ntmps38;go_wp2
 go_loopw [6,7] (λv K w'=>∃(u i:Nat) (ls:List (Int × Int × Int)),K=I6 i/\i<=x.size/\x.size<=u+i/\ls.length<=i/\VG w.heap.size v ls w'/\Bl w w'/\Hid (R=ls++GV T x u i)) (λ_ K _=>x.size-(intOf K).toNat)
 .exact⟨x.size,0,[],rfl,Qo,Qo,Qs,VG.nil _ _,Zk _ _,m⟩
 obtain⟨u,i,ls,rfl,U,hu,ab,S,E,m⟩:=hrel;by_cases h:i<x.size
 .have V:(i:Int)<(x.size:Int):=Qo
  rcases u with _|u
  .omega
  let⟨W,X⟩:=AB T x i h;obtain⟨r,ln,D⟩:∃(r:Int) (ln:Nat),Ud T x i=(r,(ln:Int)):=⟨(Ud T x i).1,(Ud T x i).2.toNat,by ext<;>simp;omega⟩;have P:=Y.o wr i E h;rw[D]at P W X;have G:Hid (Cp 90 #[pT b,.string x,I6 i] wr λe w''=>e=.returned (.agg #[I6 r,I6 i,I6 (ln:Int)])/\Bl wr w''):=P;have f:Hid (R=(ls++[(r,(i:Int),(ln:Int))])++GV T x u (i+ln)):=by show _=_;rw[m.o,NM h D];simp
  simp only at W X;go_wp2_with fail;apply G.o.mono;rintro e w1 ⟨rfl,t⟩;have q:=S.below t;have o:=E.trans (t.mono E.size);have C:∀k,u6.ownBlock=some k->k<w1.heap.size:=λk hk=>(q.lt k hk).2
  let⟨n,d⟩:=nam ((w1.alloc (.cells #[I6 r,I6 i,I6 (ln:Int)] 97)).alloc (.cells #[I6 r,I6 i,I6 (ln:Int)] 97));have O:(w1.alloc (.cells #[I6 r,I6 i,I6 (ln:Int)] 97)).heap.size=w1.heap.size+1:=Qs
  have x3:Bl w1 n:=by rw[d];exact(X5 w1 _).trans ((X5 _ _).mono Qs)
  have s:=q.below x3;have p:=o.trans (x3.mono o.size);have l:∀j v,(Jo (r,(i:Int),(ln:Int)))[j]?=some v->n.cell? (a_ (w1.heap.size+1) j)=some v:=λj v hv=>by
   rw[d,<-O];exact((T_.boxed _ [I6 r,I6 i,I6 (ln:Int)] _) j v hv).1
  have z:n.cell? (a_ w1.heap.size 2)=some (I6 (ln:Int)):=by
   have:=((T_.boxed w1 [I6 r,I6 i,I6 (ln:Int)] 97).below (X5 _ (.cells #[I6 r,I6 i,I6 (ln:Int)] 97))) 2 _ rfl;rw[d];exact this.1
  have Z:Hid (∀w5,n.grownBy w5 u6.ownBlock->w5.cell? (a_ w1.heap.size 2)=some (I6 (ln:Int))):=λw5 hg=>by
   rw[eZ (w:=n) (a:=(a_ w1.heap.size 2)) (hg.block w1.heap.size (Ze n _ z) (λe=>by have:=C _ e.symm;omega))];exact z
  have J:=hyd d;have y:=p.size;have B:=s.ge;go_wp2_with (first|(at_builtin;rw[<-J.o];apply Uz Qr _ _ Qr w.heap.size u6 ls Qr s Qo (w1.heap.size+1) (r,(i:Int),(ln:Int)) Qr l y;intro g cap w5 L c;have k2:=Z.o w5 c));go_roundw
  .exact⟨u,i+ln,ls++[(r,(i:Int),(ln:Int))],Qg,Qo,Qo,Qp,by simpa using L,p.grown c y B,f⟩
  simp[intOf];omega
 have aa:¬(i:Int)<(x.size:Int):=Qo
 have f:Hid (R=ls):=by show _=_;rw[m.o,Ft Qo];simp
 go_wp2;go_ret2;refine⟨u6,?_,?_,E⟩
 .rw[H.o];rfl
 rw[<-I.o,f.o];exact S
def EQ(b:Nat)(T:Tb)(A:QZ)(x:ByteArray)(w:World)(Y:PX T)(z:VY b T A w)(J:Tz T A w)(Z:x.size<=140737488355328):
  Cp 15 #[pT b,.string x] w (Mp T x w):=by
 have H:=hyd (zN b T A x w Y z J Z);go_enter func15,ntmps15;go_wp2_with fail;apply H.o.mono;rintro e w1 ⟨v,rfl,h1,h2⟩;go_wp2;go_ret2;exact⟨v,rfl,h1,h2⟩
end
