import Derived.Test.YtoaaklhpmhjhkaaGreatC04
import Derived.Test.YtoaaklhpmhjhkaaGreatC05
set_option maxRecDepth 100000
set_option maxHeartbeats 4000000
set_option linter.all false
namespace Go.Proofs.YtoaaklhpmhjhkaaGreat
open Go.RowKit
open Bm
def BR (ba:Option Addr) (h:Nat->Bool) (n:Nat) (w:World):Prop:=∀i,i<n->∃blk off,ba=some ⟨blk,off,none⟩/\w.cell? ⟨blk,off+i,none⟩=some (.bool (h i))
variable {a:Act}{ops:Array Oper}{Q:Exit->Act->World->Prop}{rest:List Oper}{N b base i j m n pb:Nat}{f:N_}{rk:Nat->Nat}{nx:Nat->Nat->Int}{o:Oper}{ba:Option Addr}{w w':World}
theorem BR.below {h:N_} (H:BR ba h n w) (y:Bl w w'):BR ba h n w':=λi c=>by
 obtain⟨b,o,e,a⟩:=H i c;exact⟨b,o,e,by rw[y.cell (p:=(a_ b (o+i))) (Ze w _ a)];exact a⟩
theorem BR.keep {h:N_} (H:BR ba h n w) (y:∀k o,ba=some (a_ k o)->w'.heap[k]?=w.heap[k]?):BR ba h n w':=λi d=>by
 obtain⟨b,o,e,c⟩:=H i d;exact⟨b,o,e,by rw[World.cell?_of_block (w:=w) (a:=(a_ b (o+i))) (y b o e)];exact c⟩
def Mr (f h:Nat->Bool) (n:Nat):Bool:=(List.range n).any λi=>h i&&!f i
theorem I0 (f h:N_) (n:Nat):Mr f h (n+1)=(Mr f h n || (h n&&!f n)):=by simp[Mr,ZT]
def RJ (f h:Nat->Bool) (k i:Nat):Bool:=f i || (decide (i<k)&&h i)
theorem HQ (Y Z n:Nat) (f:N_) (ba:Option Addr) (bn bc:Nat) (h:N_) (w:World) (hn:n<=1000000) (hT:TC Y (bl f n) w) (ac:n<=bn) (hB:BR ba h n w) (aa:∀k o,ba=some (a_ k o)->k≠Y):
  Cp 117 #[sL Y n Z,.slice ba bn bc] w λe w'=>e=.returned (.bool (Mr f h n))/\TC Y (bl (λi=>f i || h i) n) w'/\(∀k,k≠Y->w'.heap[k]?=w.heap[k]?)/\w'.heap.size=w.heap.size/\(∀B0 w0,B0<=Y->Below B0 w0 w->Below B0 w0 w'):=by
 have F:Hid (∀w':World,(∀k,k≠Y->w'.heap[k]?=w.heap[k]?)->BR ba h n w'):=λw' d=>hB.keep (λk o e=>d k (aa k o e))
 have T0:TC Y (bl (RJ f h 0) n) w:=by
  rw[YU (g:=f) (λi _=>by simp[RJ])];exact hT
 have⟨hn',hbn'⟩:(n:Int)<=1000000/\(n:Int)<=bn:=by omega
 go_enter Tryz.func117,Tryz.ntmps117;go_wp2
 go_loopw [5,6] (λm x w'=>∃i:Nat,i<=n/\x=I6 i/\m=.bool (Mr f h i)/\TC Y (bl (RJ f h i) n) w'/\(∀k,k≠Y->w'.heap[k]?=w.heap[k]?)/\w'.heap.size=w.heap.size/\Hid (∀B0 w0,B0<=Y->Below B0 w0 w->Below B0 w0 w')) (λ_ x _=>n-(intOf x).toNat)
 ·exact⟨0,by omega,rfl,rfl,T0,λ_ _=>rfl,rfl,λ_ _ _ h=>h⟩
 obtain⟨i,K,rfl,rfl,T,d,t,a⟩:=hrel;have l:Hid (∀B0 w0,B0<=Y->Below B0 w0 w->Below B0 w0 (wr.setCell (a_ Y i) (.bool true))):=λB0 w0 s h=>(a B0 w0 s h).setCell (p:=(a_ Y i)) s _
 by_cases c:i<n
 ·have⟨hlt',hltb⟩:(i:Int)<n/\(i:Int)<bn:=by omega
  obtain⟨J,bo,H,cb⟩:=F.out wr d i c;subst H;obtain⟨A,fa⟩:=T i _ (YO _ c);have e0:RJ f h i i=f i:=by simp[RJ]
  rw[e0]at A;have z:h i=true->f i=false->TC Y (bl (RJ f h (i+1)) n) (wr.setCell (a_ Y i) (.bool true)):=λh1 h2=>by
   have:=T.set i (by rw[Y9];exact c) (.bool true);rw[Uz]at this;rw[YU (g:=λj=>if j=i then true else RJ f h i j) (λj B=>?_)]
   ·exact this
   by_cases e:j=i
   ·subst e;simp[RJ,h1]
   have:decide (j<i+1)=decide (j<i):=by simp;omega
   simp[RJ,e,this]
  have C:∀k,k≠Y->(wr.setCell (a_ Y i) (.bool true)).heap[k]?=w.heap[k]?:=λk r=>by
   rw[Zq wr (a_ Y i) _ k (λe=>r e)];exact d k r
  have G:(h i&&!f i)=false->TC Y (bl (RJ f h (i+1)) n) wr:=λh1=>by
   rw[YU (g:=RJ f h i) (λj B=>?_)]
   ·exact T
   by_cases e:j=i
   ·subst e;simp only[RJ];cases hh:h j<;>cases hf:f j<;>simp_all
   have:decide (j<i+1)=decide (j<i):=by simp;omega
   simp[RJ,this]
  have E:=I0 f h i;obtain⟨M,I⟩:=nam (Mr f h i);rw[<-I]at E ⊢;have y:=hyd E;have u:=hyd z;have q:=hyd G;have v:=hyd C;have D:=hyd d;have b:=hyd t;cases hh:h i
  ·rw[hh]at cb;go_wp2;go_roundw
   ·exact⟨i+1,by omega,by go_num,by rw[y.out,hh];simp,q.out (by rw[hh];rfl),D.out,b.out,a⟩
   simp[intOf];omega
  rw[hh]at cb;cases hf:f i
  ·rw[hf]at A;go_wp2;go_roundw
   ·exact⟨i+1,by omega,by go_num,by rw[y.out,hh,hf];simp,u.out hh hf,v.out,by simpa using b.out,l⟩
   simp[intOf];omega
  rw[hf]at A;go_wp2;go_roundw
  ·exact⟨i+1,by omega,by go_num,by rw[y.out,hh,hf];simp,q.out (by rw[hh,hf];rfl),D.out,b.out,a⟩
  simp[intOf];omega
 have⟨hge,hin⟩:¬(i:Int)<n/\i=n:=by omega
 subst hin;have z:TC Y (bl (λj=>f j || h j) i) wr:=by
  rw[YU (g:=RJ f h i) (λj B=>by simp[RJ,B])];exact T
 go_wp2;go_ret;exact⟨rfl,z,d,t,a⟩
def Lp (L:Nat->ByteArray) (k:ByteArray) (n:Nat):Int:=match (List.range n).find? (λi=>decide (L i=k))with|some i=>(i:Int)|none=>-1
theorem J3 {L:Nat->ByteArray}{k:ByteArray} (z:i<n) (h:L i=k) (y:∀j,j<i->L j≠k):Lp L k n=i:=by
 have:(List.range n).find? (λi=>decide (L i=k))=some i:=by
  rw[List.find?_range_eq_some];refine⟨by simp[h],by simpa using z,λj a=>by simpa using y j a⟩
 simp[Lp,this]
theorem Mk {L:Nat->ByteArray}{k:ByteArray} (y:∀j,j<n->L j≠k):Lp L k n=-1:=by
 have:(List.range n).find? (λi=>decide (L i=k))=none:=by
  rw[List.find?_eq_none];intro x a;simpa using y x (by simpa using a)
 simp[Lp,this]
theorem EF (b y cap n:Nat) (L:Nat->ByteArray) (k:ByteArray) (w:World) (H:n<=1000000) (z:Sg b y L n w):
  Cp 59 #[.slice (some (a_ b y)) n cap,.string k] w λe w'=>e=.returned (I6 (Lp L k n))/\w'=w:=by
 have p:(n:Int)<=1000000:=by omega
 have m:=hyd z;go_enter Tryz.func59,Tryz.ntmps59;go_wp2
 go_loop [5] (λx=>∃i:Nat,i<=n/\x=I6 i/\Hid (∀j,j<i->L j≠k)) (λx=>n-(intOf x).toNat)
 ·exact⟨0,by omega,rfl,λj h=>by omega⟩
 obtain⟨i,s,rfl,f⟩:=hrel;by_cases a:i<n
 ·have l:(i:Int)<n:=by omega
  have r:=m.out i a;by_cases c:L i=k
  ·have d:=hyd (J3 a c f);have q:((L i).toList==k.toList)=true:=by rw[c];simp
   go_wp2;go_ret;exact⟨YY d.out.symm,rfl⟩
  have q:((L i).toList==k.toList)=false:=by
   rw[beq_eq_false_iff_ne];intro e;apply c;have h1:(L i).data.toList=k.data.toList:=by simpa[ByteArray.toList_eq]using e
   exact ByteArray.ext (Array.toList_inj.1 h1)
  have g:Hid (∀j,j<i+1->L j≠k):=λj h=>by
   by_cases e:j=i
   ·subst e;exact c
   exact f j (by omega)
  go_wp2
  go_round
  ·exact⟨i+1,by omega,by go_num,g⟩
  simp[intOf];omega
 have o:¬(i:Int)<n:=by omega
 have d:Hid (Lp L k n=-1):=Mk (λj h=>f.out j (by omega));go_wp2;go_ret;exact⟨YY d.out.symm,rfl⟩
theorem IV:∃i,Tryz.prog.info? 4=some i/\i.zero=some (.bool false)/\i.size=1/\i.bytes=1:=by
 have h1:(Tryz.prog.info? 4).isSome=true:=by kernel_rfl
 obtain⟨i,a⟩:=Zx.1 h1;refine⟨i,a,?_,?_,?_⟩
 ·have:((Tryz.prog.info? 4).bind (·.zero))=some (.bool false):=by kernel_rfl
  rw[a]at this;exact this
 ·have:((Tryz.prog.info? 4).map (·.size))=some 1:=by kernel_rfl
  rw[a]at this;simpa using this
 have:((Tryz.prog.info? 4).map (·.bytes))=some 1:=by kernel_rfl
 rw[a]at this;simpa using this
theorem EV:∃i,Tryz.prog.info? 5=some i/\i.zero=some (.int .u8 0)/\i.size=1/\i.bytes=1:=by
 have h1:(Tryz.prog.info? 5).isSome=true:=by kernel_rfl
 obtain⟨i,a⟩:=Zx.1 h1;refine⟨i,a,?_,?_,?_⟩
 ·have:((Tryz.prog.info? 5).bind (·.zero))=some (.int .u8 0):=by kernel_rfl
  rw[a]at this;exact this
 ·have:((Tryz.prog.info? 5).map (·.size))=some 1:=by kernel_rfl
  rw[a]at this;simpa using this
 have:((Tryz.prog.info? 5).map (·.bytes))=some 1:=by kernel_rfl
 rw[a]at this;simpa using this
theorem SX (v:Value) (n:Nat):madeCells #[v] n=((List.range n).map λ_=>v).toArray:=by
 refine Array.ext_getElem? (λi=>?_);by_cases h:i<n
 ·simp[madeCells,h,Nat.mod_one]
 simp[madeCells,h]
theorem Ou (w:World) (n:Nat) (y:n<=1000000):(Instr.makeSlice 78 (I6 (n:Int)) (I6 (n:Int))).run Tryz.prog w=.ok (.slice (some (a_ w.heap.size 0)) n n) (w.alloc (.cells (bl (λ_=>false) n).toArray 4)):=by
 obtain⟨i,b,hz,hs,a⟩:=IV;have h:=run_make (P:=Tryz.prog) w 78 4 i (.bool false) u_m b hz .i64 .i64 n n (by omega) (by omega) (by rw[a];omega) (by omega);rw[hs]at h;simp only[ZE,Nat.mul_one]at h;rw[show(Value.bool false).cells=#[.bool false] from rfl,SX]at h;exact h
def Nb (g:Nat->UInt8) (n:Nat):List Value:=(List.range n).map λi=>.int .u8 ((g i).toNat:Int)
theorem Ps (g:Nat->UInt8) (n:Nat):(Nb g n).length=n:=by simp[Nb]
theorem FH (g:Nat->UInt8) {n i:Nat} (h:i<n):(Nb g n)[i]?=some (.int .u8 ((g i).toNat:Int)):=by simp[Nb,h]
theorem Qz {f g:Nat->UInt8} (h:∀i,i<n->f i=g i):Nb f n=Nb g n:=by
 unfold Nb;exact ZO (λi a=>by rw[h i (by simpa using a)])
theorem D4 (g:Nat->UInt8) (n i:Nat) (x:UInt8):(Nb g n).set i (.int .u8 (x.toNat:Int))=Nb (λj=>if j=i then x else g j) n:=by
 refine List.ext_getElem? (λj=>?_);rw[List.getElem?_set];by_cases a:j<n
 ·by_cases e:i=j
  ·subst e;simp[Nb,a]
  have:¬j=i:=λh=>e h.symm
  simp[Nb,a,e,this]
 have h1:(Nb (λj=>if j=i then x else g j) n)[j]?=none:=ZB (by rw[Ps];omega);have h2:(Nb g n)[j]?=none:=ZB (by rw[Ps];omega);rw[h1,h2];split
 ·rename_i e;subst e;rw[if_neg (by rw[Ps];omega)]
 rfl
theorem Jq (w:World) (n:Nat) (y:n<=1000000):(Instr.makeSlice 99 (I6 (n:Int)) (I6 (n:Int))).run Tryz.prog w=.ok (.slice (some (a_ w.heap.size 0)) n n) (w.alloc (.cells (Nb (λ_=>0) n).toArray 5)):=by
 obtain⟨i,b,hz,hs,a⟩:=EV;have h:=run_make (P:=Tryz.prog) w 99 5 i (.int .u8 0) u_e b hz .i64 .i64 n n (by omega) (by omega) (by rw[a];omega) (by omega);rw[hs]at h;simp only[ZE,Nat.mul_one]at h;rw[show(Value.int .u8 0).cells=#[.int .u8 0] from rfl,SX]at h;exact h
def Px (f:Nat->Bool) (n:Nat):List UInt8:=(List.range n).map λi=>if f i then 1 else 0
def Wu (f:Nat->Bool) (n:Nat):ByteArray:=⟨(Px f n).toArray⟩
theorem E0 {g:N_}:Wu f n=Wu g n<->∀i,i<n->f i=g i:=by
 constructor
 ·intro h i a;have h1:Px f n=Px g n:=by
   have:=congrArg (λx=>x.data.toList) h;simpa[Wu]using this
  have h2:=congrArg (λl=>l[i]?) h1;simp only[Px,List.getElem?_map,List.getElem?_range a,Option.map_some,Zp]at h2;cases hf:f i<;>cases hg:g i<;>simp_all
 intro h;have:Px f n=Px g n:=ZO (λi a=>by rw[h i (by simpa using a)]);unfold Wu;rw[this]
theorem Ne (y:o.guard=none) (x:Operand)
  (Y:o.op=.convert 99 9 x) (g n cap:Nat) (l:List UInt8) (Z:a.eval x=sL g n cap) (J:l.length=n) (H:∀j (z:j<l.length),w.cell? (a_ g j)=some (.int .u8 (l[j].toNat:Int)))
  (h:wpList Tryz.prog ops Q rest (a.put o.dst (.string ⟨l.toArray⟩)) w):wpList Tryz.prog ops Q (o::rest) a w:=
 wpList_plain y λ_ b=>by
  subst J;have c:=run_convert_bytes_back (P:=Tryz.prog) w 99 9 5 (a_ g 0) cap l u_e u_g u_i (λj z=>by
   rw[Addr.add_lit,Zn];exact H j z)
  unfold Oper.wp execOp;simp only[Y,Sem.run_bind,Sem.run_pure,Zu,Z,c];exact b _ _ h
def Gz (f:Nat->Bool) (k i:Nat):UInt8:=if decide (i<k)&&f i then 1 else 0
theorem Ls (H:Option Addr) (n cap:Nat) (f:N_) (w:World) (Y:n<=1000000) (J:BR H f n w):
  Cp 56 #[.slice H n cap] w λe w'=>e=.returned (.string (Wu f n))/\Bl w w':=by
 have m:=Jq w n Y;have z:(n:Int)<=1000000:=by omega
 obtain⟨W,d⟩:=nam (w.alloc (.cells (Nb (λ_=>0) n).toArray 5));rw[<-d]at m;have T0:TC w.heap.size (Nb (Gz f 0) n) W:=by
  rw[d,Qz (g:=λ_=>0) (λi _=>by simp[Gz])];exact TC.boxed w _ _
 have B0:Bl w W:=by rw[d];exact box_bel _ _
 have s:Hid (∀w',Bl w w'->BR H f n w'):=λw' h=>J.below h
 clear J d;go_enter Tryz.func56,Tryz.ntmps56;go_wp2
 go_loopw [4] (λx w'=>∃i:Nat,i<=n/\x=I6 i/\TC w.heap.size (Nb (Gz f i) n) w'/\Bl w w') (λx _=>n-(intOf x).toNat)
 ·exact⟨0,by omega,rfl,T0,B0⟩
 clear T0 B0;obtain⟨i,D,rfl,T,B⟩:=hrel;by_cases a:i<n
 ·have q:(i:Int)<n:=by omega
  obtain⟨C,bo,y,cb⟩:=s.out wr B i a;subst y;obtain⟨v,fa⟩:=T i _ (FH _ a);have c:∀x,f i=x->Nb (Gz f (i+1)) n=Nb (λj=>if j=i then (if x then 1 else 0) else Gz f i j) n:=λx A=>Qz (λj b=>by
   by_cases e:j=i
   ·subst e;simp[Gz,A]
   have:decide (j<i+1)=decide (j<i):=by simp;omega
   simp[Gz,e,this])
  cases hf:f i
  ·have k:TC w.heap.size (Nb (Gz f (i+1)) n) wr:=by
    rw[c _ hf,Qz (g:=Gz f i) (λj b=>?_)]
    ·exact T
    by_cases e:j=i
    ·subst e;simp[Gz]
    simp[e]
   rw[hf]at cb;clear T c v fa;go_wp2;go_roundw
   ·exact⟨i+1,by omega,by go_num,k,B⟩
   simp[intOf];omega
  have k:TC w.heap.size (Nb (Gz f (i+1)) n) (wr.setCell (a_ w.heap.size i) (.int .u8 1)):=by
   rw[c _ hf];have:=T.set i (by rw[Ps];exact a) (.int .u8 1);have h2:=D4 (Gz f i) n i 1;rw[show((1:UInt8).toNat:Int)=1 from rfl]at h2;rw[h2]at this;exact this
  have r:Bl w (wr.setCell (a_ w.heap.size i) (.int .u8 1)):=B.setCell (p:=(a_ w.heap.size i)) (Zg _) _;rw[hf]at cb;clear T c B;go_wp2;go_roundw
  ·exact⟨i+1,by omega,by go_num,k,r⟩
  simp[intOf];omega
 have⟨hge,hin⟩:¬(i:Int)<n/\i=n:=by omega
 subst hin;have l:(Px f i).length=i:=by simp[Px]
 have o:∀j (b:j<(Px f i).length),wr.cell? (a_ w.heap.size j)=some (.int .u8 ((Px f i)[j].toNat:Int)):=λj b=>by
  rw[l]at b;rw[(T j _ (FH _ b)).1];simp[Px,Gz,b]
 have t:=hyd o;have u:=hyd l;clear T o l;go_wp2_with (first|(with_reducible show wpList _ _ _ (⟨_,Op.convert _ _ _,_,_,_,_⟩::_) _ _;refine Ne rfl _ rfl w.heap.size i i (Px f i) rfl u.out t.out ?_));go_ret;exact⟨rfl,B⟩
structure IE (pb N:Nat) (vd:Nat->Int) (nx:Nat->Nat->Int) (bs:List Nat) (w:World):Prop where
 v:∃va vc,w.cell? ⟨pb,0,none⟩=some (.slice va N vc)/\IL va vd N w
 n:∃na nc,w.cell? ⟨pb,1,none⟩=some (.slice na N nc)/\∀i,i<N->∃nb off ra rc,na=some ⟨nb,off,none⟩/\w.cell? ⟨nb,off+i,none⟩=some (.slice ra 256 rc)/\IL ra (nx i) 256 w
 b:∃ba bc,w.cell? ⟨pb,2,none⟩=some (.slice ba bs.length bc)/\IL ba (fun i=>(bs.getD i 0:Int)) bs.length w
theorem IE.below {vd:Nat->Int}{bs:List Nat} (h:IE pb N vd nx bs w) (y:Bl w w'):IE pb N vd nx bs w':=by
 obtain⟨s,vc,c0,l⟩:=h.v;obtain⟨q,nc,c1,m⟩:=h.n;obtain⟨ba,d,c2,o⟩:=h.b;have g:=Ze w _ c0;have e:∀k,w'.cell? (a_ pb k)=w.cell? (a_ pb k):=λk=>y.cell (p:=(a_ pb k)) g
 refine⟨⟨s,vc,by rw[e];exact c0,l.below y⟩,⟨q,nc,by rw[e];exact c1,λi j=>?_⟩,⟨ba,d,by rw[e];exact c2,o.below y⟩⟩;obtain⟨nb,a,ra,r,f,c,il⟩:=m i j;exact⟨nb,a,ra,r,f,by rw[y.cell (p:=(a_ nb (a+i))) (Ze w _ c)];exact c,il.below y⟩
def FP (N:Nat) (vd:Nat->Int) (i:Nat):Int:=if i=N then -1 else vd i
def Ud (N:Nat) (nx:Nat->Nat->Int) (i b:Nat):Nat:=if i=N\/nx i b<0 then N else (nx i b).toNat
theorem Fi (pb N:Nat) (vd:Nat->Int) (nx:Nat->Nat->Int) (bs:List Nat) (i:Nat) (w:World) (z:N<=1000000) (y:IE pb N vd nx bs w) (H:i<=N):
  Cp 60 #[pT pb,I6 i] w λe w'=>e=.returned (I6 (FP N vd i))/\w'=w:=by
 obtain⟨j,vc,c0,g⟩:=y.v;by_cases h:i=N
 ·have f:((i:Int)==(N:Int))=true:=by simp[h]
  have a:Hid (FP N vd i=-1):=by show _=_;simp[FP,h]
  go_enter Tryz.func60,Tryz.ntmps60;go_wp2;go_ret;exact⟨YY a.out.symm,rfl⟩
 have f:((i:Int)==(N:Int))=false:=by simp;omega
 have d:(i:Int)<N:=by omega
 obtain⟨b,o,e,c⟩:=g i (by omega);subst e;have a:Hid (FP N vd i=vd i):=by show _=_;simp[FP,h]
 go_enter Tryz.func60,Tryz.ntmps60;go_wp2;go_ret;exact⟨YY a.out.symm,rfl⟩
theorem Ol (pb N:Nat) (vd:Nat->Int) (nx:Nat->Nat->Int) (bs:List Nat) (i b:Nat) (w:World) (H:N<=1000000) (y:IE pb N vd nx bs w) (J:i<=N) (z:b<256):
  Cp 30 #[pT pb,I6 i,I6 b] w λe w'=>e=.returned (I6 (Ud N nx i b))/\w'=w:=by
 obtain⟨r,vc,c0,_⟩:=y.v;obtain⟨o,nc,c1,k⟩:=y.n;have f:(b:Int)<256:=by omega
 by_cases h:i=N
 ·have j:((i:Int)==(N:Int))=true:=by simp[h]
  have a:Hid ((Ud N nx i b:Int)=N):=by show _=_;simp[Ud,h]
  go_enter Tryz.func30,Tryz.ntmps30;go_wp2;go_ret;exact⟨YY a.out.symm,rfl⟩
 have j:((i:Int)==(N:Int))=false:=by simp;omega
 have g:(i:Int)<N:=by omega
 obtain⟨nb,l,ra,p,e,c,il⟩:=k i (by omega);subst e;obtain⟨rb,q,e,m⟩:=il b z;subst e;by_cases d:nx i b<0
 ·have a:Hid ((Ud N nx i b:Int)=N):=by show _=_;simp[Ud,d]
  go_enter Tryz.func30,Tryz.ntmps30;go_wp2;go_ret;exact⟨YY a.out.symm,rfl⟩
 have a:Hid ((Ud N nx i b:Int)=nx i b):=by show _=_;simp only[Ud,h,d,or_self,if_false];omega
 go_enter Tryz.func30,Tryz.ntmps30;go_wp2;go_ret;exact⟨YY a.out.symm,rfl⟩
def TB (ta:Option Addr) (N:Nat) (t:Nat->Nat->Bool) (w:World):Prop:=∀i,i<=N->∃tb off ra rc,ta=some ⟨tb,off,none⟩/\w.cell? ⟨tb,off+i,none⟩=some (.slice ra (N+1) rc)/\BR ra (t i) (N+1) w
def VH (N:Nat) (nx:Nat->Nat->Int) (bs:List Nat) (t:Nat->Nat->Bool) (i j m:Nat):Bool:=(bs.take m).any λb=>t (Ud N nx i b) (Ud N nx j b)
theorem I9 {bs:List Nat}{t:Nat->N_} (h:bs[m]?=some b):VH N nx bs t i j (m+1)=(VH N nx bs t i j m || t (Ud N nx i b) (Ud N nx j b)):=by
 unfold VH;rw[List.take_add_one,h];simp
theorem ON (h:i<N->nx i b<N) (y:i<=N):Ud N nx i b<=N:=by
 unfold Ud;split
 ·omega
 have:=h (by omega);omega
theorem GK (pb N:Nat) (vd:Nat->Int) (nx:Nat->Nat->Int) (bs:List Nat) (ta:Option Addr) (tc:Nat) (t:Nat->N_) (i j:Nat) (w:World) (hN:N<=1000000) (hP:IE pb N vd nx bs w) (hT:TB ta N t w) (hi:i<=N) (hj:j<=N) (aa:∀(k b:Nat),bs[k]?=some b->b<256) (hl:bs.length<=256) (Z:∀i b,i<N->b<256->nx i b<N):
  Cp 61 #[pT pb,.slice ta (N+1) tc,I6 i,I6 j] w λe w'=>e=.returned (.bool (VH N nx bs t i j bs.length))/\w'=w:=by
 have l:Hid (∀(i b:Nat),i<=N->b<256->Cp 30 #[pT pb,I6 i,I6 b] w λe w'=>e=.returned (I6 (Ud N nx i b))/\w'=w):=λi b h1 h2=>Ol pb N vd nx bs i b w hN hP h1 h2
 obtain⟨ba,L,c2,D⟩:=hP.b;obtain⟨m,z⟩:=nam bs.length;rw[<-z]at c2 hl ⊢;have J:(m:Int)<=256:=by omega
 have E:Hid (∀(k b:Nat),bs[k]?=some b->∃g o,ba=some (a_ g o)/\w.cell? (a_ g (o+k))=some (I6 b)):=λk b y=>by
  have h1:=(Zi.1 y).1;obtain⟨g,o,e,c⟩:=D k h1;refine⟨g,o,e,?_⟩;simp only[Zf,y,Option.getD_some]at c;exact c
 have G:=hyd z;have F:=hyd hT;clear hP D z hT;go_enter Tryz.func61,Tryz.ntmps61;go_wp2
 go_loop [9] (λx=>∃k:Nat,k<=m/\x=I6 k/\Hid (VH N nx bs t i j k=false)) (λx=>m-(intOf x).toNat)
 ·exact⟨0,by omega,rfl,by show _=_;simp[VH]⟩
 obtain⟨k,y,rfl,n⟩:=hrel;by_cases I:k<m
 ·have C:(k:Int)<m:=by omega
  obtain⟨b,r⟩:∃b,bs[k]?=some b:=⟨bs[k]'(by have:=G.out;omega),Zd _⟩;have d:=aa k b r;obtain⟨g,o,e,cb⟩:=E.out k b r;subst e;have x1:=l.out i b hi d;have x2:=l.out j b hj d;obtain⟨X,p⟩:=nam (Ud N nx i b);obtain⟨Y,q⟩:=nam (Ud N nx j b);have v:X<=N:=by rw[p];exact ON (λh=>Z i b h d) hi
  have H:Y<=N:=by rw[q];exact ON (λh=>Z j b h d) hj
  have HS:Hid (VH N nx bs t i j (k+1)=t X Y):=by show _=_;rw[I9 r,n.out,p,q];simp
  rw[<-p]at x1;rw[<-q]at x2;have s:=hyd x1;have u:=hyd x2;obtain⟨tb,to,ra,O,e,M,A⟩:=F.out X v;subst e;obtain⟨rb,P,e,B⟩:=A Y (by omega);subst e;have a:Hid (VH N nx bs t i j (k+1)=true->VH N nx bs t i j m=true):=λh=>by
   unfold VH at h ⊢;rw[List.any_eq_true]at h ⊢;obtain⟨x,K,h⟩:=h;refine⟨x,?_,h⟩;exact List.mem_of_mem_take (i:=k+1) (by rw[List.take_take,Nat.min_eq_left (by omega)];exact K)
  clear x1 x2 p q A r;go_wp2_with fail;refine s.out.mono ?_;rintro en w' ⟨rfl,rfl⟩;go_wp2_with fail;refine u.out.mono ?_;rintro en w' ⟨rfl,rfl⟩;cases hxy:t X Y
  ·rw[hxy]at B;have f:Hid (VH N nx bs t i j (k+1)=false):=by show _=_;rw[HS.out,hxy]
   clear n a HS;go_wp2
   go_round
   ·exact⟨k+1,by omega,by go_num,f⟩
   simp[intOf];omega
  rw[hxy]at B;have f:=hyd (a.out (by rw[HS.out,hxy]));clear n a HS;go_wp2;go_ret;exact⟨YN f.out.symm,rfl⟩
 have⟨hge,hkm⟩:¬(k:Int)<m/\k=m:=by omega
 subst hkm;go_wp2;go_ret;exact⟨YN n.out.symm,rfl⟩
structure QM (base tb N:Nat) (rk:Nat->Nat) (t:Nat->Nat->Bool) (m:Nat) (w:World):Prop where
 c:∀i,i<m->w.cell? ⟨tb,i,none⟩=some (.slice (some ⟨rk i,0,none⟩) (N+1) (N+1))
 z:∀i,m<=i->i<N+1->w.cell? ⟨tb,i,none⟩=some (.slice none 0 0)
 f:∀i,i<N+1->w.frozen? ⟨tb,i,none⟩=false
 r:∀i,i<m->TC (rk i) (bl (t i) (N+1)) w
 inj:∀i j,i<m->j<m->rk i=rk j->i=j
 ne:∀i,i<m->rk i≠tb/\base<=rk i
theorem QM.tb {tb:Nat}{t:Nat->N_} (h:QM base tb N rk t (N+1) w):TB (some (a_ tb 0)) N t w:=λi b=>by
 refine⟨tb,0,_,_,rfl,by rw[Zn];exact h.c i (by omega),λj a=>⟨rk i,0,rfl,?_⟩⟩;rw[Zn];exact(h.r i (by omega) j _ (YO _ a)).1
variable {tb:Nat}
theorem QM.keep {t:Nat->N_} (h:QM base tb N rk t m w) (h0:w'.heap[tb]?=w.heap[tb]?) (y:∀i,i<m->w'.heap[rk i]?=w.heap[rk i]?):QM base tb N rk t m w':=
 ⟨λi b=>by rw[World.cell?_of_block (w:=w) (a:=(a_ tb i)) h0];exact h.c i b,
  λi h1 h2=>by rw[World.cell?_of_block (w:=w) (a:=(a_ tb i)) h0];exact h.z i h1 h2,
  λi b=>by rw[World.frozen?_of_block (w:=w) (a:=(a_ tb i)) h0];exact h.f i b,
  λi b=>(h.r i b).block (y i b),h.inj,h.ne⟩
theorem QM.congr {t t':Nat->N_} (h:QM base tb N rk t m w) (e:∀i j,i<m->j<N+1->t i j=t' i j):QM base tb N rk t' m w:=
 ⟨h.c,h.z,h.f,λi a=>by rw[<-YU (f:=t i) (λj b=>e i j a b)];exact h.r i a,h.inj,h.ne⟩
def C7 (t:Nat->Nat->Bool) (i j:Nat) (x:Bool) (a b:Nat):Bool:=if a=i/\b=j then x else t a b
theorem QM.set {t:Nat->N_} (h:QM base tb N rk t m w) {i j:Nat} (y:i<m) (H:j<N+1) (x:Bool):QM base tb N rk (C7 t i j x) m (w.setCell (a_ (rk i) j) (.bool x)):=by
 have d:∀k,k≠rk i->(w.setCell (a_ (rk i) j) (.bool x)).heap[k]?=w.heap[k]?:=λk l=>Zq w (a_ (rk i) j) _ k (λe=>l e)
 have h0:=d tb (λe=>(h.ne i y).1 e.symm);refine⟨λa ha=>?_,λa h1 h2=>?_,λa ha=>?_,λa ha=>?_,h.inj,h.ne⟩
 ·rw[World.cell?_of_block (w:=w) (a:=(a_ tb a)) h0];exact h.c a ha
 ·rw[World.cell?_of_block (w:=w) (a:=(a_ tb a)) h0];exact h.z a h1 h2
 ·rw[World.frozen?_of_block (w:=w) (a:=(a_ tb a)) h0];exact h.f a ha
 by_cases e:a=i
 ·subst e;have:=(h.r a ha).set j (by rw[Y9];exact H) (.bool x);rw[Uz]at this;rw[YU (g:=λb=>if b=j then x else t a b) (λb d=>?_)]
  ·exact this
  simp[C7]
 rw[YU (g:=t a) (λb d=>by simp[C7,e])];exact(h.r a ha).block (d _ (λe'=>e (h.inj a i ha y e')))
theorem QM.blk {t:Nat->N_} (h:QM base tb N rk t m w):∀i,i<m->rk i<w.heap.size:=λi a=>Ze w _ ((h.r i a) 0 _ (YO _ (by omega))).1
theorem QM.row {t:Nat->N_} (h:QM base tb N rk t m w) (J:m<N+1) (Y:tb<w.heap.size) (H:base<=w.heap.size) (y:TypeId):
  QM base tb N (λa=>if a=m then w.heap.size else rk a) (λa b=>if a=m then false else t a b) (m+1) ((w.alloc (.cells (bl (λ_=>false) (N+1)).toArray y)).setCell (a_ tb m) (.slice (some (a_ w.heap.size 0)) (N+1) (N+1))):=by
 obtain⟨W,n⟩:=nam (w.alloc (.cells (bl (λ_=>false) (N+1)).toArray y));have B:Bl w W:=by rw[n];exact box_bel _ _
 have T:TC w.heap.size (bl (λ_=>false) (N+1)) W:=by rw[n];exact TC.boxed w _ _
 have h1:=h.keep (B.block tb Y) (λi q=>B.block (rk i) (h.blk i q));have g:w.heap.size≠tb:=by omega
 rw[<-n];have j:∀k,k≠tb->(W.setCell (a_ tb m) (.slice (some (a_ w.heap.size 0)) (N+1) (N+1))).heap[k]?=W.heap[k]?:=λk j=>Zq W (a_ tb m) _ k (λe=>j e)
 have o:=h1.z m (Zg _) J;have d:∀a,a≠m->(W.setCell (a_ tb m) (.slice (some (a_ w.heap.size 0)) (N+1) (N+1))).cell? (a_ tb a)=W.cell? (a_ tb a):=λa ha=>World.cell?_setCell_other _ (a_ tb m) (a_ tb a) _ (λe=>ha (by cases e;rfl))
 refine⟨λa ha=>?_,λa h2 h3=>?_,λa ha=>?_,λa ha=>?_,λa b ha p e=>?_,λa ha=>?_⟩
 ·by_cases e:a=m
  ·subst e;simp only[if_true];exact World.cell?_setCell_same _ _ _ o
  simp only[e,if_false];rw[d a e];exact h1.c a (by omega)
 ·rw[d a (by omega)];exact h1.z a (by omega) h3
 ·rw[World.frozen?_setCell];exact h1.f a ha
 ·by_cases e:a=m
  ·subst e;simp only[if_true];exact T.block (j _ g)
  simp only[e,if_false];exact(h1.r a (by omega)).block (j _ (h1.ne a (by omega)).1)
 ·by_cases l:a=m
  ·by_cases e2:b=m
   ·omega
   simp only[l,e2,if_true,if_false]at e;have:=h.blk b (by omega);omega
  by_cases e2:b=m
  ·simp only[l,e2,if_true,if_false]at e;have:=h.blk a (by omega);omega
  simp only[l,e2,if_false]at e;exact h.inj a b (by omega) (by omega) e
 by_cases e:a=m
 ·simp only[e,if_true];exact⟨g,H⟩
 simp only[e,if_false];exact h.ne a (by omega)
end Go.Proofs.YtoaaklhpmhjhkaaGreat
