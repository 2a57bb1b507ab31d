import Derived.Deep.MidRow
import Derived.Test.YtoaaklhpmhjhkaaGreatC10
set_option maxRecDepth 100000
set_option maxHeartbeats 4000000
set_option linter.all false
namespace Go.Proofs.YtoaaklhpmhjhkaaGreat
open Go.RowKit
def Ys (f:Nat->Bool):List Value:=(List.range 256).map λk=>.bool (f k)
theorem YW (f:N_):(Ys f).length=256:=by simp[Ys]
theorem Ix (f:N_) (j:Nat) (v:Value) (h:(Ys f)[j]?=some v):j<256/\v=.bool (f j):=by
 obtain⟨b,h2⟩:=Zi.1 h;have a:j<256:=by rw[YW]at b;exact b
 refine⟨a,?_⟩;rw[<-h2];simp[Ys]
theorem OA (f:N_) (j:Nat) (h:j<256):(Ys f)[j]?=some (.bool (f j)):=by simp[Ys,h]
theorem XF (f:N_):∀v∈Ys f,v.oneCell'=true:=by
 intro v a;simp only[Ys,List.mem_map]at a;obtain⟨j,_,rfl⟩:=a;rfl
theorem OZ (w:World):(zeroValue 251).run Tryz.prog w=.ok (.agg (Ys λ_=>false).toArray) w:=by
 have h:(Tryz.prog.info? 251).bind (·.zero)=some (.agg (Ys λ_=>false).toArray):=by kernel_rfl
 cases hq:Tryz.prog.info? 251 with
 |none=>rw[hq]at h;cases h
 |some i=>rw[hq]at h;simp at h;simp[zeroValue,typeInfo,hq,h]
theorem YI:(Tryz.prog.info? 251).map (·.size)=some 256:=by kernel_rfl
variable {tmps:Array Value}{fn:Func}{fa kd le mo pl:Int}{B g j:Nat}{f:N_}{v:Value}{w w':World}
theorem Yb.range (h:Yb g f w):w.rangeAt g 0 (Ys f):=λj v b=>by
 obtain⟨a,rfl⟩:=Ix f j v b;rw[Zn];exact(h j a).1
theorem Yb.boxed (w:World) (f:N_) (t:TypeId):Yb w.heap.size f (w.alloc (.cells (Ys f).toArray t)):=λk a=>by
 refine⟨?_,?_⟩
 ·rw[Zm];simp[OA f k a]
 go_simp
theorem Yb.there (h:Yb g f w):w.there g 0 256:=λj a=>by
 rw[Zn];exact⟨by rw[(h j a).1];rfl,(h j a).2⟩
theorem Yb.alloc (h:Yb g f w) (o:Obj):Yb g f (w.alloc o):=λk a=>by
 have b:=Ze w _ (h k a).1;exact⟨by rw[World.cell?_alloc_lt _ _ _ b];exact(h k a).1,by rw[World.frozen?_alloc_past _ _ _ b];exact(h k a).2⟩
theorem Yb.other {y:Nat} (h:Yb g f w) (z:g≠y) (v:Value):Yb g f (w.setCell (a_ y j) v):=λk d=>by
 obtain⟨a,c⟩:=h k d;exact⟨by rw[World.cell?_setCell_other _ _ _ _ (by intro b;cases b;exact z rfl)];exact a,by rw[World.frozen?_setCell];exact c⟩
variable {p:Tmp}
theorem M4 {y:TypeId} (h:fn.results=#[.cell p y]) (tmps:Array Value) (P:Program) (w:World):
  (results fn tmps).run P w=((asAddr (tmps.getD p undef)).run P w).andThen λa w₁=>(loadVar y a).run P w₁:=by
 simp only[results,h];simp[Sem.run_bind,Result.andThen]
variable {u:Tmp}
theorem M5 {x:Tmp}{y:TypeId} (h:fn.results=#[.cell p y,.tmp u,.tmp x]) (tmps:Array Value) (P:Program) (w:World):
  (results fn tmps).run P w=((asAddr (tmps.getD p undef)).run P w).andThen λa w₁=>((loadVar y a).run P w₁).andThen λv w₂=>.ok (.tuple #[v,tmps.getD u undef,tmps.getD x undef]) w₂:=by
 simp only[results,h];simp[Sem.run_bind,Result.andThen]
theorem Sf {y:TypeId}{P:Program}{ad:Addr} (h:fn.results=#[.cell p y]) (H:tmps.getD p undef=.pointer (some ad)) (z:(loadVar y ad).run P w=.ok v w):
  (results fn tmps).run P w=.ok v w:=by
 rw[M4 h,H];simp[asAddr,z]
theorem YM {x:Tmp}{y:TypeId}{P:Program}{ad:Addr}{b c:Value} (h:fn.results=#[.cell p y,.tmp u,.tmp x]) (Y:tmps.getD p undef=.pointer (some ad)) (J:(loadVar y ad).run P w=.ok v w) (z:tmps.getD u undef=b) (H:tmps.getD x undef=c):
  (results fn tmps).run P w=.ok (.tuple #[v,b,c]) w:=by
 rw[M5 h,Y];subst z;subst H;simp[asAddr,J]
def Ue (f:Nat->Bool) (a b:Int) (n:Nat):Nat->Bool:=λk=>f k || (decide (k<n)&&(decide (a<=(k:Int))&&decide ((k:Int)<=b)))
theorem Wm (f:N_) (a b:Int) (w:World):
  Cp 213 #[.agg (Ys f).toArray,I6 a,I6 b] w λe w'=>e=.returned (.agg (Ys (Pg.withF f a b)).toArray)/\Bl w w':=by
 have hz:=OZ (w.alloc (Obj.cells (Ys f).toArray 251));have g:=(Yb.boxed w f 251).alloc (Obj.cells (Ys λ_=>false).toArray 251);have c:=Yb.boxed (w.alloc (Obj.cells (Ys f).toArray 251)) (λ_=>false) 251;have h:Bl w ((w.alloc (Obj.cells (Ys f).toArray 251)).alloc (Obj.cells (Ys λ_=>false).toArray 251)):=((Zk _ _).alloc (Zg _) _).alloc (by simp) _;rw[show(w.alloc (Obj.cells (Ys f).toArray 251)).heap.size=w.heap.size+1 by simp]at c;go_enter Tryz.func213,Tryz.ntmps213;go_wp2;clear hz
 go_loopw [7] (λi w'=>∃k:Nat,k<=256/\i=I6 k/\Yb w.heap.size (Ue f a b k) w'/\Yb (w.heap.size+1) (λ_=>false) w'/\Bl w w') (λi _=>256-(intOf i).toNat)
 ·exact⟨0,by omega,rfl,g.congr (λk _=>by simp[Ue]),c,h⟩
 clear g c h;obtain⟨k,z,rfl,d,n,o⟩:=hrel;by_cases m:k<256
 ·obtain⟨t,u⟩:=d k m;by_cases ha:a<=(k:Int)
  ·by_cases r:(k:Int)<=b
   ·have p:=d.set k m true;have q:=n.other (j:=k) (show w.heap.size+1≠w.heap.size by omega) (.bool true);go_wp2;go_roundw
    ·refine⟨k+1,by omega,by go_num,p.congr (λj _=>?_),q,o.trans (Yp _ _ _ _)⟩;by_cases e:j=k
     ·subst e;simp[Ue,ha,r]
     simp only[if_neg e,Ue,show decide (j<k+1)=decide (j<k) by simp;omega]
    simp[intOf];omega
   go_wp2;go_roundw
   ·refine⟨k+1,by omega,by go_num,d.congr (λj _=>?_),n,o⟩;by_cases e:j=k
    ·subst e;simp[Ue,r]
    simp only[Ue,show decide (j<k+1)=decide (j<k) by simp;omega]
   simp[intOf];omega
  go_wp2;go_roundw
  ·refine⟨k+1,by omega,by go_num,d.congr (λj _=>?_),n,o⟩;by_cases e:j=k
   ·subst e;simp[Ue,ha]
   simp only[Ue,show decide (j<k+1)=decide (j<k) by simp;omega]
  simp[intOf];omega
 have x:=(d.congr (f':=Pg.withF f a b) (λj y=>by simp[Ue,Pg.withF,show j<k by omega])).range;have s:=n.there;go_wp2_with (first|(refine Zb rfl 251 _ rfl _ _ rfl (Ys (Pg.withF f a b)) _ x u_c rfl (by rw[YW];exact YI) ?_)|(refine Za rfl 251 _ _ rfl _ _ _ rfl rfl (by simpa[YW]using s) (by simpa[YW]using YI) (Zj (XF _)) ?_));have l:=ZF (P:=Tryz.prog) (wr.setCells (w.heap.size+1) 0 (Ys (Pg.withF f a b))) (w.heap.size+1) 0 251 (Ys (Pg.withF f a b)) _ (Zo _ _ _ _ (by rw[YW];exact s)) u_c rfl (by rw[YW];exact YI);refine Zr (v:=.agg (Ys (Pg.withF f a b)).toArray) ?_ rfl ⟨rfl,o.trans (Y6 _ _ 0 (by omega) _ _ _)⟩;exact Sf Tryz.results213 (by simp[Act.put]) l
def Vb (f:Nat->Bool) (n:Nat):Nat->Bool:=λk=>if k<n then !f k else f k
theorem Oc (f:N_) (w:World):
  Cp 214 #[.agg (Ys f).toArray] w λe w'=>e=.returned (.agg (Ys λk=>!f k).toArray)/\Bl w w':=by
 have hz:=OZ (w.alloc (Obj.cells (Ys f).toArray 251));have b:=(Yb.boxed w f 251).alloc (Obj.cells (Ys λ_=>false).toArray 251);have a:=Yb.boxed (w.alloc (Obj.cells (Ys f).toArray 251)) (λ_=>false) 251;have c:Bl w ((w.alloc (Obj.cells (Ys f).toArray 251)).alloc (Obj.cells (Ys λ_=>false).toArray 251)):=((Zk _ _).alloc (Zg _) _).alloc (by simp) _;rw[show(w.alloc (Obj.cells (Ys f).toArray 251)).heap.size=w.heap.size+1 by simp]at a;go_enter Tryz.func214,Tryz.ntmps214;go_wp2;clear hz
 go_loopw [3] (λi w'=>∃k:Nat,k<=256/\i=I6 k/\Yb w.heap.size (Vb f k) w'/\Yb (w.heap.size+1) (λ_=>false) w'/\Bl w w') (λi _=>256-(intOf i).toNat)
 ·exact⟨0,by omega,rfl,b.congr (λk _=>by simp[Vb]),a,c⟩
 clear b a c;obtain⟨k,x,rfl,h,o,p⟩:=hrel;by_cases g:k<256
 ·obtain⟨n,s⟩:=h k g;have q:Vb f k k=f k:=by simp[Vb]
  rw[q]at n;clear q;have l:=h.set k g (!f k);have m:=o.other (j:=k) (show w.heap.size+1≠w.heap.size by omega) (.bool (!f k));go_wp2;go_roundw
  ·refine⟨k+1,by omega,by go_num,l.congr (λj _=>?_),m,p.trans (Yp _ _ _ _)⟩;by_cases e:j=k
   ·subst e;simp[Vb]
   simp only[if_neg e,Vb,show(j<k+1)=(j<k) by simp;omega]
  simp[intOf];omega
 have t:=(h.congr (f':=λj=>!f j) (λj u=>by simp[Vb,show j<k by omega])).range;have r:=o.there;go_wp2_with (first|(refine Zb rfl 251 _ rfl _ _ rfl (Ys λj=>!f j) _ t u_c rfl (by rw[YW];exact YI) ?_)|(refine Za rfl 251 _ _ rfl _ _ _ rfl rfl (by simpa[YW]using r) (by simpa[YW]using YI) (Zj (XF _)) ?_));have d:=ZF (P:=Tryz.prog) (wr.setCells (w.heap.size+1) 0 (Ys λj=>!f j)) (w.heap.size+1) 0 251 (Ys λj=>!f j) _ (Zo _ _ _ _ (by rw[YW];exact r)) u_c rfl (by rw[YW];exact YI);refine Zr (v:=.agg (Ys λj=>!f j).toArray) ?_ rfl ⟨rfl,p.trans (Y6 _ _ 0 (by omega) _ _ _)⟩;exact Sf Tryz.results214 (by simp[Act.put]) d
theorem Mg (f:N_) (k:Nat) (h:f k=true):∀n,k<n->0<Rf.cntTo f n
 |0,hn=>by omega
 |n+1,hn=>by
  unfold Rf.cntTo;by_cases e:k=n
  ·subst e;simp[h]
  have:=Mg f k h n (by omega);omega
theorem Ke (f:N_) (w:World):
  Cp 197 #[.agg (Ys f).toArray] w λe w'=>e=.returned (.bool (Rf.cntTo f 256==0))/\Bl w w':=by
 have j:=Yb.boxed w f 251;go_enter Tryz.func197,Tryz.ntmps197;go_wp2
 go_loop [3] (λi=>∃k:Nat,k<=256/\i=I6 k/\Hid (Rf.cntTo f k=0)) (λi=>256-(intOf i).toNat)
 ·exact⟨0,by omega,rfl,rfl⟩
 obtain⟨k,m,rfl,g⟩:=hrel;by_cases b:k<256
 ·obtain⟨a,l⟩:=j k b;cases hf:f k
  ·rw[hf]at a;have c:Hid (Rf.cntTo f (k+1)=0):=by show _=_;simp[Rf.cntTo,hf,g.out]
   go_wp2
   go_round
   ·exact⟨k+1,by omega,by go_num,c⟩
   simp[intOf];omega
  rw[hf]at a;have h:=hyd (Mg f k hf 256 b);go_wp2;go_ret;exact⟨YN (by have:=h.out;exact(beq_eq_false_iff_ne.2 (by omega)).symm),(Zk _ _).alloc (Zg _) _⟩
 have d:k=256:=by omega
 subst d;go_wp2;go_ret;exact⟨YN (by rw[g.out];rfl),(Zk _ _).alloc (Zg _) _⟩
def YX (kd pl:Int) (f:Nat->Bool) (le mo fa:Int):List Value:=.int .i64 kd::.int .i64 pl::(Ys f++[.int .i64 le,.int .i64 mo,.int .i64 fa])
theorem Ya (kd pl:Int) (f:N_) (le mo fa:Int):(YX kd pl f le mo fa).length=261:=by simp[YX,YW]
theorem Qt (kd pl:Int) (f:N_) (le mo fa:Int):∀v∈YX kd pl f le mo fa,v.oneCell'=true:=by
 intro v a;simp only[YX,ZR,ZU,List.not_mem_nil,or_false]at a;rcases a with rfl|rfl|h|rfl|rfl|rfl
 ·rfl
 ·rfl
 ·exact XF f v h
 ·rfl
 ·rfl
 rfl
theorem XP (w:World):(zeroValue 261).run Tryz.prog w=.ok (.agg (YX 0 0 (λ_=>false) 0 0 0).toArray) w:=by
 have h:(Tryz.prog.info? 261).bind (·.zero)=some (.agg (YX 0 0 (λ_=>false) 0 0 0).toArray):=by kernel_rfl
 cases hq:Tryz.prog.info? 261 with
 |none=>rw[hq]at h;cases h
 |some i=>rw[hq]at h;simp at h;simp[zeroValue,typeInfo,hq,h]
theorem Qn:(Tryz.prog.info? 261).map (·.size)=some 261:=by kernel_rfl
structure YF (g:Nat) (kd pl:Int) (f:Nat->Bool) (le mo fa:Int) (w:World):Prop where
 at_:w.rangeAt g 0 (YX kd pl f le mo fa)
 free:w.there g 0 261
theorem Vd (kd pl:Int) (f:N_) (le mo fa:Int):(YX kd pl f le mo fa)[0]?=some (I6 kd):=rfl
theorem Oh (kd pl:Int) (f:N_) (le mo fa:Int):(YX kd pl f le mo fa)[1]?=some (I6 pl):=rfl
theorem Oi (kd pl:Int) (f:N_) (le mo fa:Int) (j:Nat) (y:j<256):(YX kd pl f le mo fa)[2+j]?=some (.bool (f j)):=by
 rw[show 2+j=j+1+1 by omega];simp only[YX,List.getElem?_cons_succ];rw[Zv (by rw[YW];exact y),OA f j y]
theorem VZ (kd pl:Int) (f:N_) (le mo fa:Int) (j:Nat):(YX kd pl f le mo fa)[258+j]?=[Value.int .i64 le,I6 mo,I6 fa][j]?:=by
 rw[show 258+j=(256+j)+1+1 by omega];simp only[YX,List.getElem?_cons_succ];rw[ZG (by rw[YW];omega),YW,show 256+j-256=j by omega]
theorem Vs (h0:w.cell? (a_ g 0)=some (I6 kd)) (h1:w.cell? (a_ g 1)=some (I6 pl))
  (h2:∀j,j<256->w.cell? (a_ g (2+j))=some (.bool (f j))) (h3:w.cell? (a_ g 258)=some (I6 le)) (y:w.cell? (a_ g 259)=some (I6 mo)) (z:w.cell? (a_ g 260)=some (I6 fa)):
  w.rangeAt g 0 (YX kd pl f le mo fa):=λj v a=>by
 have k:j<261:=by have:=(Zi.1 a).1;rw[Ya]at this;exact this
 rw[Zn];rcases ZD j 2 with e|d
 ·rcases ZD j 1 with h|h
  ·have:j=0:=by omega
   subst this;rw[Vd]at a;rw[h0];exact a
  have:j=1:=by omega
  subst this;rw[Oh]at a;rw[h1];exact a
 rcases ZD j 258 with c|b
 ·obtain⟨i,rfl⟩:∃i,j=2+i:=⟨j-2,by omega⟩;rw[Oi _ _ _ _ _ _ i (by omega)]at a;rw[h2 i (by omega)];exact a
 obtain⟨i,rfl⟩:∃i,j=258+i:=⟨j-258,by omega⟩;rw[VZ]at a;have:i=0\/i=1\/i=2:=by omega
 rcases this with rfl|rfl|rfl
 ·rw[h3];exact a
 ·rw[y];exact a
 rw[z];exact a
section
variable {g:Nat} {kd pl:Int} {f:N_} {le mo fa:Int} {w:World}
theorem YF.c0 (h:YF g kd pl f le mo fa w):w.cell? (a_ g 0)=some (I6 kd):=by have:=h.at_ 0 _ (Vd ..);rwa [Zn]at this
theorem YF.c1 (h:YF g kd pl f le mo fa w):w.cell? (a_ g 1)=some (I6 pl):=by have:=h.at_ 1 _ (Oh ..);rwa [Zn]at this
theorem YF.c2 (h:YF g kd pl f le mo fa w) (j:Nat) (y:j<256):w.cell? (a_ g (2+j))=some (.bool (f j)):=by have:=h.at_ (2+j) _ (Oi _ _ _ _ _ _ j y);rwa [Zn]at this
theorem YF.c3 (h:YF g kd pl f le mo fa w):w.cell? (a_ g 258)=some (I6 le):=by have:=h.at_ (258+0) (I6 le) (by rw[VZ];rfl);rwa [Zn]at this
theorem YF.c4 (h:YF g kd pl f le mo fa w):w.cell? (a_ g 259)=some (I6 mo):=by have:=h.at_ (258+1) (I6 mo) (by rw[VZ];rfl);rwa [Zn]at this
theorem YF.c5 (h:YF g kd pl f le mo fa w):w.cell? (a_ g 260)=some (I6 fa):=by have:=h.at_ (258+2) (I6 fa) (by rw[VZ];rfl);rwa [Zn]at this
theorem YF.fr (h:YF g kd pl f le mo fa w) (j:Nat) (y:j<261):w.frozen? (a_ g j)=false:=by have:=(h.free j y).2;rwa [Zn]at this
theorem YF.set (h:YF g kd pl f le mo fa w):w.rangeAt g 2 (Ys f):=λj v b=>by
 obtain⟨a,rfl⟩:=Ix f j v b;exact h.c2 j a
theorem YF.setFree (h:YF g kd pl f le mo fa w):w.there g 2 256:=λj a=>by
 have:=h.free (2+j) (by omega);rwa [Zn]at this
theorem UE (h:w.there g 0 261) (b k:Nat) (v:Value):(w.setCell (a_ b k) v).there g 0 261:=World.there_setCells (o':=0) (n:=261) h b k [v]
theorem YF.put2 (h:YF g kd pl f le mo fa w) (f':N_):YF g kd pl f' le mo fa (w.setCells g 2 (Ys f')):=by
 refine⟨Vs ?_ ?_ (λj a=>?_) ?_ ?_ ?_,World.there_setCells h.free _ _ _⟩
 ·rw[World.cell?_setCells_out _ _ _ _ _ (λ_ _=>Or.inl (by simp))];exact h.c0
 ·rw[World.cell?_setCells_out _ _ _ _ _ (λ_ _=>Or.inl (by simp))];exact h.c1
 ·have:=Zo w g 2 (Ys f') (by rw[YW];exact h.setFree) j _ (OA f' j a);exact this
 ·rw[World.cell?_setCells_out _ _ _ _ _ (λ_ _=>Or.inr (by rw[YW];simp))];exact h.c3
 ·rw[World.cell?_setCells_out _ _ _ _ _ (λ_ _=>Or.inr (by rw[YW];simp))];exact h.c4
 rw[World.cell?_setCells_out _ _ _ _ _ (λ_ _=>Or.inr (by rw[YW];simp))];exact h.c5
theorem Yf (w:World) (g i j:Nat) (v:Value) (h:i≠j):(w.setCell (a_ g i) v).cell? (a_ g j)=w.cell? (a_ g j):=
 World.cell?_setCell_other _ _ _ _ (by intro e;cases e;exact h rfl)
theorem YF.put3 (h:YF g kd pl f le mo fa w) (x:Int):YF g kd pl f x mo fa (w.setCell (a_ g 258) (I6 x)):=by
 refine⟨Vs ?_ ?_ (λj a=>?_) ?_ ?_ ?_,UE h.free _ _ _⟩
 ·rw[Yf _ _ _ _ _ (by omega)];exact h.c0
 ·rw[Yf _ _ _ _ _ (by omega)];exact h.c1
 ·rw[Yf _ _ _ _ _ (by omega)];exact h.c2 j a
 ·exact World.cell?_setCell_same _ _ _ h.c3
 ·rw[Yf _ _ _ _ _ (by omega)];exact h.c4
 rw[Yf _ _ _ _ _ (by omega)];exact h.c5
theorem YF.put4 (h:YF g kd pl f le mo fa w) (x:Int):YF g kd pl f le x fa (w.setCell (a_ g 259) (I6 x)):=by
 refine⟨Vs ?_ ?_ (λj a=>?_) ?_ ?_ ?_,UE h.free _ _ _⟩
 ·rw[Yf _ _ _ _ _ (by omega)];exact h.c0
 ·rw[Yf _ _ _ _ _ (by omega)];exact h.c1
 ·rw[Yf _ _ _ _ _ (by omega)];exact h.c2 j a
 ·rw[Yf _ _ _ _ _ (by omega)];exact h.c3
 ·exact World.cell?_setCell_same _ _ _ h.c4
 rw[Yf _ _ _ _ _ (by omega)];exact h.c5
theorem YF.put5 (h:YF g kd pl f le mo fa w) (x:Int):YF g kd pl f le mo x (w.setCell (a_ g 260) (I6 x)):=by
 refine⟨Vs ?_ ?_ (λj a=>?_) ?_ ?_ ?_,UE h.free _ _ _⟩
 ·rw[Yf _ _ _ _ _ (by omega)];exact h.c0
 ·rw[Yf _ _ _ _ _ (by omega)];exact h.c1
 ·rw[Yf _ _ _ _ _ (by omega)];exact h.c2 j a
 ·rw[Yf _ _ _ _ _ (by omega)];exact h.c3
 ·rw[Yf _ _ _ _ _ (by omega)];exact h.c4
 exact World.cell?_setCell_same _ _ _ h.c5
theorem YF.boxed (w:World) (kd pl:Int) (f:N_) (le mo fa:Int) (t:TypeId):YF w.heap.size kd pl f le mo fa (w.alloc (.cells (YX kd pl f le mo fa).toArray t)):=by
 refine⟨λj v b=>?_,λj a=>?_⟩
 ·rw[Zn,Zm];simpa using b
 rw[Zn,Zm];refine⟨by simp[Ya,a],?_⟩;go_simp
theorem YF.alloc (h:YF g kd pl f le mo fa w) (o:Obj):YF g kd pl f le mo fa (w.alloc o):=⟨World.rangeAt_alloc h.at_ o,World.there_alloc h.free o⟩
theorem YF.put (h:YF g kd pl f le mo fa w) (z Y:Int) (f':N_) (H J y:Int):YF g z Y f' H J y (w.setCells g 0 (YX z Y f' H J y)):=
 ⟨Zo _ _ _ _ (by rw[Ya];exact h.free),World.there_setCells h.free _ _ _⟩
theorem YF.far (h:YF g kd pl f le mo fa w) (b o:Nat) (vs:List Value) (y:g≠b):YF g kd pl f le mo fa (w.setCells b o vs):=
 ⟨World.rangeAt_setCells_apart h.at_ _ _ _ (Or.inl y),World.there_setCells h.free _ _ _⟩
theorem YF.far1 (h:YF g kd pl f le mo fa w) (b o:Nat) (v:Value) (y:g≠b):YF g kd pl f le mo fa (w.setCell (a_ b o) v):=h.far b o [v] y
theorem YF.below (h:YF g kd pl f le mo fa w) (z:g<B) (y:Below B w w'):YF g kd pl f le mo fa w':=
 ⟨λj v b=>by rw[y.cell (p:=(a_ g (0+j))) z];exact h.at_ j v b,λj a=>by rw[y.cell (p:=(a_ g (0+j))) z,y.frozen (p:=(a_ g (0+j))) z];exact h.free j a⟩
theorem YF.load (h:YF g kd pl f le mo fa w):(loadVar 261 (a_ g 0)).run Tryz.prog w=.ok (.agg (YX kd pl f le mo fa).toArray) w:=
 ZF (P:=Tryz.prog) w g 0 261 _ _ h.at_ Tryz.underlying261 rfl (by rw[Ya];exact Qn)
end
theorem Fw (x y z:Value):(((YX 0 0 (λ_=>false) 0 0 0).set 0 x).set 1 y).set 260 z=x::y::(Ys (λ_=>false)++[I6 0,I6 0,z]):=by
 simp only[YX,List.set_cons_zero,List.set_cons_succ];rw[List.set_append_right _ _ (by rw[YW];omega),YW];rfl
theorem SC (x y z:Int):(((YX 0 0 (λ_=>false) 0 0 0).set 0 (I6 x)).set 1 (I6 y)).set 260 (I6 z)=YX x y (λ_=>false) 0 0 z:=Fw _ _ _
theorem OQ (w:World):YF w.heap.size 0 0 (λ_=>false) 0 0 0 ((w.alloc (Obj.cells (YX 0 0 (λ_=>false) 0 0 0).toArray 261)).alloc (Obj.cells (YX 0 0 (λ_=>false) 0 0 0).toArray 261)) /\
  YF (w.heap.size+1) 0 0 (λ_=>false) 0 0 0 ((w.alloc (Obj.cells (YX 0 0 (λ_=>false) 0 0 0).toArray 261)).alloc (Obj.cells (YX 0 0 (λ_=>false) 0 0 0).toArray 261)):=by
 refine⟨(YF.boxed w ..).alloc _,?_⟩;have:=YF.boxed (w.alloc (Obj.cells (YX 0 0 (λ_=>false) 0 0 0).toArray 261)) 0 0 (λ_=>false) 0 0 0 261;rw[show(w.alloc (Obj.cells (YX 0 0 (λ_=>false) 0 0 0).toArray 261)).heap.size=w.heap.size+1 by simp]at this;exact this
theorem YF.store (h:YF g kd pl f le mo fa w) (z Y:Int) (f':N_) (H J y:Int):
  (storeCells (a_ g 0) (YX z Y f' H J y)).run Tryz.prog w=.ok () (w.setCells g 0 (YX z Y f' H J y)):=by
 have:=run_storeCells_cells (P:=Tryz.prog) g 0 (YX z Y f' H J y) 0 w (λj a=>by have:=(h.free j (by rw[Ya]at a;exact a)).1;simpa using this) (λj a=>by have:=(h.free j (by rw[Ya]at a;exact a)).2;simpa using this) (Qt _ _ _ _ _ _);simpa using this
theorem YF.lt (h:YF g kd pl f le mo fa w):g<w.heap.size:=Ze w _ h.c0
theorem lP {ops:Array Oper}{rest:List Oper}{a:Act}{w:World}{Q:Exit->Act->World->Prop}{d t p f}{x:Operand}{b o:Nat}{k q:Int}{F:Nat->Bool}{l m z:Int} (e:a.eval x=.pointer (some ⟨b,o,none⟩)) (h:w.rangeAt b o (YX k q F l m z)) (r:wpList Tryz.prog ops Q rest (a.put d (.agg (YX k q F l m z).toArray)) w):wpList Tryz.prog ops Q (⟨d,.load 261 x,t,p,f,none⟩::rest) a w:=wpList_load_mid rfl 261 _ rfl _ _ e _ _ h Tryz.underlying261 rfl (by rw[Ya];exact Qn) r
theorem sP {ops:Array Oper}{rest:List Oper}{a:Act}{w:World}{Q:Exit->Act->World->Prop}{d t p f}{x y:Operand}{b o:Nat}{k q:Int}{F:Nat->Bool}{l m z:Int} (e:a.eval x=.pointer (some ⟨b,o,none⟩)) (e2:a.eval y=.agg (YX k q F l m z).toArray) (h:w.there b o 261) (r:wpList Tryz.prog ops Q rest (a.put d undef) (w.setCells b o (YX k q F l m z).toArray.toList)):wpList Tryz.prog ops Q (⟨d,.store 261 x y,t,p,f,none⟩::rest) a w:=wpList_store_mid rfl 261 _ _ rfl _ _ _ e e2 (by simpa[Ya]using h) (by simpa[Ya]using Qn) (all_oneCell_toArray (Qt _ _ _ _ _ _)) r
end Go.Proofs.YtoaaklhpmhjhkaaGreat
