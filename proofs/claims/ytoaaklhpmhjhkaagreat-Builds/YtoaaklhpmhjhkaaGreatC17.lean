import Derived.Deep.MidRow
import Derived.Test.YtoaaklhpmhjhkaaGreatC10
import Derived.Test.YtoaaklhpmhjhkaaGreatC16
set_option maxRecDepth 100000
set_option maxHeartbeats 4000000
set_option linter.all false
namespace Go.Proofs.YtoaaklhpmhjhkaaGreat
open Go.RowKit
def setL (f:Nat->Bool):List Value:=(List.range 256).map λk=>.bool (f k)
theorem q0k (f:Nat->Bool):(setL f).length=256:=by simp[setL]
theorem q9Y (f:Nat->Bool) (j:Nat) (v:Value) (h:(setL f)[j]?=some v):j<256/\v=.bool (f j):=by
 obtain⟨b,c⟩:=List.getElem?_eq_some_iff.1 h;have a:j<256:=by rw[q0k]at b;exact b
 refine⟨a,?_⟩;rw[<-c];simp[setL]
theorem q5R (f:Nat->Bool) (j:Nat) (h:j<256):(setL f)[j]?=some (.bool (f j)):=by simp[setL,h]
theorem q0W (f:Nat->Bool):∀v∈setL f,v.oneCell'=true:=by
 intro v a;simp only[setL,List.mem_map]at a;obtain⟨j,_,rfl⟩:=a;rfl
theorem q5F (w:World):(zeroValue 251).run Tryz.prog w=.ok (.agg (setL λ_=>false).toArray) w:=by
 have h:(Tryz.prog.info? 251).bind (·.zero)=some (.agg (setL λ_=>false).toArray):=by kernel_rfl
 cases hq:Tryz.prog.info? 251 with
 |none=>rw[hq]at h;cases h
 |some i=>rw[hq]at h;simp at h;simp[zeroValue,typeInfo,hq,h]
theorem q0y:(Tryz.prog.info? 251).map (·.size)=some 256:=by kernel_rfl
variable {tmps : Array Value}{fn : Func}{fa kd le mo pl : Int}{g j : Nat}{v : Value}{w : World}
theorem BRow.range {f:Nat->Bool} (h:BRow g f w):w.rangeAt g 0 (setL f):=λj v b=>by
 obtain⟨a,rfl⟩:=q9Y f j v b;rw[Nat.zero_add];exact(h j a).1
theorem BRow.boxed (w:World) (f:Nat->Bool) (t:TypeId):BRow w.heap.size f (w.alloc (.cells (setL f).toArray t)):=λk a=>by
 refine⟨?_,?_⟩
 ·rw[World.cell?_alloc_new];simp[q5R f k a]
 go_simp
theorem BRow.there {f:Nat->Bool} (h:BRow g f w):w.there g 0 256:=λj a=>by
 rw[Nat.zero_add];exact⟨by rw[(h j a).1];rfl,(h j a).2⟩
theorem BRow.alloc {f:Nat->Bool} (h:BRow g f w) (o:Obj):BRow g f (w.alloc o):=λk a=>by
 have b:=World.block_lt_of_cell? w _ (h k a).1;exact⟨by rw[World.cell?_alloc_lt _ _ _ b];exact(h k a).1,by rw[World.frozen?_alloc_past _ _ _ b];exact(h k a).2⟩
theorem BRow.other {g':Nat}{f:Nat->Bool} (h:BRow g f w) (hg:g≠g') (v:Value):BRow g f (w.setCell ⟨g',j,none⟩ v):=λk d=>by
 obtain⟨a,c⟩:=h k d;exact⟨by rw[World.cell?_setCell_other _ _ _ _ (by intro b;cases b;exact hg rfl)];exact a,by rw[World.frozen?_setCell];exact c⟩
theorem q5X {p:Tmp}{ty:TypeId} (h:fn.results=#[.cell p ty]) (tmps:Array Value) (P:Program) (w:World):
  (results fn tmps).run P w=((asAddr (tmps.getD p undef)).run P w).andThen λa w₁=>(loadVar ty a).run P w₁:=by
 simp only[results,h];simp[Sem.run_bind,Result.andThen]
variable {u : Tmp}
theorem q5W {p x:Tmp}{ty:TypeId} (h:fn.results=#[.cell p ty,.tmp u,.tmp x]) (tmps:Array Value) (P:Program) (w:World):
  (results fn tmps).run P w=((asAddr (tmps.getD p undef)).run P w).andThen λa w₁=>((loadVar ty a).run P w₁).andThen λv w₂=>.ok (.tuple #[v,tmps.getD u undef,tmps.getD x undef]) w₂:=by
 simp only[results,h];simp[Sem.run_bind,Result.andThen]
theorem q3h {p:Tmp}{ty:TypeId}{P:Program}{ad:Addr} (h:fn.results=#[.cell p ty]) (ht:tmps.getD p undef=.pointer (some ad)) (hl:(loadVar ty ad).run P w=.ok v w):
  (results fn tmps).run P w=.ok v w:=by
 rw[q5X h,ht];simp[asAddr,hl]
theorem q0s {p x:Tmp}{ty:TypeId}{P:Program}{ad:Addr}{b c:Value} (h:fn.results=#[.cell p ty,.tmp u,.tmp x]) (ht:tmps.getD p undef=.pointer (some ad)) (hl:(loadVar ty ad).run P w=.ok v w) (hb:tmps.getD u undef=b) (hc:tmps.getD x undef=c):
  (results fn tmps).run P w=.ok (.tuple #[v,b,c]) w:=by
 rw[q5W h,ht];subst hb;subst hc;simp[asAddr,hl]
def withTo (f:Nat->Bool) (a b:Int) (n:Nat):Nat->Bool:=λk=>f k || (decide (k<n)&&(decide (a<=(k:Int))&&decide ((k:Int)<=b)))
theorem q1E (f:Nat->Bool) (a b:Int) (w:World):
  Calls Tryz.prog 213 #[.agg (setL f).toArray,.int .i64 a,.int .i64 b] w λe w'=>e=.returned (.agg (setL (Pg.withF f a b)).toArray)/\Below w.heap.size w w':=by
 have y:=q5F (w.alloc (Obj.cells (setL f).toArray 251));have g:=(BRow.boxed w f 251).alloc (Obj.cells (setL λ_=>false).toArray 251);have c:=BRow.boxed (w.alloc (Obj.cells (setL f).toArray 251)) (λ_=>false) 251;have h:Below w.heap.size w ((w.alloc (Obj.cells (setL f).toArray 251)).alloc (Obj.cells (setL λ_=>false).toArray 251)):=((Below.refl _ _).alloc (Nat.le_refl _) _).alloc (by simp) _;rw[show(w.alloc (Obj.cells (setL f).toArray 251)).heap.size=w.heap.size+1 by simp]at c;go_enter Tryz.func213,Tryz.ntmps213;go_wp2_with fail;clear y
 go_loopw [7] (λi w'=>∃k:Nat,k<=256/\i=.int .i64 k/\BRow w.heap.size (withTo f a b k) w'/\BRow (w.heap.size+1) (λ_=>false) w'/\Below w.heap.size w w') (λi _=>256-(intOf i).toNat)
 ·exact⟨0,by omega,rfl,g.congr (λk _=>by simp[withTo]),c,h⟩
 clear g c h;obtain⟨k,A,rfl,d,n,o⟩:=hrel;by_cases m:k<256
 ·obtain⟨t,u⟩:=d k m;by_cases ha:a<=(k:Int)
  ·by_cases r:(k:Int)<=b
   ·have p:=d.set k m true;have q:=n.other (j:=k) (show w.heap.size+1≠w.heap.size by omega) (.bool true);go_wp2_with fail;go_roundw
    ·refine⟨k+1,by omega,by go_num,p.congr (λj _=>?_),q,o.trans (q0E _ _ _ _)⟩;by_cases e:j=k
     ·subst e;simp[withTo,ha,r]
     simp only[if_neg e,withTo,show decide (j<k+1)=decide (j<k) by simp;omega]
    simp[intOf];omega
   go_wp2_with fail;go_roundw
   ·refine⟨k+1,by omega,by go_num,d.congr (λj _=>?_),n,o⟩;by_cases e:j=k
    ·subst e;simp[withTo,r]
    simp only[withTo,show decide (j<k+1)=decide (j<k) by simp;omega]
   simp[intOf];omega
  go_wp2_with fail;go_roundw
  ·refine⟨k+1,by omega,by go_num,d.congr (λj _=>?_),n,o⟩;by_cases e:j=k
   ·subst e;simp[withTo,ha]
   simp only[withTo,show decide (j<k+1)=decide (j<k) by simp;omega]
  simp[intOf];omega
 have x:=(d.congr (f':=Pg.withF f a b) (λj z=>by simp[withTo,Pg.withF,show j<k by omega])).range;have s:=n.there;go_wp2_with (first|(refine wpList_load_mid rfl 251 _ rfl _ _ rfl (setL (Pg.withF f a b)) _ x Tryz.underlying251 rfl (by rw[q0k];exact q0y) ?_)|(refine wpList_store_mid rfl 251 _ _ rfl _ _ _ rfl rfl (by simpa[q0k]using s) (by simpa[q0k]using q0y) (all_oneCell_toArray (q0W _)) ?_));have l:=run_loadVar_mid (P:=Tryz.prog) (wr.setCells (w.heap.size+1) 0 (setL (Pg.withF f a b))) (w.heap.size+1) 0 251 (setL (Pg.withF f a b)) _ (World.rangeAt_setCells_same _ _ _ _ (by rw[q0k];exact s)) Tryz.underlying251 rfl (by rw[q0k];exact q0y);refine bodyPost_ret (v:=.agg (setL (Pg.withF f a b)).toArray) ?_ rfl ⟨rfl,o.trans (q0d _ _ 0 (by omega) _ _ _)⟩;exact q3h Tryz.results213 (by simp[Act.put]) l
def othersTo (f:Nat->Bool) (n:Nat):Nat->Bool:=λk=>if k<n then !f k else f k
theorem q5q (f:Nat->Bool) (w:World):
  Calls Tryz.prog 214 #[.agg (setL f).toArray] w λe w'=>e=.returned (.agg (setL λk=>!f k).toArray)/\Below w.heap.size w w':=by
 have u:=q5F (w.alloc (Obj.cells (setL f).toArray 251));have b:=(BRow.boxed w f 251).alloc (Obj.cells (setL λ_=>false).toArray 251);have a:=BRow.boxed (w.alloc (Obj.cells (setL f).toArray 251)) (λ_=>false) 251;have c:Below w.heap.size w ((w.alloc (Obj.cells (setL f).toArray 251)).alloc (Obj.cells (setL λ_=>false).toArray 251)):=((Below.refl _ _).alloc (Nat.le_refl _) _).alloc (by simp) _;rw[show(w.alloc (Obj.cells (setL f).toArray 251)).heap.size=w.heap.size+1 by simp]at a;go_enter Tryz.func214,Tryz.ntmps214;go_wp2_with fail;clear u
 go_loopw [3] (λi w'=>∃k:Nat,k<=256/\i=.int .i64 k/\BRow w.heap.size (othersTo f k) w'/\BRow (w.heap.size+1) (λ_=>false) w'/\Below w.heap.size w w') (λi _=>256-(intOf i).toNat)
 ·exact⟨0,by omega,rfl,b.congr (λk _=>by simp[othersTo]),a,c⟩
 clear b a c;obtain⟨k,y,rfl,h,o,p⟩:=hrel;by_cases g:k<256
 ·obtain⟨n,s⟩:=h k g;have q:othersTo f k k=f k:=by simp[othersTo]
  rw[q]at n;clear q;have l:=h.set k g (!f k);have m:=o.other (j:=k) (show w.heap.size+1≠w.heap.size by omega) (.bool (!f k));go_wp2_with fail;go_roundw
  ·refine⟨k+1,by omega,by go_num,l.congr (λj _=>?_),m,p.trans (q0E _ _ _ _)⟩;by_cases e:j=k
   ·subst e;simp[othersTo]
   simp only[if_neg e,othersTo,show(j<k+1)=(j<k) by simp;omega]
  simp[intOf];omega
 have t:=(h.congr (f':=λj=>!f j) (λj x=>by simp[othersTo,show j<k by omega])).range;have r:=o.there;go_wp2_with (first|(refine wpList_load_mid rfl 251 _ rfl _ _ rfl (setL λj=>!f j) _ t Tryz.underlying251 rfl (by rw[q0k];exact q0y) ?_)|(refine wpList_store_mid rfl 251 _ _ rfl _ _ _ rfl rfl (by simpa[q0k]using r) (by simpa[q0k]using q0y) (all_oneCell_toArray (q0W _)) ?_));have d:=run_loadVar_mid (P:=Tryz.prog) (wr.setCells (w.heap.size+1) 0 (setL λj=>!f j)) (w.heap.size+1) 0 251 (setL λj=>!f j) _ (World.rangeAt_setCells_same _ _ _ _ (by rw[q0k];exact r)) Tryz.underlying251 rfl (by rw[q0k];exact q0y);refine bodyPost_ret (v:=.agg (setL λj=>!f j).toArray) ?_ rfl ⟨rfl,p.trans (q0d _ _ 0 (by omega) _ _ _)⟩;exact q3h Tryz.results214 (by simp[Act.put]) d
theorem q7x (f:Nat->Bool) (k:Nat) (h:f k=true):∀n,k<n->0<Rf.cntTo f n
 |0,hn=>by omega
 |n+1,hn=>by
  unfold Rf.cntTo;by_cases e:k=n
  ·subst e;simp[h]
  have:=q7x f k h n (by omega);omega
theorem q8h (f:Nat->Bool) (w:World):
  Calls Tryz.prog 197 #[.agg (setL f).toArray] w λe w'=>e=.returned (.bool (Rf.cntTo f 256==0))/\Below w.heap.size w w':=by
 have j:=BRow.boxed w f 251;go_enter Tryz.func197,Tryz.ntmps197;go_wp2_with fail
 go_loop [3] (λi=>∃k:Nat,k<=256/\i=.int .i64 k/\Hid (Rf.cntTo f k=0)) (λi=>256-(intOf i).toNat)
 ·exact⟨0,by omega,rfl,rfl⟩
 obtain⟨k,m,rfl,g⟩:=hrel;by_cases b:k<256
 ·obtain⟨a,l⟩:=j k b;cases hf:f k
  ·rw[hf]at a;have c:Hid (Rf.cntTo f (k+1)=0):=by show _=_;simp[Rf.cntTo,hf,g.out]
   clear hf;go_wp2_with fail
   go_round
   ·exact⟨k+1,by omega,by go_num,c⟩
   simp[intOf];omega
  rw[hf]at a;have h:=hyd (q7x f k hf 256 b);clear hf;go_wp2_with fail;go_ret;exact⟨q0v (by have:=h.out;exact(beq_eq_false_iff_ne.2 (by omega)).symm),(Below.refl _ _).alloc (Nat.le_refl _) _⟩
 have d:k=256:=by omega
 subst d;go_wp2_with fail;go_ret;exact⟨q0v (by rw[g.out];rfl),(Below.refl _ _).alloc (Nat.le_refl _) _⟩
def partL (kd pl:Int) (f:Nat->Bool) (le mo fa:Int):List Value:=.int .i64 kd::.int .i64 pl::(setL f++[.int .i64 le,.int .i64 mo,.int .i64 fa])
theorem q0a (kd pl:Int) (f:Nat->Bool) (le mo fa:Int):(partL kd pl f le mo fa).length=261:=by simp[partL,q0k]
theorem q0j (kd pl:Int) (f:Nat->Bool) (le mo fa:Int):∀v∈partL kd pl f le mo fa,v.oneCell'=true:=by
 intro v a;simp only[partL,List.mem_cons,List.mem_append,List.not_mem_nil,or_false]at a;rcases a with rfl|rfl|h|rfl|rfl|rfl
 ·rfl
 ·rfl
 ·exact q0W f v h
 ·rfl
 ·rfl
 rfl
theorem q0Q (w:World):(zeroValue 261).run Tryz.prog w=.ok (.agg (partL 0 0 (λ_=>false) 0 0 0).toArray) w:=by
 have h:(Tryz.prog.info? 261).bind (·.zero)=some (.agg (partL 0 0 (λ_=>false) 0 0 0).toArray):=by kernel_rfl
 cases hq:Tryz.prog.info? 261 with
 |none=>rw[hq]at h;cases h
 |some i=>rw[hq]at h;simp at h;simp[zeroValue,typeInfo,hq,h]
theorem q0b:(Tryz.prog.info? 261).map (·.size)=some 261:=by kernel_rfl
structure PRow (g:Nat) (kd pl:Int) (f:Nat->Bool) (le mo fa:Int) (w:World):Prop where
 at_:w.rangeAt g 0 (partL kd pl f le mo fa)
 free:w.there g 0 261
theorem q2c (kd pl:Int) (f:Nat->Bool) (le mo fa:Int):(partL kd pl f le mo fa)[0]?=some (.int .i64 kd):=rfl
theorem q5o (kd pl:Int) (f:Nat->Bool) (le mo fa:Int):(partL kd pl f le mo fa)[1]?=some (.int .i64 pl):=rfl
theorem q5n (kd pl:Int) (f:Nat->Bool) (le mo fa:Int) (j:Nat) (hj:j<256):(partL kd pl f le mo fa)[2+j]?=some (.bool (f j)):=by
 rw[show 2+j=j+1+1 by omega];simp only[partL,List.getElem?_cons_succ];rw[List.getElem?_append_left (by rw[q0k];exact hj),q5R f j hj]
theorem q1J (kd pl:Int) (f:Nat->Bool) (le mo fa:Int) (j:Nat):(partL kd pl f le mo fa)[258+j]?=[Value.int .i64 le,.int .i64 mo,.int .i64 fa][j]?:=by
 rw[show 258+j=(256+j)+1+1 by omega];simp only[partL,List.getElem?_cons_succ];rw[List.getElem?_append_right (by rw[q0k];omega),q0k,show 256+j-256=j by omega]
theorem q1S {f:Nat->Bool} (h0:w.cell? ⟨g,0,none⟩=some (.int .i64 kd)) (h1:w.cell? ⟨g,1,none⟩=some (.int .i64 pl))
  (h2:∀j,j<256->w.cell? ⟨g,2+j,none⟩=some (.bool (f j))) (h3:w.cell? ⟨g,258,none⟩=some (.int .i64 le)) (h4:w.cell? ⟨g,259,none⟩=some (.int .i64 mo)) (h5:w.cell? ⟨g,260,none⟩=some (.int .i64 fa)):
  w.rangeAt g 0 (partL kd pl f le mo fa):=λj v a=>by
 have k:j<261:=by have:=(List.getElem?_eq_some_iff.1 a).1;rw[q0a]at this;exact this
 rw[Nat.zero_add];rcases Nat.lt_or_ge j 2 with e|d
 ·rcases Nat.lt_or_ge j 1 with h|h
  ·have:j=0:=by omega
   subst this;rw[q2c]at a;rw[h0];exact a
  have:j=1:=by omega
  subst this;rw[q5o]at a;rw[h1];exact a
 rcases Nat.lt_or_ge j 258 with c|b
 ·obtain⟨i,rfl⟩:∃i,j=2+i:=⟨j-2,by omega⟩;rw[q5n _ _ _ _ _ _ i (by omega)]at a;rw[h2 i (by omega)];exact a
 obtain⟨i,rfl⟩:∃i,j=258+i:=⟨j-258,by omega⟩;rw[q1J]at a;have:i=0\/i=1\/i=2:=by omega
 rcases this with rfl|rfl|rfl
 ·rw[h3];exact a
 ·rw[h4];exact a
 rw[h5];exact a
section
variable {g : Nat} {kd pl : Int} {f : Nat → Bool} {le mo fa : Int} {w : World}
theorem PRow.c0 (h:PRow g kd pl f le mo fa w):w.cell? ⟨g,0,none⟩=some (.int .i64 kd):=by have:=h.at_ 0 _ (q2c ..);rwa [Nat.zero_add]at this
theorem PRow.c1 (h:PRow g kd pl f le mo fa w):w.cell? ⟨g,1,none⟩=some (.int .i64 pl):=by have:=h.at_ 1 _ (q5o ..);rwa [Nat.zero_add]at this
theorem PRow.c2 (h:PRow g kd pl f le mo fa w) (j:Nat) (hj:j<256):w.cell? ⟨g,2+j,none⟩=some (.bool (f j)):=by have:=h.at_ (2+j) _ (q5n _ _ _ _ _ _ j hj);rwa [Nat.zero_add]at this
theorem PRow.c3 (h:PRow g kd pl f le mo fa w):w.cell? ⟨g,258,none⟩=some (.int .i64 le):=by have:=h.at_ (258+0) (.int .i64 le) (by rw[q1J];rfl);rwa [Nat.zero_add]at this
theorem PRow.c4 (h:PRow g kd pl f le mo fa w):w.cell? ⟨g,259,none⟩=some (.int .i64 mo):=by have:=h.at_ (258+1) (.int .i64 mo) (by rw[q1J];rfl);rwa [Nat.zero_add]at this
theorem PRow.c5 (h:PRow g kd pl f le mo fa w):w.cell? ⟨g,260,none⟩=some (.int .i64 fa):=by have:=h.at_ (258+2) (.int .i64 fa) (by rw[q1J];rfl);rwa [Nat.zero_add]at this
theorem PRow.fr (h:PRow g kd pl f le mo fa w) (j:Nat) (hj:j<261):w.frozen? ⟨g,j,none⟩=false:=by have:=(h.free j hj).2;rwa [Nat.zero_add]at this
theorem PRow.set (h:PRow g kd pl f le mo fa w):w.rangeAt g 2 (setL f):=λj v b=>by
 obtain⟨a,rfl⟩:=q9Y f j v b;exact h.c2 j a
theorem PRow.setFree (h:PRow g kd pl f le mo fa w):w.there g 2 256:=λj a=>by
 have:=h.free (2+j) (by omega);rwa [Nat.zero_add]at this
theorem q2m (h:w.there g 0 261) (b k:Nat) (v:Value):(w.setCell ⟨b,k,none⟩ v).there g 0 261:=World.there_setCells (o':=0) (n:=261) h b k [v]
theorem PRow.put2 (h:PRow g kd pl f le mo fa w) (f':Nat->Bool):PRow g kd pl f' le mo fa (w.setCells g 2 (setL f')):=by
 refine⟨q1S ?_ ?_ (λj a=>?_) ?_ ?_ ?_,World.there_setCells h.free _ _ _⟩
 ·rw[World.cell?_setCells_out _ _ _ _ _ (λ_ _=>Or.inl (by simp))];exact h.c0
 ·rw[World.cell?_setCells_out _ _ _ _ _ (λ_ _=>Or.inl (by simp))];exact h.c1
 ·have:=World.rangeAt_setCells_same w g 2 (setL f') (by rw[q0k];exact h.setFree) j _ (q5R f' j a);exact this
 ·rw[World.cell?_setCells_out _ _ _ _ _ (λ_ _=>Or.inr (by rw[q0k];simp))];exact h.c3
 ·rw[World.cell?_setCells_out _ _ _ _ _ (λ_ _=>Or.inr (by rw[q0k];simp))];exact h.c4
 rw[World.cell?_setCells_out _ _ _ _ _ (λ_ _=>Or.inr (by rw[q0k];simp))];exact h.c5
theorem q0H (w:World) (g i j:Nat) (v:Value) (h:i≠j):(w.setCell ⟨g,i,none⟩ v).cell? ⟨g,j,none⟩=w.cell? ⟨g,j,none⟩:=
 World.cell?_setCell_other _ _ _ _ (by intro e;cases e;exact h rfl)
theorem PRow.put3 (h : PRow g kd pl f le mo fa w) (x : Int) : PRow g kd pl f x mo fa (w.setCell ⟨g, 258, none⟩ (.int .i64 x)) := by
 refine ⟨q1S ?_ ?_ (λj a => ?_) ?_ ?_ ?_, q2m h.free _ _ _⟩
 ·rw [q0H _ _ _ _ _ (by omega)]; exact h.c0
 ·rw [q0H _ _ _ _ _ (by omega)]; exact h.c1
 ·rw [q0H _ _ _ _ _ (by omega)]; exact h.c2 j a
 ·exact World.cell?_setCell_same _ _ _ h.c3
 ·rw [q0H _ _ _ _ _ (by omega)]; exact h.c4
 rw [q0H _ _ _ _ _ (by omega)]; exact h.c5
theorem PRow.put4 (h : PRow g kd pl f le mo fa w) (x : Int) : PRow g kd pl f le x fa (w.setCell ⟨g, 259, none⟩ (.int .i64 x)) := by
 refine ⟨q1S ?_ ?_ (λj a => ?_) ?_ ?_ ?_, q2m h.free _ _ _⟩
 ·rw [q0H _ _ _ _ _ (by omega)]; exact h.c0
 ·rw [q0H _ _ _ _ _ (by omega)]; exact h.c1
 ·rw [q0H _ _ _ _ _ (by omega)]; exact h.c2 j a
 ·rw [q0H _ _ _ _ _ (by omega)]; exact h.c3
 ·exact World.cell?_setCell_same _ _ _ h.c4
 rw [q0H _ _ _ _ _ (by omega)]; exact h.c5
theorem PRow.put5 (h : PRow g kd pl f le mo fa w) (x : Int) : PRow g kd pl f le mo x (w.setCell ⟨g, 260, none⟩ (.int .i64 x)) := by
 refine ⟨q1S ?_ ?_ (λj a => ?_) ?_ ?_ ?_, q2m h.free _ _ _⟩
 ·rw [q0H _ _ _ _ _ (by omega)]; exact h.c0
 ·rw [q0H _ _ _ _ _ (by omega)]; exact h.c1
 ·rw [q0H _ _ _ _ _ (by omega)]; exact h.c2 j a
 ·rw [q0H _ _ _ _ _ (by omega)]; exact h.c3
 ·rw [q0H _ _ _ _ _ (by omega)]; exact h.c4
 exact World.cell?_setCell_same _ _ _ h.c5
theorem PRow.boxed (w:World) (kd pl:Int) (f:Nat->Bool) (le mo fa:Int) (t:TypeId):PRow w.heap.size kd pl f le mo fa (w.alloc (.cells (partL kd pl f le mo fa).toArray t)):=by
 refine⟨λj v b=>?_,λj a=>?_⟩
 ·rw[Nat.zero_add,World.cell?_alloc_new];simpa using b
 rw[Nat.zero_add,World.cell?_alloc_new];refine⟨by simp[q0a,a],?_⟩;go_simp
theorem PRow.alloc (h : PRow g kd pl f le mo fa w) (o : Obj) : PRow g kd pl f le mo fa (w.alloc o) := ⟨World.rangeAt_alloc h.at_ o, World.there_alloc h.free o⟩
theorem PRow.put (h : PRow g kd pl f le mo fa w) (kd' pl' : Int) (f' : Nat -> Bool) (le' mo' fa' : Int) : PRow g kd' pl' f' le' mo' fa' (w.setCells g 0 (partL kd' pl' f' le' mo' fa')) :=
 ⟨World.rangeAt_setCells_same _ _ _ _ (by rw [q0a]; exact h.free), World.there_setCells h.free _ _ _⟩
theorem PRow.far (h : PRow g kd pl f le mo fa w) (b o : Nat) (vs : List Value) (hb : g ≠ b) : PRow g kd pl f le mo fa (w.setCells b o vs) :=
 ⟨World.rangeAt_setCells_apart h.at_ _ _ _ (Or.inl hb), World.there_setCells h.free _ _ _⟩
theorem PRow.far1 (h : PRow g kd pl f le mo fa w) (b o : Nat) (v : Value) (hb : g ≠ b) : PRow g kd pl f le mo fa (w.setCell ⟨b, o, none⟩ v) := h.far b o [v] hb
theorem PRow.below {B:Nat}{w':World} (h:PRow g kd pl f le mo fa w) (hg:g<B) (hW:Below B w w'):PRow g kd pl f le mo fa w':=
 ⟨λj v b=>by rw[hW.cell (p:=⟨g,0+j,none⟩) hg];exact h.at_ j v b,λj a=>by rw[hW.cell (p:=⟨g,0+j,none⟩) hg,hW.frozen (p:=⟨g,0+j,none⟩) hg];exact h.free j a⟩
theorem PRow.load (h : PRow g kd pl f le mo fa w) : (loadVar 261 ⟨g, 0, none⟩).run Tryz.prog w = .ok (.agg (partL kd pl f le mo fa).toArray) w :=
 run_loadVar_mid (P := Tryz.prog) w g 0 261 _ _ h.at_ Tryz.underlying261 rfl (by rw [q0a]; exact q0b)
end
theorem y1k (x y z:Value):(((partL 0 0 (λ_=>false) 0 0 0).set 0 x).set 1 y).set 260 z=x::y::(setL (λ_=>false)++[.int .i64 0,.int .i64 0,z]):=by
 simp only[partL,List.set_cons_zero,List.set_cons_succ];rw[List.set_append_right _ _ (by rw[q0k];omega),q0k];rfl
theorem q3e (x y z:Int):(((partL 0 0 (λ_=>false) 0 0 0).set 0 (.int .i64 x)).set 1 (.int .i64 y)).set 260 (.int .i64 z)=partL x y (λ_=>false) 0 0 z:=y1k _ _ _
theorem twoParts (w:World):PRow w.heap.size 0 0 (λ_=>false) 0 0 0 ((w.alloc (Obj.cells (partL 0 0 (λ_=>false) 0 0 0).toArray 261)).alloc (Obj.cells (partL 0 0 (λ_=>false) 0 0 0).toArray 261)) /\
  PRow (w.heap.size+1) 0 0 (λ_=>false) 0 0 0 ((w.alloc (Obj.cells (partL 0 0 (λ_=>false) 0 0 0).toArray 261)).alloc (Obj.cells (partL 0 0 (λ_=>false) 0 0 0).toArray 261)):=by
 refine⟨(PRow.boxed w ..).alloc _,?_⟩;have:=PRow.boxed (w.alloc (Obj.cells (partL 0 0 (λ_=>false) 0 0 0).toArray 261)) 0 0 (λ_=>false) 0 0 0 261;rw[show(w.alloc (Obj.cells (partL 0 0 (λ_=>false) 0 0 0).toArray 261)).heap.size=w.heap.size+1 by simp]at this;exact this
theorem PRow.store {f:Nat->Bool} (h:PRow g kd pl f le mo fa w) (kd' pl':Int) (f':Nat->Bool) (le' mo' fa':Int):
  (storeCells ⟨g,0,none⟩ (partL kd' pl' f' le' mo' fa')).run Tryz.prog w=.ok () (w.setCells g 0 (partL kd' pl' f' le' mo' fa')):=by
 have:=run_storeCells_cells (P:=Tryz.prog) g 0 (partL kd' pl' f' le' mo' fa') 0 w (λj a=>by have:=(h.free j (by rw[q0a]at a;exact a)).1;simpa using this) (λj a=>by have:=(h.free j (by rw[q0a]at a;exact a)).2;simpa using this) (q0j _ _ _ _ _ _);simpa using this
theorem PRow.lt {f:Nat->Bool} (h:PRow g kd pl f le mo fa w):g<w.heap.size:=World.block_lt_of_cell? w _ h.c0
end Go.Proofs.YtoaaklhpmhjhkaaGreat
