import Derived.Deep.MidRow
import Derived.Test.YtoaaklhpmhjhkabGreatC03
import Derived.Test.YtoaaklhpmhjhkabGreatC15
set_option maxRecDepth 100000
set_option maxHeartbeats 4000000
set_option linter.all false
namespace Go.Proofs.YtoaaklhpmhjhkabGreat
open Go.RowKit
def Yy (f:Nat->Bool):List Value:=(List.range 256).map fun k=>.bool (f k)
theorem YY (f:Nat->Bool):(Yy f).length=256:=by simp[Yy]
theorem LR (f:Nat->Bool) (j:Nat) (v:Value) (h:(Yy f)[j]?=some v):j<256/\v=.bool (f j):=by
 obtain⟨hj,h2⟩:=List.getElem?_eq_some_iff.1 h;have hj':j<256:=by rw[YY]at hj;exact hj
 refine⟨hj',?_⟩;rw[<-h2];simp[Yy]
theorem Rd (f:Nat->Bool) (j:Nat) (h:j<256):(Yy f)[j]?=some (.bool (f j)):=by simp[Yy,h]
theorem X0 (f:Nat->Bool):∀v∈Yy f,v.oneCell'=true:=by
 intro v hv;simp only[Yy,List.mem_map]at hv;obtain⟨j,_,rfl⟩:=hv;rfl
theorem Rq (w:World):(zeroValue 146).run Tryz.prog w=.ok (.agg (Yy fun _=>false).toArray) w:=by
 have h:(Tryz.prog.info? 146).bind (·.zero)=some (.agg (Yy fun _=>false).toArray):=by kernel_rfl
 cases hq:Tryz.prog.info? 146 with
 |none=>rw[hq]at h;cases h
 |some i=>rw[hq]at h;simp at h;simp[zeroValue,typeInfo,hq,h]
theorem YL:(Tryz.prog.info? 146).map (·.size)=some 256:=by kernel_rfl
variable {tmps:Array Value}{fn:Func}{fa kd le mo pl:Int}{B g g' j:Nat}{v:Value}{w w':World}
theorem WV.range {f:Nat->Bool} (h:WV g f w):w.rangeAt g 0 (Yy f):=fun j v hv=>by
 obtain⟨hj,rfl⟩:=LR f j v hv;rw[Nat.zero_add];exact(h j hj).1
theorem WV.boxed (w:World) (f:Nat->Bool) (t:TypeId):WV w.heap.size f (w.alloc (.cells (Yy f).toArray t)):=fun k hk=>by
 refine⟨?_,?_⟩
 ·rw[World.cell?_alloc_new];simp[Rd f k hk]
 ·go_simp
theorem WV.there {f:Nat->Bool} (h:WV g f w):w.there g 0 256:=fun j hj=>by
 rw[Nat.zero_add];exact⟨by rw[(h j hj).1];rfl,(h j hj).2⟩
theorem WV.alloc {f:Nat->Bool} (h:WV g f w) (o:Obj):WV g f (w.alloc o):=fun k hk=>by
 have hb:=World.block_lt_of_cell? w _ (h k hk).1;exact⟨by rw[World.cell?_alloc_lt _ _ _ hb];exact(h k hk).1,by rw[World.frozen?_alloc_past _ _ _ hb];exact(h k hk).2⟩
theorem WV.other {f:Nat->Bool} (h:WV g f w) (hg:g≠g') (v:Value):WV g f (w.setCell ⟨g',j,none⟩ v):=fun k hk=>by
 obtain⟨hc,hf⟩:=h k hk;exact⟨by rw[World.cell?_setCell_other _ _ _ _ (by intro he;cases he;exact hg rfl)];exact hc,by rw[World.frozen?_setCell];exact hf⟩
variable {p:Tmp}
theorem PZ {ty:TypeId} (h:fn.results=#[.cell p ty]) (tmps:Array Value) (P:Program) (w:World):
  (results fn tmps).run P w=((asAddr (tmps.getD p undef)).run P w).andThen fun a w₁=>(loadVar ty a).run P w₁:=by
 simp only[results,h];simp[Sem.run_bind,Result.andThen]
variable {u:Tmp}
theorem P9 {x:Tmp}{ty:TypeId} (h:fn.results=#[.cell p ty,.tmp u,.tmp x]) (tmps:Array Value) (P:Program) (w:World):
  (results fn tmps).run P w=((asAddr (tmps.getD p undef)).run P w).andThen fun a w₁=>((loadVar ty a).run P w₁).andThen fun v w₂=>.ok (.tuple #[v,tmps.getD u undef,tmps.getD x undef]) w₂:=by
 simp only[results,h];simp[Sem.run_bind,Result.andThen]
variable {P:Program}
theorem Ub {ty:TypeId}{ad:Addr} (h:fn.results=#[.cell p ty]) (ht:tmps.getD p undef=.pointer (some ad)) (hl:(loadVar ty ad).run P w=.ok v w):
  (results fn tmps).run P w=.ok v w:=by
 rw[PZ h,ht];simp[asAddr,hl]
theorem YQ {x:Tmp}{ty:TypeId}{ad:Addr}{b c:Value} (h:fn.results=#[.cell p ty,.tmp u,.tmp x]) (ht:tmps.getD p undef=.pointer (some ad)) (hl:(loadVar ty ad).run P w=.ok v w) (hb:tmps.getD u undef=b) (hc:tmps.getD x undef=c):
  (results fn tmps).run P w=.ok (.tuple #[v,b,c]) w:=by
 rw[P9 h,ht];subst hb;subst hc;simp[asAddr,hl]
def Vg (f:Nat->Bool) (a b:Int) (n:Nat):Nat->Bool:=fun k=>f k || (decide (k<n)&&(decide (a<=(k:Int))&&decide ((k:Int)<=b)))
theorem Xf (f:Nat->Bool) (a b:Int) (w:World):
  Calls Tryz.prog 97 #[.agg (Yy f).toArray,.int .i64 a,.int .i64 b] w fun e w'=>e=.returned (.agg (Yy (Pg.withF f a b)).toArray)/\Below w.heap.size w w':=by
 have hz:=Rq (w.alloc (Obj.cells (Yy f).toArray 146));have hB0:=(WV.boxed w f 146).alloc (Obj.cells (Yy fun _=>false).toArray 146);have hC0:=WV.boxed (w.alloc (Obj.cells (Yy f).toArray 146)) (fun _=>false) 146;have hW0:Below w.heap.size w ((w.alloc (Obj.cells (Yy f).toArray 146)).alloc (Obj.cells (Yy fun _=>false).toArray 146)):=((Below.refl _ _).alloc (Nat.le_refl _) _).alloc (by simp) _;rw[show(w.alloc (Obj.cells (Yy f).toArray 146)).heap.size=w.heap.size+1 by simp]at hC0;go_enter Tryz.func97,Tryz.ntmps97;go_wp2_with fail;clear hz
 go_loopw [7] (fun i w'=>∃k:Nat,k<=256/\i=.int .i64 k/\WV w.heap.size (Vg f a b k) w'/\WV (w.heap.size+1) (fun _=>false) w'/\Below w.heap.size w w') (fun i _=>256-(intOf i).toNat)
 case atStart=>exact⟨0,by omega,rfl,hB0.congr (fun k _=>by simp[Vg]),hC0,hW0⟩
 case round=>
  clear hB0 hC0 hW0;obtain⟨k,hk,rfl,hB,hC,hW⟩:=hrel;by_cases hlt:k<256
  ·obtain⟨hcc,hff⟩:=hB k hlt;by_cases ha:a<=(k:Int)
   ·by_cases hb:(k:Int)<=b
    ·have hB2:=hB.set k hlt true;have hC2:=hC.other (j:=k) (show w.heap.size+1≠w.heap.size by omega) (.bool true);go_wp2_with fail;go_roundw
     case rel=>
      refine⟨k+1,by omega,by go_num,hB2.congr (fun j _=>?_),hC2,hW.trans (Pm _ _ _ _)⟩;by_cases e:j=k
      ·subst e;simp[Vg,ha,hb]
      ·simp only[if_neg e,Vg,show decide (j<k+1)=decide (j<k) by simp;omega]
     case measure=>simp[intOf];omega
    ·go_wp2_with fail;go_roundw
     case rel=>
      refine⟨k+1,by omega,by go_num,hB.congr (fun j _=>?_),hC,hW⟩;by_cases e:j=k
      ·subst e;simp[Vg,hb]
      ·simp only[Vg,show decide (j<k+1)=decide (j<k) by simp;omega]
     case measure=>simp[intOf];omega
   ·go_wp2_with fail;go_roundw
    case rel=>
     refine⟨k+1,by omega,by go_num,hB.congr (fun j _=>?_),hC,hW⟩;by_cases e:j=k
     ·subst e;simp[Vg,ha]
     ·simp only[Vg,show decide (j<k+1)=decide (j<k) by simp;omega]
    case measure=>simp[intOf];omega
  ·have hr:=(hB.congr (f':=Pg.withF f a b) (fun j hj=>by simp[Vg,Pg.withF,show j<k by omega])).range;have ht:=hC.there;go_wp2_with (first|(refine wpList_load_mid rfl 146 _ rfl _ _ rfl (Yy (Pg.withF f a b)) _ hr u_d rfl (by rw[YY];exact YL) ?_)|(refine wpList_store_mid rfl 146 _ _ rfl _ _ _ rfl rfl (by simpa[YY]using ht) (by simpa[YY]using YL) (all_oneCell_toArray (X0 _)) ?_));have hfin:=run_loadVar_mid (P:=Tryz.prog) (wr.setCells (w.heap.size+1) 0 (Yy (Pg.withF f a b))) (w.heap.size+1) 0 146 (Yy (Pg.withF f a b)) _ (World.rangeAt_setCells_same _ _ _ _ (by rw[YY];exact ht)) u_d rfl (by rw[YY];exact YL);refine bodyPost_ret (v:=.agg (Yy (Pg.withF f a b)).toArray) ?_ rfl ⟨rfl,hW.trans (Y4 _ _ 0 (by omega) _ _ _)⟩;exact Ub Tryz.results97 (by simp[Act.put]) hfin
def V5 (f:Nat->Bool) (n:Nat):Nat->Bool:=fun k=>if k<n then !f k else f k
theorem QV (f:Nat->Bool) (w:World):
  Calls Tryz.prog 98 #[.agg (Yy f).toArray] w fun e w'=>e=.returned (.agg (Yy fun k=>!f k).toArray)/\Below w.heap.size w w':=by
 have hz:=Rq (w.alloc (Obj.cells (Yy f).toArray 146));have hB0:=(WV.boxed w f 146).alloc (Obj.cells (Yy fun _=>false).toArray 146);have hC0:=WV.boxed (w.alloc (Obj.cells (Yy f).toArray 146)) (fun _=>false) 146;have hW0:Below w.heap.size w ((w.alloc (Obj.cells (Yy f).toArray 146)).alloc (Obj.cells (Yy fun _=>false).toArray 146)):=((Below.refl _ _).alloc (Nat.le_refl _) _).alloc (by simp) _;rw[show(w.alloc (Obj.cells (Yy f).toArray 146)).heap.size=w.heap.size+1 by simp]at hC0;go_enter Tryz.func98,Tryz.ntmps98;go_wp2_with fail;clear hz
 go_loopw [3] (fun i w'=>∃k:Nat,k<=256/\i=.int .i64 k/\WV w.heap.size (V5 f k) w'/\WV (w.heap.size+1) (fun _=>false) w'/\Below w.heap.size w w') (fun i _=>256-(intOf i).toNat)
 case atStart=>exact⟨0,by omega,rfl,hB0.congr (fun k _=>by simp[V5]),hC0,hW0⟩
 case round=>
  clear hB0 hC0 hW0;obtain⟨k,hk,rfl,hB,hC,hW⟩:=hrel;by_cases hlt:k<256
  ·obtain⟨hcc,hff⟩:=hB k hlt;have ho:V5 f k k=f k:=by simp[V5]
   rw[ho]at hcc;clear ho;have hB2:=hB.set k hlt (!f k);have hC2:=hC.other (j:=k) (show w.heap.size+1≠w.heap.size by omega) (.bool (!f k));go_wp2_with fail;go_roundw
   case rel=>
    refine⟨k+1,by omega,by go_num,hB2.congr (fun j _=>?_),hC2,hW.trans (Pm _ _ _ _)⟩;by_cases e:j=k
    ·subst e;simp[V5]
    ·simp only[if_neg e,V5,show(j<k+1)=(j<k) by simp;omega]
   case measure=>simp[intOf];omega
  ·have hr:=(hB.congr (f':=fun j=>!f j) (fun j hj=>by simp[V5,show j<k by omega])).range;have ht:=hC.there;go_wp2_with (first|(refine wpList_load_mid rfl 146 _ rfl _ _ rfl (Yy fun j=>!f j) _ hr u_d rfl (by rw[YY];exact YL) ?_)|(refine wpList_store_mid rfl 146 _ _ rfl _ _ _ rfl rfl (by simpa[YY]using ht) (by simpa[YY]using YL) (all_oneCell_toArray (X0 _)) ?_));have hfin:=run_loadVar_mid (P:=Tryz.prog) (wr.setCells (w.heap.size+1) 0 (Yy fun j=>!f j)) (w.heap.size+1) 0 146 (Yy fun j=>!f j) _ (World.rangeAt_setCells_same _ _ _ _ (by rw[YY];exact ht)) u_d rfl (by rw[YY];exact YL);refine bodyPost_ret (v:=.agg (Yy fun j=>!f j).toArray) ?_ rfl ⟨rfl,hW.trans (Y4 _ _ 0 (by omega) _ _ _)⟩;exact Ub Tryz.results98 (by simp[Act.put]) hfin
theorem Po (f:Nat->Bool) (k:Nat) (h:f k=true):∀n,k<n->0<Rf.cntTo f n
 |0,hn=>by omega
 |n+1,hn=>by
  unfold Rf.cntTo;by_cases e:k=n
  ·subst e;simp[h]
  ·have:=Po f k h n (by omega);omega
theorem Nr (f:Nat->Bool) (w:World):
  Calls Tryz.prog 83 #[.agg (Yy f).toArray] w fun e w'=>e=.returned (.bool (Rf.cntTo f 256==0))/\Below w.heap.size w w':=by
 have hB:=WV.boxed w f 146;go_enter Tryz.func83,Tryz.ntmps83;go_wp2_with fail
 go_loop [3] (fun i=>∃k:Nat,k<=256/\i=.int .i64 k/\Hid (Rf.cntTo f k=0)) (fun i=>256-(intOf i).toNat)
 case atStart=>exact⟨0,by omega,rfl,rfl⟩
 case round=>
  obtain⟨k,hk,rfl,HC⟩:=hrel;by_cases hlt:k<256
  ·obtain⟨hcc,hff⟩:=hB k hlt;cases hf:f k
   ·rw[hf]at hcc;have HC2:Hid (Rf.cntTo f (k+1)=0):=by show _=_;simp[Rf.cntTo,hf,HC.out]
    clear hf;go_wp2_with fail
    go_round
    case rel=>exact⟨k+1,by omega,by go_num,HC2⟩
    case measure=>simp[intOf];omega
   ·rw[hf]at hcc;have HP:=hyd (Po f k hf 256 hlt);clear hf;go_wp2_with fail;go_ret;exact⟨Yx (by have:=HP.out;exact(beq_eq_false_iff_ne.2 (by omega)).symm),(Below.refl _ _).alloc (Nat.le_refl _) _⟩
  ·have hkk:k=256:=by omega
   subst hkk;go_wp2_with fail;go_ret;exact⟨Yx (by rw[HC.out];rfl),(Below.refl _ _).alloc (Nat.le_refl _) _⟩
def Y0 (kd pl:Int) (f:Nat->Bool) (le mo fa:Int):List Value:=.int .i64 kd::.int .i64 pl::(Yy f++[.int .i64 le,.int .i64 mo,.int .i64 fa])
theorem Y9 (kd pl:Int) (f:Nat->Bool) (le mo fa:Int):(Y0 kd pl f le mo fa).length=261:=by simp[Y0,YY]
theorem YZ (kd pl:Int) (f:Nat->Bool) (le mo fa:Int):∀v∈Y0 kd pl f le mo fa,v.oneCell'=true:=by
 intro v hv;simp only[Y0,List.mem_cons,List.mem_append,List.not_mem_nil,or_false]at hv;rcases hv with rfl|rfl|h|rfl|rfl|rfl
 ·rfl
 ·rfl
 ·exact X0 f v h
 ·rfl
 ·rfl
 ·rfl
theorem X5 (w:World):(zeroValue 156).run Tryz.prog w=.ok (.agg (Y0 0 0 (fun _=>false) 0 0 0).toArray) w:=by
 have h:(Tryz.prog.info? 156).bind (·.zero)=some (.agg (Y0 0 0 (fun _=>false) 0 0 0).toArray):=by kernel_rfl
 cases hq:Tryz.prog.info? 156 with
 |none=>rw[hq]at h;cases h
 |some i=>rw[hq]at h;simp at h;simp[zeroValue,typeInfo,hq,h]
theorem Y8:(Tryz.prog.info? 156).map (·.size)=some 261:=by kernel_rfl
structure YF (g:Nat) (kd pl:Int) (f:Nat->Bool) (le mo fa:Int) (w:World):Prop where
 at_:w.rangeAt g 0 (Y0 kd pl f le mo fa)
 free:w.there g 0 261
theorem V7 (kd pl:Int) (f:Nat->Bool) (le mo fa:Int):(Y0 kd pl f le mo fa)[0]?=some (.int .i64 kd):=rfl
theorem Q0 (kd pl:Int) (f:Nat->Bool) (le mo fa:Int):(Y0 kd pl f le mo fa)[1]?=some (.int .i64 pl):=rfl
theorem Q4 (kd pl:Int) (f:Nat->Bool) (le mo fa:Int) (j:Nat) (hj:j<256):(Y0 kd pl f le mo fa)[2+j]?=some (.bool (f j)):=by
 rw[show 2+j=j+1+1 by omega];simp only[Y0,List.getElem?_cons_succ];rw[List.getElem?_append_left (by rw[YY];exact hj),Rd f j hj]
theorem WN (kd pl:Int) (f:Nat->Bool) (le mo fa:Int) (j:Nat):(Y0 kd pl f le mo fa)[258+j]?=[Value.int .i64 le,.int .i64 mo,.int .i64 fa][j]?:=by
 rw[show 258+j=(256+j)+1+1 by omega];simp only[Y0,List.getElem?_cons_succ];rw[List.getElem?_append_right (by rw[YY];omega),YY,show 256+j-256=j by omega]
theorem Wk {f:Nat->Bool} (h0:w.cell? ⟨g,0,none⟩=some (.int .i64 kd)) (h1:w.cell? ⟨g,1,none⟩=some (.int .i64 pl))
  (h2:∀j,j<256->w.cell? ⟨g,2+j,none⟩=some (.bool (f j))) (h3:w.cell? ⟨g,258,none⟩=some (.int .i64 le)) (h4:w.cell? ⟨g,259,none⟩=some (.int .i64 mo)) (h5:w.cell? ⟨g,260,none⟩=some (.int .i64 fa)):
  w.rangeAt g 0 (Y0 kd pl f le mo fa):=fun j v hv=>by
 have hj:j<261:=by have:=(List.getElem?_eq_some_iff.1 hv).1;rw[Y9]at this;exact this
 rw[Nat.zero_add];rcases Nat.lt_or_ge j 2 with hlt|hge
 ·rcases Nat.lt_or_ge j 1 with h|h
  ·have:j=0:=by omega
   subst this;rw[V7]at hv;rw[h0];exact hv
  ·have:j=1:=by omega
   subst this;rw[Q0]at hv;rw[h1];exact hv
 ·rcases Nat.lt_or_ge j 258 with hlt2|hge2
  ·obtain⟨i,rfl⟩:∃i,j=2+i:=⟨j-2,by omega⟩;rw[Q4 _ _ _ _ _ _ i (by omega)]at hv;rw[h2 i (by omega)];exact hv
  ·obtain⟨i,rfl⟩:∃i,j=258+i:=⟨j-258,by omega⟩;rw[WN]at hv;have:i=0\/i=1\/i=2:=by omega
   rcases this with rfl|rfl|rfl
   ·rw[h3];exact hv
   ·rw[h4];exact hv
   ·rw[h5];exact hv
section
variable {g:Nat} {kd pl:Int} {f:N_} {le mo fa:Int} {w:World}
theorem YF.c0 (h:YF g kd pl f le mo fa w):w.cell? ⟨g,0,none⟩=some (.int .i64 kd):=by have:=h.at_ 0 _ (V7 ..);rwa [Nat.zero_add]at this
theorem YF.c1 (h:YF g kd pl f le mo fa w):w.cell? ⟨g,1,none⟩=some (.int .i64 pl):=by have:=h.at_ 1 _ (Q0 ..);rwa [Nat.zero_add]at this
theorem YF.c2 (h:YF g kd pl f le mo fa w) (j:Nat) (hj:j<256):w.cell? ⟨g,2+j,none⟩=some (.bool (f j)):=by have:=h.at_ (2+j) _ (Q4 _ _ _ _ _ _ j hj);rwa [Nat.zero_add]at this
theorem YF.c3 (h:YF g kd pl f le mo fa w):w.cell? ⟨g,258,none⟩=some (.int .i64 le):=by have:=h.at_ (258+0) (.int .i64 le) (by rw[WN];rfl);rwa [Nat.zero_add]at this
theorem YF.c4 (h:YF g kd pl f le mo fa w):w.cell? ⟨g,259,none⟩=some (.int .i64 mo):=by have:=h.at_ (258+1) (.int .i64 mo) (by rw[WN];rfl);rwa [Nat.zero_add]at this
theorem YF.c5 (h:YF g kd pl f le mo fa w):w.cell? ⟨g,260,none⟩=some (.int .i64 fa):=by have:=h.at_ (258+2) (.int .i64 fa) (by rw[WN];rfl);rwa [Nat.zero_add]at this
theorem YF.fr (h:YF g kd pl f le mo fa w) (j:Nat) (hj:j<261):w.frozen? ⟨g,j,none⟩=false:=by have:=(h.free j hj).2;rwa [Nat.zero_add]at this
theorem YF.set (h:YF g kd pl f le mo fa w):w.rangeAt g 2 (Yy f):=fun j v hv=>by
 obtain⟨hj,rfl⟩:=LR f j v hv;exact h.c2 j hj
theorem YF.setFree (h:YF g kd pl f le mo fa w):w.there g 2 256:=fun j hj=>by
 have:=h.free (2+j) (by omega);rwa [Nat.zero_add]at this
theorem VD (h:w.there g 0 261) (b k:Nat) (v:Value):(w.setCell ⟨b,k,none⟩ v).there g 0 261:=World.there_setCells (o':=0) (n:=261) h b k [v]
theorem YF.put2 (h:YF g kd pl f le mo fa w) (f':Nat->Bool):YF g kd pl f' le mo fa (w.setCells g 2 (Yy f')):=by
 refine⟨Wk ?_ ?_ (fun j hj=>?_) ?_ ?_ ?_,World.there_setCells h.free _ _ _⟩
 ·rw[World.cell?_setCells_out _ _ _ _ _ (fun _ _=>Or.inl (by simp))];exact h.c0
 ·rw[World.cell?_setCells_out _ _ _ _ _ (fun _ _=>Or.inl (by simp))];exact h.c1
 ·have:=World.rangeAt_setCells_same w g 2 (Yy f') (by rw[YY];exact h.setFree) j _ (Rd f' j hj);exact this
 ·rw[World.cell?_setCells_out _ _ _ _ _ (fun _ _=>Or.inr (by rw[YY];simp))];exact h.c3
 ·rw[World.cell?_setCells_out _ _ _ _ _ (fun _ _=>Or.inr (by rw[YY];simp))];exact h.c4
 ·rw[World.cell?_setCells_out _ _ _ _ _ (fun _ _=>Or.inr (by rw[YY];simp))];exact h.c5
theorem Yp (w:World) (g i j:Nat) (v:Value) (h:i≠j):(w.setCell ⟨g,i,none⟩ v).cell? ⟨g,j,none⟩=w.cell? ⟨g,j,none⟩:=
 World.cell?_setCell_other _ _ _ _ (by intro e;cases e;exact h rfl)
theorem YF.put3 (h:YF g kd pl f le mo fa w) (x:Int):YF g kd pl f x mo fa (w.setCell ⟨g,258,none⟩ (.int .i64 x)):=by
 refine⟨Wk ?_ ?_ (fun j hj=>?_) ?_ ?_ ?_,VD h.free _ _ _⟩
 ·rw[Yp _ _ _ _ _ (by omega)];exact h.c0
 ·rw[Yp _ _ _ _ _ (by omega)];exact h.c1
 ·rw[Yp _ _ _ _ _ (by omega)];exact h.c2 j hj
 ·exact World.cell?_setCell_same _ _ _ h.c3
 ·rw[Yp _ _ _ _ _ (by omega)];exact h.c4
 ·rw[Yp _ _ _ _ _ (by omega)];exact h.c5
theorem YF.put4 (h:YF g kd pl f le mo fa w) (x:Int):YF g kd pl f le x fa (w.setCell ⟨g,259,none⟩ (.int .i64 x)):=by
 refine⟨Wk ?_ ?_ (fun j hj=>?_) ?_ ?_ ?_,VD h.free _ _ _⟩
 ·rw[Yp _ _ _ _ _ (by omega)];exact h.c0
 ·rw[Yp _ _ _ _ _ (by omega)];exact h.c1
 ·rw[Yp _ _ _ _ _ (by omega)];exact h.c2 j hj
 ·rw[Yp _ _ _ _ _ (by omega)];exact h.c3
 ·exact World.cell?_setCell_same _ _ _ h.c4
 ·rw[Yp _ _ _ _ _ (by omega)];exact h.c5
theorem YF.put5 (h:YF g kd pl f le mo fa w) (x:Int):YF g kd pl f le mo x (w.setCell ⟨g,260,none⟩ (.int .i64 x)):=by
 refine⟨Wk ?_ ?_ (fun j hj=>?_) ?_ ?_ ?_,VD h.free _ _ _⟩
 ·rw[Yp _ _ _ _ _ (by omega)];exact h.c0
 ·rw[Yp _ _ _ _ _ (by omega)];exact h.c1
 ·rw[Yp _ _ _ _ _ (by omega)];exact h.c2 j hj
 ·rw[Yp _ _ _ _ _ (by omega)];exact h.c3
 ·rw[Yp _ _ _ _ _ (by omega)];exact h.c4
 ·exact World.cell?_setCell_same _ _ _ h.c5
theorem YF.boxed (w:World) (kd pl:Int) (f:Nat->Bool) (le mo fa:Int) (t:TypeId):YF w.heap.size kd pl f le mo fa (w.alloc (.cells (Y0 kd pl f le mo fa).toArray t)):=by
 refine⟨fun j v hv=>?_,fun j hj=>?_⟩
 ·rw[Nat.zero_add,World.cell?_alloc_new];simpa using hv
 ·rw[Nat.zero_add,World.cell?_alloc_new];refine⟨by simp[Y9,hj],?_⟩;go_simp
theorem YF.alloc (h:YF g kd pl f le mo fa w) (o:Obj):YF g kd pl f le mo fa (w.alloc o):=⟨World.rangeAt_alloc h.at_ o,World.there_alloc h.free o⟩
theorem YF.put (h:YF g kd pl f le mo fa w) (kd' pl':Int) (f':Nat->Bool) (le' mo' fa':Int):YF g kd' pl' f' le' mo' fa' (w.setCells g 0 (Y0 kd' pl' f' le' mo' fa')):=
 ⟨World.rangeAt_setCells_same _ _ _ _ (by rw[Y9];exact h.free),World.there_setCells h.free _ _ _⟩
theorem YF.far (h:YF g kd pl f le mo fa w) (b o:Nat) (vs:List Value) (hb:g≠b):YF g kd pl f le mo fa (w.setCells b o vs):=
 ⟨World.rangeAt_setCells_apart h.at_ _ _ _ (Or.inl hb),World.there_setCells h.free _ _ _⟩
theorem YF.far1 (h:YF g kd pl f le mo fa w) (b o:Nat) (v:Value) (hb:g≠b):YF g kd pl f le mo fa (w.setCell ⟨b,o,none⟩ v):=h.far b o [v] hb
theorem YF.below (h:YF g kd pl f le mo fa w) (hg:g<B) (hW:Below B w w'):YF g kd pl f le mo fa w':=
 ⟨fun j v hv=>by rw[hW.cell (p:=⟨g,0+j,none⟩) hg];exact h.at_ j v hv,fun j hj=>by rw[hW.cell (p:=⟨g,0+j,none⟩) hg,hW.frozen (p:=⟨g,0+j,none⟩) hg];exact h.free j hj⟩
theorem YF.load (h:YF g kd pl f le mo fa w):(loadVar 156 ⟨g,0,none⟩).run Tryz.prog w=.ok (.agg (Y0 kd pl f le mo fa).toArray) w:=
 run_loadVar_mid (P:=Tryz.prog) w g 0 156 _ _ h.at_ u_a rfl (by rw[Y9];exact Y8)
end
theorem JJ (x y z:Value):(((Y0 0 0 (fun _=>false) 0 0 0).set 0 x).set 1 y).set 260 z=x::y::(Yy (fun _=>false)++[.int .i64 0,.int .i64 0,z]):=by
 simp only[Y0,List.set_cons_zero,List.set_cons_succ];rw[List.set_append_right _ _ (by rw[YY];omega),YY];rfl
theorem Ut (x y z:Int):(((Y0 0 0 (fun _=>false) 0 0 0).set 0 (.int .i64 x)).set 1 (.int .i64 y)).set 260 (.int .i64 z)=Y0 x y (fun _=>false) 0 0 z:=JJ _ _ _
theorem Rj (w:World):YF w.heap.size 0 0 (fun _=>false) 0 0 0 ((w.alloc (Obj.cells (Y0 0 0 (fun _=>false) 0 0 0).toArray 156)).alloc (Obj.cells (Y0 0 0 (fun _=>false) 0 0 0).toArray 156)) /\
  YF (w.heap.size+1) 0 0 (fun _=>false) 0 0 0 ((w.alloc (Obj.cells (Y0 0 0 (fun _=>false) 0 0 0).toArray 156)).alloc (Obj.cells (Y0 0 0 (fun _=>false) 0 0 0).toArray 156)):=by
 refine⟨(YF.boxed w ..).alloc _,?_⟩;have:=YF.boxed (w.alloc (Obj.cells (Y0 0 0 (fun _=>false) 0 0 0).toArray 156)) 0 0 (fun _=>false) 0 0 0 156;rw[show(w.alloc (Obj.cells (Y0 0 0 (fun _=>false) 0 0 0).toArray 156)).heap.size=w.heap.size+1 by simp]at this;exact this
theorem YF.store {f:Nat->Bool} (h:YF g kd pl f le mo fa w) (kd' pl':Int) (f':Nat->Bool) (le' mo' fa':Int):
  (storeCells ⟨g,0,none⟩ (Y0 kd' pl' f' le' mo' fa')).run Tryz.prog w=.ok () (w.setCells g 0 (Y0 kd' pl' f' le' mo' fa')):=by
 have:=run_storeCells_cells (P:=Tryz.prog) g 0 (Y0 kd' pl' f' le' mo' fa') 0 w (fun j hj=>by have:=(h.free j (by rw[Y9]at hj;exact hj)).1;simpa using this) (fun j hj=>by have:=(h.free j (by rw[Y9]at hj;exact hj)).2;simpa using this) (YZ _ _ _ _ _ _);simpa using this
theorem YF.lt {f:Nat->Bool} (h:YF g kd pl f le mo fa w):g<w.heap.size:=World.block_lt_of_cell? w _ h.c0
theorem lP {ops:Array Oper}{rest:List Oper}{a:Act}{w:World}{Q:Exit->Act->World->Prop}{d t p f}{x:Operand}{b o:Nat}{k q:Int}{F:Nat->Bool}{l m z:Int} (e:a.eval x=.pointer (some ⟨b,o,none⟩)) (h:w.rangeAt b o (Y0 k q F l m z)) (r:wpList Tryz.prog ops Q rest (a.put d (.agg (Y0 k q F l m z).toArray)) w):wpList Tryz.prog ops Q (⟨d,.load 156 x,t,p,f,none⟩::rest) a w:=wpList_load_mid rfl 156 _ rfl _ _ e _ _ h u_a rfl (by rw[Y9];exact Y8) r
theorem sP {ops:Array Oper}{rest:List Oper}{a:Act}{w:World}{Q:Exit->Act->World->Prop}{d t p f}{x y:Operand}{b o:Nat}{k q:Int}{F:Nat->Bool}{l m z:Int} (e:a.eval x=.pointer (some ⟨b,o,none⟩)) (e2:a.eval y=.agg (Y0 k q F l m z).toArray) (h:w.there b o 261) (r:wpList Tryz.prog ops Q rest (a.put d undef) (w.setCells b o (Y0 k q F l m z).toArray.toList)):wpList Tryz.prog ops Q (⟨d,.store 156 x y,t,p,f,none⟩::rest) a w:=wpList_store_mid rfl 156 _ _ rfl _ _ _ e e2 (by simpa[Y9]using h) (by simpa[Y9]using Y8) (all_oneCell_toArray (YZ _ _ _ _ _ _)) r
end Go.Proofs.YtoaaklhpmhjhkabGreat
