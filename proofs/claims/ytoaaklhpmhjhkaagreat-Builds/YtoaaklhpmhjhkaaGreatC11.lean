import Derived.Test.YtoaaklhpmhjhkaaGreatC08
set_option maxRecDepth 100000
set_option maxHeartbeats 4000000
set_option linter.all false
namespace Go.Proofs.YtoaaklhpmhjhkaaGreat
open Go.RowKit
open Bm
def HS (ha:Option Addr) (hs:Nat->Nat->Bool) (P:Nat) (w:World):Prop:=∀p b,p<P->b<256->∃blk off,ha=some ⟨blk,off,none⟩/\w.cell? ⟨blk,off+p*256+b,none⟩=some (.bool (hs p b))
variable {a : Act}{ops : Array Oper}{Q : Exit → Act → World → Prop}{rest : List Oper}{P base base' cap g n : Nat}{hs : Nat → Nat → Bool}{ob : Obj}{o : Oper}{ha : Option Addr}{row : Option Nat}{v vl : Value}{W W' W1 w w' w5 : World}
theorem HS.below (h:HS ha hs P w) (hW:Below w.heap.size w w'):HS ha hs P w':=fun p b hp hb=>by
 obtain⟨blk,off,e,hc⟩:=h p b hp hb;refine⟨blk,off,e,?_⟩;rw[hW.cell (p:=⟨blk,off+p*256+b,none⟩) (World.block_lt_of_cell? w _ hc)];exact hc
def Kq (hs:Nat->Nat->Bool) (P:Nat) (a b:Nat):Bool:=(List.range P).all fun p=>hs p a==hs p b
theorem q2B (hs:Nat->Nat->Bool) (P a b:Nat):Kq hs P a b=true<->∀p,p<P->hs p a=hs p b:=by simp[Kq]
theorem q3D (hs:Nat->Nat->Bool) (P n:Nat):Eqv (Kq hs P) n:=
 ⟨fun a _=>(q2B hs P a a).2 (fun _ _=>rfl),fun a b _ _ h=>(q2B hs P b a).2 (fun s hq=>((q2B hs P a b).1 h s hq).symm),fun a b c _ _ _ h k=>(q2B hs P a c).2 (fun s hq=>((q2B hs P a b).1 h s hq).trans ((q2B hs P b c).1 k s hq))⟩
theorem q5M (nb:Nat) (ha:Option Addr) (hc P:Nat) (hs:Nat->Nat->Bool) (a b:Nat) (w:World) (hP:P<=96) (hc0:w.cell? ⟨nb,0,none⟩=some (.slice ha P hc)) (hH:HS ha hs P w) (h1:a<256) (h2:b<256):
  Calls Tryz.prog 127 #[.pointer (some ⟨nb,0,none⟩),.int .u8 a,.int .u8 b] w fun e w'=>e=.returned (.bool (!Kq hs P a b))/\Below w.heap.size w w':=by
 obtain⟨R,hR⟩:=nam (!Kq hs P a b);rw[<-hR];have HR:Hid (R=false<->∀p,p<P->hs p a=hs p b):=by
  show _<->_;rw[hR];have:=q2B hs P a b;simpa using this
 clear hR;have HC:Hid (∀w',Below w.heap.size w w'->w'.cell? ⟨nb,0,none⟩=some (.slice ha P hc)):=fun w' h'=>by
  rw[h'.cell (p:=⟨nb,0,none⟩) (World.block_lt_of_cell? w _ hc0)];exact hc0
 have HH:Hid (∀w',Below w.heap.size w w'->HS ha hs P w'):=fun w' h'=>hH.below h'
 have h1':(a:Int)<256:=by omega
 have h2':(b:Int)<256:=by omega
 clear hH hc0;go_enter Tryz.func127,Tryz.ntmps127;go_wp2_with fail
 go_loopw [7] (fun x w'=>∃p:Nat,p<=P/\x=.int .i64 p/\Below w.heap.size w w'/\Hid (∀j,j<p->hs j a=hs j b)) (fun x _=>P-(intOf x).toNat)
 case atStart=>exact⟨0,by omega,rfl,Below.refl _ _,fun j hj=>by omega⟩
 case round=>
  obtain⟨p,hp,rfl,hW,HJ⟩:=hrel;have c0:=HC.out wr hW;by_cases hlt:p<P
  ·have hlt':(p:Int)<P:=by omega
   obtain⟨g1,o1,e1,k1⟩:=HH.out wr hW p a hlt h1;obtain⟨g2,o2,e2,k2⟩:=HH.out wr hW p b hlt h2;rw[e1]at e2;cases e2;subst e1;obtain⟨x,hx⟩:=nam (hs p a);obtain⟨y,hy⟩:=nam (hs p b);rw[<-hx]at k1;rw[<-hy]at k2;by_cases he:x=y
   ·have HJ2:Hid (∀j,j<p+1->hs j a=hs j b):=fun j hj=>by
     by_cases ej:j=p
     ·subst ej;rw[<-hx,<-hy];exact he
     ·exact HJ.out j (by omega)
    subst he;clear HJ hx hy;go_wp2_with fail
    go_quiet (fail)
    have q1:(x==x)=true:=by simp
    go_wp2_with fail;go_roundw
    case rel=>exact⟨p+1,by omega,by go_num,hW.trans (q1w _ _ _),HJ2⟩
    case measure=>simp[intOf];omega
   ·have HR1:Hid (R=true):=by
     show _=_;cases hR:R
     ·exact absurd (by rw[hx,hy];exact HR.out.1 hR p hlt) he
     ·rfl
    have q1:(x==y)=false:=by simpa using he
    clear HJ hx hy he;go_wp2_with fail
    go_quiet (fail)
    go_wp2_with fail;go_ret;exact⟨q0v HR1.out.symm,hW.trans (q1w _ _ _)⟩
  ·have hge:¬(p:Int)<P:=by omega
   have HR1:=hyd (HR.out.2 (fun j hj=>HJ.out j (by omega)));go_wp2_with fail;go_ret;exact⟨q0v HR1.out.symm,hW⟩
def u8s (l:List Nat):List Value:=l.map fun(x:Nat)=>.int .u8 (x:Int)
def OwnU (base:Nat) (v:Value) (l:List Nat) (w:World):Prop:=w.ownsRow base 5 1 v l.length (u8s l)
theorem OwnU.nil (base:Nat) (w:World):OwnU base (.slice none 0 0) [] w:=⟨rfl,Or.inl ⟨rfl,rfl⟩⟩
theorem OwnU.blk {l:List Nat} (h:OwnU base v l w):∀k,v.ownBlock=some k->base<=k/\k<w.heap.size:=fun k hk=>h.lt k hk
theorem OwnU.keep {l:List Nat} (h:OwnU base v l w) (hk:∀k,v.ownBlock=some k->w'.heap[k]?=w.heap[k]?):OwnU base v l w':=by
 refine⟨h.1,?_⟩;rcases h.2 with h0|⟨g,cap,cur,rfl,h1,h2,h3⟩
 ·exact Or.inl h0
 ·exact Or.inr ⟨g,cap,cur,rfl,h1,by rw[hk g rfl];exact h2,h3⟩
theorem OwnU.below {l:List Nat} (h:OwnU base v l w) (hW:Below w.heap.size w w'):OwnU base v l w':=h.keep (fun k hk=>hW.block k (h.blk k hk).2)
theorem OwnU.mono {l:List Nat} (h:OwnU base v l w) (hb:base'<=base):OwnU base' v l w:=
 ⟨h.1,h.2.imp id (fun⟨g,cap,cur,a,b,c⟩=>⟨g,cap,cur,a,Nat.le_trans hb b,c⟩)⟩
theorem OwnU.grown {l:List Nat} (h:OwnU base v l w) (hg:w.grownBy w' row) (hne:∀k,v.ownBlock=some k->row≠some k):OwnU base v l w':=
 h.keep (fun k hk=>hg.block k (h.blk k hk).2 (fun e=>hne k hk e.symm))
theorem OwnU.at_ {l:List Nat} (h:OwnU base v l w):∃ad cap,v=.slice ad l.length cap/\∀(i x:Nat),l[i]?=some x->∃g,ad=some ⟨g,0,none⟩/\w.cell? ⟨g,i,none⟩=some (.int .u8 (x:Int)):=by
 rcases h.2 with ⟨rfl,h0⟩|⟨g,cap,cur,rfl,h1,h2,h3,h4,h5,h6⟩
 ·refine⟨none,0,by rw[h0],fun i x hi=>?_⟩;have hl:=(List.getElem?_eq_some_iff.1 hi).1;omega
 ·refine⟨some ⟨g,0,none⟩,cap,rfl,fun i x hi=>⟨g,rfl,?_⟩⟩;have hx:=h.cells (g:=g) rfl i (.int .u8 (x:Int)) (by simp[u8s,hi]);rw[Addr.add_lit,Nat.zero_add]at hx;exact hx
theorem q3X (hgd:o.guard=none) (s x:Operand)
  (ho:o.op=.call { callee:=.builtin .append,args:=#[s,x],argTypes:=#[99,99] }) (base:Nat)
  (v:Value) (l:List Nat) (hs:a.eval s=v) (hown:OwnU base v l w) (hn:l.length<=1000000)
  (B:Nat) (t:Nat) (hx:a.eval x=.slice (some ⟨B,0,none⟩) 1 1) (hnews:w.cell? ⟨B,0,none⟩=some (.int .u8 (t:Int))) (hbase:base<=w.heap.size) (H:Nat) (hH:w.heap.size=H)
  (h:∀g cap w',OwnU base (.slice (some ⟨g,0,none⟩) (l.length+1) cap) (l++[t]) w'->w.grownBy w' v.ownBlock->(v.ownBlock=some g\/g=H)->g<w'.heap.size->wpList Tryz.prog ops Q rest (a.put o.dst (.slice (some ⟨g,0,none⟩) (l.length+1) cap)) w'):wpList Tryz.prog ops Q (o::rest) a w:=by
 obtain⟨i,hi,hz0,hz1,hz2⟩:=eInfoU8;refine wpList_append_lies w hgd s x 99 ho base 5 i (.int .u8 0) 1 1 Tryz.underlying99 hi hz0 hz1 hz2 rfl (by omega) v l.length (u8s l) hs hown ⟨B,0,none⟩ 1 1 [.int .u8 (t:Int)] hx rfl (fun j u hu=>?_) (by simp[Value.oneCell']) (by omega) (by unfold maxLen;omega) (by omega) hbase H hH ?_
 ·rw[Addr.add_lit,Nat.zero_add];cases j with
  |zero=>simp at hu;subst hu;exact hnews
  |succ j=>simp at hu
 ·intro g cap w' h1 h2 h3 h4;refine h g cap w' ?_ h2 h3 h4;unfold OwnU;rw[List.length_append];simp only[u8s,List.map_append];exact h1
def kcells (f:Nat->Int) (v:Value):List Value:=(List.range 256).map (fun i=>.int .i64 (f i))++[v]
theorem q1b (f:Nat->Int) (v:Value):(kcells f v).length=257:=by simp[kcells]
theorem q1O (f:Nat->Int) (v:Value) (i:Nat) (h:i<256):(kcells f v)[i]?=some (.int .i64 (f i)):=by
 unfold kcells;rw[List.getElem?_append_left (by simpa using h)];simp[h]
theorem q1r (f:Nat->Int) (v:Value):(kcells f v)[256]?=some v:=by
 unfold kcells;rw[List.getElem?_append_right (by simp)];simp
theorem q5d (w:World):(zeroValue 142).run Tryz.prog w=.ok (.agg (kcells (fun _=>0) (.slice none 0 0)).toArray) w:=by kernel_rfl
theorem q2H:(Tryz.prog.info? 142).map (·.size)=some 257:=by kernel_rfl
structure KN (w:World) (f:Nat->Int) (vl:Value) (l:List Nat) (W:World):Prop where
 z:TC w.heap.size (kcells (fun _=>0) (.slice none 0 0)) W
 s:TC (w.heap.size+1) (kcells f vl) W
 l:OwnU (w.heap.size+2) vl l W
 b:Below w.heap.size w W
theorem Bm.TC.ltK {t:Nat}{f:Nat->Int} (h:TC t (kcells f v) w):t<w.heap.size:=World.block_lt_of_cell? w _ (h 0 _ (q1O f v 0 (by omega))).1
theorem Bm.TC.belowK {t:Nat}{f:Nat->Int} (h:TC t (kcells f v) w) (hW:Below w.heap.size w w'):TC t (kcells f v) w':=h.block (hW.block t h.ltK)
theorem KN.size {f:Nat->Int}{l:List Nat} (h:KN w f vl l W):w.heap.size+2<=W.heap.size:=by have:=h.s.ltK;omega
theorem KN.below {f:Nat->Int}{l:List Nat} (h:KN w f vl l W) (hW:Below W.heap.size W W'):KN w f vl l W':=
 ⟨h.z.belowK hW,h.s.belowK hW,h.l.below hW,h.b.trans (hW.mono h.b.size)⟩
theorem q9B (f:Nat->Int) (v:Value) (i:Nat) (x:Int) (h:i<256):(kcells f v).set i (.int .i64 x)=kcells (fun j=>if j=i then x else f j) v:=by
 refine List.ext_getElem? (fun j=>?_);by_cases e:j=i
 ·subst e;rw[List.getElem?_set_self (by rw[q1b];omega),q1O _ _ _ h];simp
 ·rw[List.getElem?_set_ne (fun h=>e h.symm)];rcases Nat.lt_or_ge j 256 with hj|hj
  ·rw[q1O _ _ _ hj,q1O _ _ _ hj];simp[e]
  ·by_cases hj2:j=256
   ·subst hj2;rw[q1r,q1r]
   ·rw[List.getElem?_eq_none (by rw[q1b];omega),List.getElem?_eq_none (by rw[q1b];omega)]
theorem q8g (f:Nat->Int) (v u:Value):(kcells f v).set 256 u=kcells f u:=by
 unfold kcells;rw[List.set_append_right _ _ (by simp)];simp
theorem KN.put {f:Nat->Int}{l:List Nat} (h:KN w f vl l W) (i:Nat) (hi:i<256) (x:Int):KN w (fun j=>if j=i then x else f j) vl l (W.setCell ⟨w.heap.size+1,i,none⟩ (.int .i64 x)):=by
 have hb:∀k,k≠w.heap.size+1->(W.setCell ⟨w.heap.size+1,i,none⟩ (.int .i64 x)).heap[k]?=W.heap[k]?:=fun k hk=>Below.heap_setCell W ⟨w.heap.size+1,i,none⟩ _ k (fun e=>hk e)
 refine⟨h.z.block (hb _ (by omega)),?_,h.l.keep (fun k hk=>hb k (by have:=(h.l.blk k hk).1;omega)),h.b.setCell (p:=⟨w.heap.size+1,i,none⟩) (Nat.le_succ _) _⟩;rw[<-q9B f vl i x hi];exact h.s.set i (by rw[q1b];omega) _
theorem KN.putL {f:Nat->Int}{l l':List Nat} (h:KN w f vl l W) (hW1:W1=W.alloc ob)
  (h5:OwnU (w.heap.size+2) (.slice (some ⟨g,0,none⟩) n cap) l' w5) (hg:W1.grownBy w5 vl.ownBlock):
  KN w f (.slice (some ⟨g,0,none⟩) n cap) l' (w5.setCell ⟨w.heap.size+1,256,none⟩ (.slice (some ⟨g,0,none⟩) n cap)):=by
 have hs:=h.size;have x1:Below W.heap.size W W1:=by rw[hW1];exact box_bel _ _
 have hz1:W1.heap.size=W.heap.size+1:=by rw[hW1];simp
 have k1:=h.below x1;have hb:∀k,k≠w.heap.size+1->(w5.setCell ⟨w.heap.size+1,256,none⟩ (.slice (some ⟨g,0,none⟩) n cap)).heap[k]?=w5.heap[k]?:=fun k hk=>Below.heap_setCell w5 ⟨w.heap.size+1,256,none⟩ _ k (fun e=>hk e)
 have hfb:=h.l.blk;have hg2:=(h5.blk g rfl).1;refine⟨?_,?_,?_,?_⟩
 ·refine(k1.z.block (hg.block _ (by omega) (fun e=>?_))).block (hb _ (by omega));have:=(hfb _ e.symm).1;omega
 ·rw[<-q8g f vl];exact(k1.s.block (hg.block _ (by omega) (fun e=>by have:=(hfb _ e.symm).1;omega))).set 256 (by rw[q1b];omega) _
 ·exact h5.keep (fun k hk=>hb k (by cases hk;show g≠_;omega))
 ·exact(k1.b.grown hg (by omega) (fun q hq=>by have:=(hfb q hq).1;omega)).setCell (p:=⟨w.heap.size+1,256,none⟩) (Nat.le_succ _) _
def KindPost (E:Nat->Nat->Bool) (w:World) (e:Ending) (w':World):Prop:=
 ∃(f:Nat->Int) (vl:Value),e=.returned (.agg (kcells f vl).toArray)/\(∀b,b<256->f b=idxI E b)/\OwnU w.heap.size vl (reps E 256) w'/\Below w.heap.size w w'
theorem q8e (nb:Nat) (ha:Option Addr) (hc P:Nat) (hs:Nat->Nat->Bool) (w:World) (hP:P<=96) (hc0:w.cell? ⟨nb,0,none⟩=some (.slice ha P hc)) (hH:HS ha hs P w):
  Calls Tryz.prog 65 #[.pointer (some ⟨nb,0,none⟩)] w (KindPost (Kq hs P) w):=by
 have hz:=q5d;have HC:Hid (∀(a b:Nat) (w':World),a<256->b<256->Below w.heap.size w w'->Calls Tryz.prog 127 #[.pointer (some ⟨nb,0,none⟩),.int .u8 a,.int .u8 b] w' fun e w''=>e=.returned (.bool (!Kq hs P a b))/\Below w'.heap.size w' w''):=fun a b w' h1 h2 h'=>q5M nb ha hc P hs a b w' hP (by rw[h'.cell (p:=⟨nb,0,none⟩) (World.block_lt_of_cell? w _ hc0)];exact hc0) (hH.below h') h1 h2
 have HE:=hyd (q3D hs P 256);clear hc0 hH hP;generalize Kq hs P=E at *;obtain⟨W,hW⟩:=nam ((w.alloc (.cells (kcells (fun _=>0) (.slice none 0 0)).toArray 142)).alloc (.cells (kcells (fun _=>0) (.slice none 0 0)).toArray 142));have S0:KN w (fun _=>0) (.slice none 0 0) [] W:=by
  have hs1:(w.alloc (.cells (kcells (fun _=>0) (.slice none 0 0)).toArray 142)).heap.size=w.heap.size+1:=by simp
  rw[hW];refine⟨(TC.boxed w (kcells (fun _=>0) (.slice none 0 0)) _).belowK (box_bel _ _),?_,OwnU.nil _ _,(box_bel w _).trans ((box_bel _ _).mono (by simp))⟩;rw[<-hs1];exact TC.boxed _ (kcells (fun _=>0) (.slice none 0 0)) _
 go_enter Tryz.func65,Tryz.ntmps65;go_wp2_with fail;rw[<-hW];clear hW
 go_loopw [4] (fun x w'=>∃(a:Nat) (f:Nat->Int) (vl:Value),a<=256/\x=.int .i64 a/\Hid (∀b,b<a->f b=idxI E b)/\KN w f vl (reps E a) w') (fun x _=>256-(intOf x).toNat)
 case atStart=>exact⟨0,_,_,by omega,rfl,fun b hb=>by omega,S0⟩
 case round=>
  clear S0;obtain⟨a,f,vl,ha,rfl,HF,S1⟩:=hrel;by_cases hlt:a<256
  ·have hlt':(a:Int)<256:=by omega
   obtain⟨va,vc,hvl,_⟩:=S1.l.at_;subst hvl;have hnew:=rep_new HE.out hlt;have hcl:=cnt_le E a;obtain⟨id,hid⟩:=nam (idx E a);rw[<-hid]at hnew;have Hid1:=hyd hid;clear hid;obtain⟨c,hc2⟩:=nam (cnt E a);have Hc:=hyd hc2;have hc3:(reps E a).length=c:=by rw[hc2];rfl
   rw[hc3]at S1;rw[<-hc2]at hnew hcl;have Hc3:=hyd hc3;clear hc2 hc3;have HNew:=hyd hnew.1;have hidc:=hnew.2;clear hnew;go_wp2_with fail
   go_loopw [6] (fun x w'=>∃j:Nat,j<=id/\x=.int .i64 j/\KN w f (.slice va c vc) (reps E a) w') (fun x _=>c-(intOf x).toNat)
   case atStart=>exact⟨0,by omega,rfl,S1⟩
   case round=>
    clear S1;obtain⟨j,hj,rfl,S1⟩:=hrel;have c1:=(S1.s 256 _ (q1r _ _)).1;by_cases hjc:j<c
    ·have hjc':(j:Int)<c:=by omega
     obtain⟨r,hr⟩:∃r,(reps E a)[j]?=some r:=⟨(reps E a)[j]'(by have:=Hc3.out;omega),List.getElem?_eq_getElem _⟩;have hrm:=reps_mem hr;have hlk:=rep_like HE.out hlt hr;rw[<-Hid1.out]at hlk;obtain⟨ad2,cap2,hv2,il2⟩:=S1.l.at_;have hv3:=(Value.slice.inj hv2).1;rw[<-hv3]at il2;obtain⟨fb_,hfa,c2⟩:=il2 j r hr;subst hfa;have HCr1:=hyd (HC.out r a wr (by omega) hlt S1.b);have Hlk:=hyd hlk;clear hlk hr hrm hv2 il2 hv3;go_wp2_with fail;refine HCr1.out.mono ?_;rintro e w2 ⟨rfl,hW2⟩;have S2:=S1.below hW2;clear S1 c1 c2 HCr1 hW2;cases hE:E r a
     ·have hne:j≠id:=fun e=>by have:=Hlk.out.2 e;rw[hE]at this;cases this
      go_wp2_with fail;go_roundw
      case rel=>exact⟨j+1,by omega,by go_num,S2⟩
      case measure=>simp[intOf];omega
     ·have hji:=Hlk.out.1 hE;subst hji;have hold:least E a≠a:=fun e=>by have:=HNew.out.2 e;omega
      have q1:((j:Int)==(c:Int))=false:=by simp;omega
      have c1:=(S2.s 256 _ (q1r _ _)).1;obtain⟨c5,c5f⟩:=S2.s a _ (q1O _ _ _ hlt);have S3:=S2.put a hlt (j:Int);have e2:reps E (a+1)=reps E a:=by rw[reps_succ,if_neg hold,List.append_nil]
      rw[<-e2]at S3;have HF2:Hid (∀b,b<a+1->(if b=a then (j:Int) else f b)=idxI E b):=fun b hb=>by
       by_cases eb:b=a
       ·subst eb;simp[idxI,<-Hid1.out]
       ·simp[eb];exact HF.out b (by omega)
      have HS3:=hyd S3;clear S2 S3 hold e2;go_wp2_with fail;go_roundw
      case rel=>exact⟨a+1,_,_,by omega,by go_num,HF2,HS3.out⟩
      case measure=>simp[intOf];omega
    ·have hjc2:c=j:=by omega
     have hic:id=c:=by omega
     have hnw2:=HNew.out.1 hic;have HIc:=hyd hic;clear hic hj hidc HNew;subst hjc2;have hge:¬(c:Int)<c:=by omega
     have q1:((c:Int)==(c:Int))=true:=by simp
     have hx:=box_bel wr (.cells #[.int .u8 (a:Int)] 5);have hO1:=S1.l.below hx;have hnw:(wr.alloc (.cells #[.int .u8 (a:Int)] 5)).cell? ⟨wr.heap.size,0,none⟩=some (.int .u8 (a:Int)):=by rw[World.cell?_alloc_new];rfl
     have hbs:=Nat.le_trans S1.size hx.size;have HK:Hid (∀w5,(wr.alloc (.cells #[.int .u8 (a:Int)] 5)).grownBy w5 (Value.slice va c vc).ownBlock->TC (w.heap.size+1) (kcells f (.slice va c vc)) w5):=fun w5 hg=>
      (S1.s.belowK hx).block (hg.block _ (by have:=S1.size;have:=hx.size;omega) (fun e=>by have:=(S1.l.blk _ e.symm).1;omega))
     have HS2:=hyd S1;have Hold:=hyd hnw2;clear S1 hx hnw2;go_wp2_with (first|(at_builtin;refine q3X (by rfl) _ _ (by rfl) (w.heap.size+2) (.slice va c vc) (reps E a) (by rfl) hO1 (by rw[Hc3.out];omega) wr.heap.size a (by rfl) hnw hbs _ rfl ?_;rw[Hc3.out];intro g cap w5 hO5 hgrow hgb hl5;obtain⟨c6,c6f⟩:=HK.out w5 hgrow 256 _ (q1r _ _);have S5:=HS2.out.putL rfl hO5 hgrow;obtain⟨c7,c7f⟩:=S5.s a _ (q1O _ _ _ hlt)));have S6:=S5.put a hlt (c:Int);have e2:reps E a++[a]=reps E (a+1):=by rw[reps_succ,if_pos Hold.out]
     rw[e2]at S6;have HF2:Hid (∀b,b<a+1->(if b=a then (c:Int) else f b)=idxI E b):=fun b hb=>by
      by_cases eb:b=a
      ·subst eb;simp[idxI,<-Hid1.out,HIc.out]
      ·simp[eb];exact HF.out b (by omega)
     go_roundw
     case rel=>exact⟨a+1,_,_,by omega,by go_num,HF2,S6⟩
     case measure=>simp[intOf];omega
  ·have hge:¬(a:Int)<256:=by omega
   have haN:a=256:=by omega
   subst haN;have hrg:=S1.s.range;have hth:wr.there w.heap.size 0 257:=by have:=S1.z.there;rw[q1b]at this;exact this
   obtain⟨L,hL⟩:=nam (kcells f vl);have hLl:L.length=257:=by rw[hL];exact q1b _ _
   rw[<-hL]at hrg;have hG:=q0e w.heap.size L 0 wr;have hr':=World.rangeAt_setCells_same wr w.heap.size 0 L (by rw[hLl];exact hth);have hfin:=run_loadVar_mid (P:=Tryz.prog) (wr.setCells w.heap.size 0 L) w.heap.size 0 142 L _ hr' Tryz.underlying142 rfl (by rw[hLl];exact q2H);obtain⟨W9,hW9⟩:=nam (wr.setCells w.heap.size 0 L);rw[<-hW9]at hG hfin;have HW9:=hyd hW9;have Hfin:=hyd hfin;have HO1:Hid (L.toArray.all (·.oneCell')=true):=by
    obtain⟨a1,c1,h1,_⟩:=S1.l.at_;show _=true;rw[hL,h1];simp[kcells,Value.oneCell']
   have HLl:=hyd hLl;have HL:=hyd hL;have HS1:=hyd S1;clear hW9 hr' hfin hL hLl S1;go_wp2_with (first|(refine wpList_load_mid rfl 142 _ rfl (w.heap.size+1) 0 rfl L _ hrg Tryz.underlying142 rfl (by rw[HLl.out];exact q2H) ?_)|(refine wpList_store_mid rfl 142 _ _ rfl w.heap.size 0 L.toArray rfl rfl (by simpa[HLl.out]using hth) (by simpa[HLl.out]using q2H) HO1.out ?_;rw[List.toList_toArray,<-HW9.out]));refine bodyPost_ret (v:=.agg L.toArray) (res_load1 Tryz.results65 rfl Hfin.out) rfl ?_;have S1:=HS1.out;refine⟨f,vl,by rw[HL.out],HF.out,(S1.l.grown hG (fun k hk e=>?_)).mono (by omega),S1.b.grown hG S1.b.size (fun q hq=>by cases hq;exact Nat.le_refl _)⟩;have:=(S1.l.blk k hk).1;have:=Option.some.inj e;omega
end Go.Proofs.YtoaaklhpmhjhkaaGreat
