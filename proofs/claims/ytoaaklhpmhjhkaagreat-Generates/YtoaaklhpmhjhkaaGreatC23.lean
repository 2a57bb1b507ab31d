import Derived.Test.YtoaaklhpmhjhkaaGreatC22
set_option maxRecDepth 100000
set_option maxHeartbeats 4000000
set_option linter.all false
namespace Go.Proofs.YtoaaklhpmhjhkaaGreat
open Go.RowKit
open Bm
theorem G3 (w:World):(Instr.build 77 #[]).run Tryz.prog w=.ok (.agg #[sN,sN,sN]) w:=by kernel_rfl
structure P1 (pb:Nat) (E:Nat->Nat->Bool) (b:Nat) (vs:Nat->Value) (ls:Nat->List Value) (w0 w:World):Prop where
 q:L6 pb (pb+1) 3 6 FQ vs ls (fun _=>False) w
 l0:ls 0=[]
 l1:ls 1=[]
 l2:ls 2=(reps E b).map VD
 l3:ls 3=(List.range b).map fun a=>VD (least E a)
 l4:ls 4=[]
 l5:ls 5=[]
 v4:vs 4=.slice none 0 0
 v5:vs 5=.slice none 0 0
 b:Below w0.heap.size w0 w
 s:w0.heap.size=pb
theorem P1.first (w:World) (E:Nat->N_) (y:TypeId):P1 w.heap.size E 0 (λ_=>sN) (λ_=>[]) w (w.alloc (.cells #[sN,sN,sN] y)):=
 ⟨⟨TC.boxed w [sN,sN,sN] y,λi _=>Wt.nil _ _ _,λi j k _ _ _ h=>(by cases h),λk h=>h.elim,by omega,by omega⟩,rfl,rfl,rfl,rfl,rfl,rfl,rfl,rfl,box_bel _ _,rfl⟩
variable {l:List (N_)}{O:List Nat}{B B0 N P R b base cap g i len n nr nv pb rules:Nat}{f:N_}{ls:Nat->List Value}{sk tk xb:Nat->Nat}{E:Nat->N_}{rows rw_:Nat->Nat->Int}{X:Nat->Prop}{vs:Nat->Value}{ta:Option Addr}{vo:Value}{W w w' w0 w5:World}
theorem P1.below (h:P1 pb E b vs ls w0 w) (y:Bl w w'):P1 pb E b vs ls w0 w':=
 ⟨h.q.below (by omega) y,h.l0,h.l1,h.l2,h.l3,h.l4,h.l5,h.v4,h.v5,h.b.trans (y.mono h.b.size),h.s⟩
theorem P1.pm (h:P1 pb E 256 vs ls w0 w) (P R:Nat) (vd:Nat->Int) (rw_:Nat->Nat->Int) (sk tk:Nat->Nat):PM pb (pb+1) P R E [] 0 0 vd rw_ sk tk vs ls (λ_=>False) w0 w:=
 ⟨h.q,h.l0,h.l1,h.l2,h.l3,h.l4,h.l5,λi a=>by simp at a,λi a=>by omega,h.b,Nat.le_of_eq h.s⟩
theorem PM.congr {vd vd':Nat->Int}{rw':Nat->Nat->Int} (h:PM pb base P R E l nv nr vd rw_ sk tk vs ls X w0 w) (H:∀i,i<nv->vd i=vd' i) (z:∀i b,i<nr->b<256->rw_ i b=rw' i b):PM pb base P R E l nv nr vd' rw' sk tk vs ls X w0 w:=
 ⟨h.q,by rw[h.l0];exact ZO (λi a=>by rw[H i (ZI.1 a)]),h.l1,h.l2,h.l3,h.l4,h.l5,h.st,λi a w' h1 h2 b c=>by
  obtain⟨x,y,d,e2⟩:=h.rs i a w' h1 h2 b c;exact⟨x,y,d,by rw[e2,z i b a c]⟩,h.b,h.s⟩
def Rt (l:List (Nat->Bool)) (i:Nat):Int:=To (λr=>(l.getD i U9) (96+r)) 8 0
def Ng (E:Nat->Nat->Bool) (t:List Int) (i b:Nat):Int:=t.getD (i*(reps E 256).length+idx E b) (-1)
theorem D5 (h:i<l.length) (g:N_):Rt (l++[g]) i=Rt l i:=by unfold Rt;rw[NN h]
theorem PM.allAt {vd:Nat->Int} (h:PM pb base P R E l nv nr vd rw_ sk tk vs ls X w0 w) {y n c4:Nat} (H:vs 4=sL y n c4) {i:Nat} (z:i<l.length):w.cell? (a_ y i)=some (.slice (some (a_ (sk i) 0)) (P+R) (P+R)):=by
 obtain⟨ad,cap,e,a⟩:=(h.q.o 4 (by omega)).form;rw[H]at e;rw[h.l4]at a;obtain⟨g,b,e2⟩:=a i (.slice (some (a_ (sk i) 0)) (P+R) (P+R)) (by simp[z]);cases e;cases b;exact e2
theorem PM.keysAt {vd:Nat->Int} (h:PM pb base P R E l nv nr vd rw_ sk tk vs ls X w0 w) {y n c5:Nat} (z:vs 5=sL y n c5):Sg y 0 (λi=>Wu (em P (l.getD i U9)) (P+R)) l.length w:=λi c=>by
 obtain⟨ad,cap,e,a⟩:=(h.q.o 5 (by omega)).form;rw[z]at e;rw[h.l5]at a;obtain⟨g,b,e2⟩:=a i (.string (Wu (em P (l.getD i U9)) (P+R))) (by simp[c]);cases e;cases b;rw[Zn];exact e2
theorem PM.twinAt {vd:Nat->Int} (h:PM pb base P R E l nv nr vd rw_ sk tk vs ls X w0 w) {ta:Option Addr}{n c3:Nat} (z:vs 3=.slice ta n c3) {i:Nat} (y:i<256):∃a3,ta=some (a_ a3 0)/\w.cell? (a_ a3 i)=some (I6 (least E i:Nat)):=by
 obtain⟨ad,cap,e,a⟩:=(h.q.o 3 (by omega)).form;rw[z]at e;rw[h.l3]at a;obtain⟨g,b,e2⟩:=a i (VD (least E i)) (by simp[y]);cases e;exact⟨g,b,e2⟩
structure Ob (es:Nat->Rx) (R P:Nat) (E:Nat->Nat->Bool) (s n:Nat) (l:List (Nat->Bool)) (t:List Int):Prop where
 ln:n=l.length
 su:∀g∈l,JD P R g
 ex:WS (VT es R) (X5 es R) (reps E 256) s 0 l t
structure Ib (es:Nat->Rx) (R P:Nat) (E:Nat->Nat->Bool) (s:Nat) (t0:List Int) (b n:Nat) (l:List (Nat->Bool)) (g:Nat->Bool) (to:Nat->Int):Prop where
 ln:n=l.length
 mx:n<=201+b
 su:∀g∈l,JD P R g
 lt:s<n
 at_:l[s]?=some g
 gh:Gh (VT es R) (X5 es R) E s t0 b l to
def Nm (es:Nat->Rx) (R:Nat) (w:World) (e:Ending) (w':World):Prop:=
 Below w.heap.size w w' /\
 ((e=.returned (.tuple #[.pointer none,.bool false])/\∃s k l t f b,WS (VT es R) (X5 es R) (TV es R) s k l t/\l[s]?=some f/\(TV es R)[k]?=some b/\200<=Xz l (VT es R f b)) \/
  ∃l t pb,e=.returned (.tuple #[.pointer (some ⟨pb,0,none⟩),.bool true])/\WS (VT es R) (X5 es R) (TV es R) l.length 0 l t/\IE pb l.length (Xu l t (TV es R).length).vd (λi b=>t.getD (i*(TV es R).length+idx (Kq (Xn es R) (Y2 es R)) b) (-1)) (TV es R) w')
theorem Ev (h:TC b (bl f n) w):BR (some (a_ b 0)) f n w:=λi a=>⟨b,0,rfl,by rw[Zn];exact(h i _ (YO f a)).1⟩
theorem Fj (X0:Nat->Prop) (gb R:Nat) (tr ad cp:Nat->Nat) (ms:Nat->Pa) (Ts:Nat->Nat->Nd) (Ns:Nat->Nat) (es:Nat->Rx) (ti nd:Nat->Nat) (H:Gm R Ts Ns es ti nd) (Y:R<=8) (y:Y2 es R<=96) (J:∀r,r<R->Ns r<=20000) (w:World) (hG:GX X0 gb (Y2 es R) R tr ad cp ms Ts Ns es w) (z:GR gb (Y2 es R) R tr Ts Ns ti nd w) (Z:NX gb (Y2 es R) R (DO es Ts Ns ti nd (Y2 es R)) w):
  Calls Tryz.prog 28 #[.pointer (some (a_ gb 0))] w (Nm es R w):=by
 have hz:=G3;obtain⟨P,hPe⟩:∃P,P=Y2 es R:=⟨_,rfl⟩;obtain⟨E,hEe⟩:∃E,E=Kq (Xn es R) (Y2 es R):=⟨_,rfl⟩;have HTw:Hid (∀(b:Nat) (w':World),b<256->Below w.heap.size w w'->Calls Tryz.prog 54 #[.pointer (some (a_ gb 0)),I6 b] w' λe w''=>e=.returned (I6 (least E b))/\Below w'.heap.size w' w''):=λb w' hb hW=>by
  rw[hEe,<-Hz H hb];exact FG gb _ R tr Ts Ns ti nd b w' (by omega) (by omega) (λr hr=>by have:=J r hr;omega) (z.below hW) hb
 have HAt:Hid (∀w',Below w.heap.size w w'->Calls Tryz.prog 55 #[.pointer (some (a_ gb 0))] w' λe w''=>e=.returned (.slice (some (a_ w'.heap.size 0)) (P+R) (P+R))/\TC w'.heap.size (bl (em P (X5 es R)) (P+R)) w''/\Below w'.heap.size w' w''/\w'.heap.size+1<=w''.heap.size):=λw' hW=>by
  rw[hPe];refine(DD X0 gb R tr ad cp ms Ts Ns es ti nd H (by omega) (by omega) J w' (hG.below hW)).mono ?_;rintro e w'' ⟨h1,h2,h3⟩;refine⟨h1,?_,h3⟩;rw[YU (g:=em (Y2 es R) (X5 es R)) (λq hq=>Cm H hq y)]at h2;exact h2
 have HNo:Hid (∀w',Below w.heap.size w w'->Calls Tryz.prog 52 #[.pointer (some (a_ gb 0))] w' λe w''=>e=.returned (.slice (some (a_ w'.heap.size 0)) (P+R) (P+R))/\TC w'.heap.size (bl (em P U9) (P+R)) w''/\Below w'.heap.size w' w''/\w'.heap.size+1<=w''.heap.size):=λw' hW=>by
  rw[hPe];exact Ss gb _ R w' (by omega) (by omega) (z.below hW).gl
 have HMv:Hid (∀(w':World) (sa:Option Addr) (sc:Nat) (g:N_) (b:Nat),Below w.heap.size w w'->b<256->BR sa (em P g) (P+R) w'->Calls Tryz.prog 58 #[.pointer (some (a_ gb 0)),.slice sa (P+R) sc,I6 b] w' λe w''=>e=.returned (.slice (some (a_ w'.heap.size 0)) (P+R) (P+R))/\TC w'.heap.size (bl (em P (VT es R g b)) (P+R)) w''/\Below w'.heap.size w' w''/\w'.heap.size+1<=w''.heap.size):=λw' sa sc g b hW hb hS=>by
  rw[hPe]at hS ⊢;refine(Gu gb _ R tr Ts Ns ti nd _ sa sc _ b w' (by omega) (by omega) (λr hr=>by have:=J r hr;omega) (z.below hW) (Z.below hW) hS hb).mono ?_;rintro e w'' ⟨h1,h2,h3⟩;refine⟨h1,?_,h3⟩;rw[YU (λq hq=>Dy H y g hb hq)]at h2;exact h2
 have HVd:Hid (∀(w':World) (sa:Option Addr) (sc:Nat) (g:N_),Below w.heap.size w w'->JD P R g->BR sa (em P g) (P+R) w'->Calls Tryz.prog 57 #[.pointer (some (a_ gb 0)),.slice sa (P+R) sc] w' λe w''=>e=.returned (I6 (To (λr=>g (96+r)) 8 0))/\w''=w'):=λw' sa sc g hW hg hS=>by
  rw[hPe]at hS hg ⊢;rw[<-IA y Y hg];exact Lq gb _ R sa sc _ w' (by omega) (by omega) (z.below hW).gl hS
 have HSn:Hid (∀g b,JD P R (VT es R g b)):=λg b=>by rw[hPe];exact KW es R y g b
 have HS0:Hid (JD P R (X5 es R)):=by rw[hPe];exact MC es R y
 have HEv:Hid (Eqv E 256/\TV es R=reps E 256):=⟨by rw[hEe];exact TE _ _ _,by rw[hEe];rfl⟩;have hP':(P:Int)<=96:=by omega
 have hR':(R:Int)<=8:=by omega
 have HPl:Hid (Nm es R w=Nm es R w):=rfl;have Hee:Hid (E=Kq (Xn es R) (Y2 es R)/\P<=96):=⟨hEe,by omega⟩;obtain⟨pb,hpb⟩:∃pb,pb=w.heap.size:=⟨_,rfl⟩;have HP0:Hid (P1 pb E 0 (λ_=>.slice none 0 0) (λ_=>[]) w (w.alloc (.cells #[.slice none 0 0,.slice none 0 0,.slice none 0 0] 77))):=by rw[hpb];exact P1.first w E _
 have Hpb:Hid (pb=w.heap.size):=hpb;clear hG z Z H J hPe hEe hpb;go_enter Tryz.func28,Tryz.ntmps28;go_wp2_with fail;rw[<-Hpb.out];clear hz
 go_loopw [5,6] (λtv x w'=>∃(b:Nat) (ta:Option Addr) (tc:Nat) (vs:Nat->Value) (ls:Nat->List Value),b<=256/\x=I6 b/\tv=.slice ta b tc/\Hid (vs 3=.slice ta b tc)/\P1 pb E b vs ls w w') (λ_ x _=>256-(intOf x).toNat)
 case atStart=>exact⟨0,none,0,(λ_=>.slice none 0 0),(λ_=>[]),by omega,rfl,rfl,(show _=_ from rfl),HP0.out⟩
 case round=>
  clear HP0;obtain⟨b,ta,tc,vs,ls,hb,rfl,rfl,H3,P1b⟩:=hrel;by_cases hlt:b<256
  ·have hlt':(b:Int)<256:=by omega
   have HC:Hid (Calls Tryz.prog 54 #[.pointer (some (a_ gb 0)),I6 b] wr λe w''=>e=.returned (I6 (least E b))/\Below wr.heap.size wr w''):=HTw.out b wr hlt P1b.b;have HP1:Hid (P1 pb E b vs ls w wr):=P1b;obtain⟨tw,htw⟩:∃tw,tw=least E b:=⟨_,rfl⟩;have Htw:Hid (tw=least E b):=htw;rw[<-htw]at HC;clear P1b htw;go_wp2_with fail;refine HC.out.mono ?_;rintro e w1 ⟨rfl,B1⟩;have P2:=HP1.out.below B1;have hx1:=box_bel w1 (.cells #[I6 (tw:Int)] 3);have Q2:=P2.q.below (by omega) hx1;have hO3:=Q2.o 3 (by omega);rw[H3.out,P2.l3]at hO3;have hnw:(w1.alloc (.cells #[I6 (tw:Int)] 3)).cell? (a_ w1.heap.size 0)=some (I6 (tw:Int)):=by rw[World.cell?_alloc_new];rfl
   have hbs:pb+1<=(w1.alloc (.cells #[I6 (tw:Int)] 3)).heap.size:=by have:=hx1.size;have:=P2.q.lt (by omega);omega
   have Hl3:Hid (((List.range b).map λa=>VD (least E a)).length=b):=by show _=_;simp
   have HQ2:Hid (L6 pb (pb+1) 3 6 FQ vs ls (λ_=>False) (w1.alloc (.cells #[I6 (tw:Int)] 3))/\P1 pb E b vs ls w w1):=⟨Q2,P2⟩;clear P2 Q2 hx1 B1 HC;go_wp2_with (first|(with_reducible show wpList _ _ _ (⟨_,Op.call { callee:=Callee.builtin Builtin.append,args:=_,argTypes:=_ },_,_,_,_⟩::_) _ _;refine X9.out ?_));refine⟨?_⟩;refine YK 23 3 u_f Wi rfl (by omega) (by rfl) _ _ (by rfl) (pb+1) (.slice ta b tc) _ (by rfl) hO3 (by rw[Hl3.out];omega) w1.heap.size (I6 (tw:Int)) rfl (by rfl) hnw hbs _ rfl ?_;rw[Hl3.out];intro g3 cap3 w5 hO5 hgrow hgb5 _;obtain⟨Q6,A6,s6,k6⟩:=HQ2.out.1.appN (i:=3) (by omega) (by omega) (by omega) (t:=I6 (tw:Int)) (g:=g3) (len:=b+1) (cap:=cap3) (by rw[H3.out];exact hgrow) (by rw[HQ2.out.2.l3];exact hO5) (by rw[H3.out];exact hgb5);have B5:Below w.heap.size w w5:=by
    have x1:=HQ2.out.2.b;have x2:=x1.trans ((box_bel w1 (.cells #[I6 (tw:Int)] 3)).mono x1.size);exact x2.grown hgrow x2.size (λq hq=>by have:=((HQ2.out.1.o 3 (by omega)).lt q (by rw[H3.out];exact hq)).1;have:=Hpb.out;omega)
   have Hl3n:Hid ((List.range b).map (λa=>VD (least E a))++[I6 (tw:Int)]=(List.range (b+1)).map λa=>VD (least E a)):=by
    show _=_;rw[List.range_succ,List.map_append,Htw.out];rfl
   by_cases hq:tw=b
   ·have q1:((tw:Int)==(b:Int))=true:=by simp[hq]
    have hl2:Yk ls 3 (ls 3++[Value.int .i64 (tw:Int)]) 2=(reps E b).map VD:=by rw[Y5 _ _ (by omega)];exact HQ2.out.2.l2
    obtain⟨a2,c2,e2,_⟩:=(Q6.o 2 (by omega)).form;rw[hl2,List.length_map]at e2;have hc2:=(Q6.cell (i:=2) (by omega)).1;rw[e2]at hc2;obtain⟨n2,hn2⟩:∃n2,n2=(reps E b).length:=⟨_,rfl⟩;have hn2b:n2<=256:=by rw[hn2];have:=cnt_le E b;unfold cnt at this;omega
    rw[<-hn2]at e2 hc2;have hx5:=box_bel w5 (.cells #[I6 (b:Int)] 3);have Q7:=Q6.below (by omega) hx5;have hO2:=Q7.o 2 (by omega);rw[e2,hl2]at hO2;have hnw5:(w5.alloc (.cells #[I6 (b:Int)] 3)).cell? (a_ w5.heap.size 0)=some (I6 (b:Int)):=by rw[World.cell?_alloc_new];rfl
    have hbs5:pb+1<=(w5.alloc (.cells #[I6 (b:Int)] 3)).heap.size:=by have:=hx5.size;have:=Q6.lt (by omega);omega
    have He2:Hid (Yk vs 3 (.slice (some (a_ g3 0)) (b+1) cap3) 2=.slice a2 n2 c2):=e2;have Hn2:Hid (((reps E b).map VD).length=n2):=by show _=_;rw[List.length_map,hn2]
    have HQ7:Hid (L6 pb (pb+1) 3 6 FQ (Yk vs 3 (.slice (some (a_ g3 0)) (b+1) cap3)) (Yk ls 3 (ls 3++[I6 (tw:Int)])) (λ_=>False) (w5.alloc (.cells #[I6 (b:Int)] 3))/\Below w.heap.size w w5):=⟨Q7,B5⟩;have Hq:Hid (tw=b/\tw=least E b):=⟨hq,Htw.out⟩;clear Q6 Q7 A6 s6 k6 B5 hx5 e2 hn2 hO3 hnw hbs hO5 hgrow hgb5 hl2 hq;go_wp2_with (first|(with_reducible show wpList _ _ _ (⟨_,Op.call { callee:=Callee.builtin Builtin.append,args:=_,argTypes:=_ },_,_,_,_⟩::_) _ _;refine X9.out ?_));refine⟨?_⟩;refine YK 23 3 u_f Wi rfl (by omega) (by rfl) _ _ (by rfl) (pb+1) (.slice a2 n2 c2) _ (by rfl) hO2 (by rw[Hn2.out];omega) w5.heap.size (I6 (b:Int)) rfl (by rfl) hnw5 hbs5 _ rfl ?_;rw[Hn2.out];intro g2 cap2 w8 hO8 hgrow8 hgb8 _;have hc8:w8.cell? (a_ pb 2)=some (.slice a2 n2 c2)/\w8.frozen? (a_ pb 2)=false:=by
     have:=(HQ7.out.1.c.block (hgrow8.block pb (HQ7.out.1.lt (by omega)) (λe=>by have:=((HQ7.out.1.o 2 (by omega)).lt pb (by rw[He2.out];exact e.symm)).1;omega))) 2 _ rfl;rw[He2.out]at this;exact this
    obtain⟨hc8a,hc8b⟩:=hc8;have hl2:Yk ls 3 (ls 3++[Value.int .i64 (tw:Int)]) 2=(reps E b).map VD:=by rw[Y5 _ _ (by omega)];exact HQ2.out.2.l2
    obtain⟨Q9,_,_,_⟩:=HQ7.out.1.app (i:=2) (by omega) (t:=I6 (b:Int)) (g:=g2) (len:=n2+1) (cap:=cap2) (by rw[He2.out];exact hgrow8) (by rw[hl2];exact hO8) (by rw[He2.out];exact hgb8);have HPn:Hid (P1 pb E (b+1) (Yk (Yk vs 3 (.slice (some (a_ g3 0)) (b+1) cap3)) 2 (.slice (some (a_ g2 0)) (n2+1) cap2)) (Yk (Yk ls 3 (ls 3++[I6 (tw:Int)])) 2 (Yk ls 3 (ls 3++[I6 (tw:Int)]) 2++[I6 (b:Int)])) w (w8.setCell (a_ pb 2) (.slice (some (a_ g2 0)) (n2+1) cap2))):=by
     obtain⟨P1w⟩:Nonempty (P1 pb E b vs ls w w1):=⟨HQ2.out.2⟩;have x5:=HQ7.out.2;have x6:=x5.trans ((box_bel w5 (.cells #[I6 (b:Int)] 3)).mono x5.size);have x8:Below w.heap.size w w8:=x6.grown hgrow8 x6.size (λq hq=>by have:=((HQ7.out.1.o 2 (by omega)).lt q (by rw[He2.out];exact hq)).1;have:=Hpb.out;omega);refine⟨Q9,?_,?_,?_,?_,?_,?_,?_,?_,x8.setCell (p:=(a_ pb 2)) (by have:=Hpb.out;show _<=pb;omega) _,P1w.s⟩
     ·rw[Y5 _ _ (by omega),Y5 _ _ (by omega)];exact P1w.l0
     ·rw[Y5 _ _ (by omega),Y5 _ _ (by omega)];exact P1w.l1
     ·rw[Y0,hl2,reps_succ,if_pos (by rw[<-Hq.out.2];exact Hq.out.1),List.map_append];rfl
     ·rw[Y5 _ _ (by omega),Y0,P1w.l3];exact Hl3n.out
     ·rw[Y5 _ _ (by omega),Y5 _ _ (by omega)];exact P1w.l4
     ·rw[Y5 _ _ (by omega),Y5 _ _ (by omega)];exact P1w.l5
     ·rw[Y5 _ _ (by omega),Y5 _ _ (by omega)];exact P1w.v4
     ·rw[Y5 _ _ (by omega),Y5 _ _ (by omega)];exact P1w.v5
    clear Q9 hO8 hgrow8 hgb8 hO2 hnw5 hbs5 HQ7 hc2;go_wp2_with fail;go_roundw
    case rel=>exact⟨b+1,some (a_ g3 0),cap3,_,_,by omega,by go_num,rfl,by show Yk _ _ _ 3=_;rw[Y5 _ _ (by omega),Y0],HPn.out⟩
    case measure=>simp[intOf];omega
   ·have q1:((tw:Int)==(b:Int))=false:=by simp;omega
    have HPn:Hid (P1 pb E (b+1) (Yk vs 3 (.slice (some (a_ g3 0)) (b+1) cap3)) (Yk ls 3 (ls 3++[I6 (tw:Int)])) w w5):=by
     obtain⟨P1w⟩:Nonempty (P1 pb E b vs ls w w1):=⟨HQ2.out.2⟩;refine⟨Q6,?_,?_,?_,?_,?_,?_,?_,?_,B5,P1w.s⟩
     ·rw[Y5 _ _ (by omega)];exact P1w.l0
     ·rw[Y5 _ _ (by omega)];exact P1w.l1
     ·rw[Y5 _ _ (by omega),P1w.l2,reps_succ,if_neg (by rw[<-Htw.out];exact hq),List.append_nil]
     ·rw[Y0,P1w.l3];exact Hl3n.out
     ·rw[Y5 _ _ (by omega)];exact P1w.l4
     ·rw[Y5 _ _ (by omega)];exact P1w.l5
     ·rw[Y5 _ _ (by omega)];exact P1w.v4
     ·rw[Y5 _ _ (by omega)];exact P1w.v5
    clear Q6 A6 s6 k6 B5 hO3 hnw hbs hO5 hgrow hgb5;go_wp2_with fail;go_roundw
    case rel=>exact⟨b+1,some (a_ g3 0),cap3,_,_,by omega,by go_num,rfl,by show Yk _ _ _ 3=_;rw[Y0],HPn.out⟩
    case measure=>simp[intOf];omega
  ·have hge:¬(b:Int)<256:=by omega
   have hb256:b=256:=by omega
   subst hb256;have HP:Hid (P1 pb E 256 vs ls w wr):=P1b;have HC:Hid (Calls Tryz.prog 55 #[.pointer (some (a_ gb 0))] wr λe w''=>e=.returned (.slice (some (a_ wr.heap.size 0)) (P+R) (P+R))/\TC wr.heap.size (bl (em P (X5 es R)) (P+R)) w''/\Below wr.heap.size wr w''/\wr.heap.size+1<=w''.heap.size):=HAt.out wr P1b.b;clear P1b HTw HAt;go_wp2_with fail;refine HC.out.mono ?_;rintro e w1 ⟨rfl,T1,B1,s1⟩;have P2:=HP.out.below B1;obtain⟨sb,hsb⟩:∃sb,sb=wr.heap.size:=⟨_,rfl⟩;rw[<-hsb]at T1 s1 ⊢;have hbx:=box_bel w1 (.cells #[.slice (some (a_ sb 0)) (P+R) (P+R)] 78);obtain⟨w2,hw2⟩:∃w2,w2=w1.alloc (.cells #[.slice (some (a_ sb 0)) (P+R) (P+R)] 78):=⟨_,rfl⟩;have Hw2:Hid (w2=w1.alloc (.cells #[.slice (some (a_ sb 0)) (P+R) (P+R)] 78)):=hw2;rw[<-hw2]at hbx;have T2:=T1.block (hbx.block sb (by omega));have HK:Hid (Calls Tryz.prog 56 #[.slice (some (a_ sb 0)) (P+R) (P+R)] w2 λe w'=>e=.returned (.string (Wu (em P (X5 es R)) (P+R)))/\Below w2.heap.size w2 w'):=Ls _ (P+R) _ _ w2 (by omega) (Ev T2);have H1:Hid (P1 pb E 256 vs ls w w1/\TC sb (bl (em P (X5 es R)) (P+R)) w1/\sb<w1.heap.size/\sb=wr.heap.size/\Below w1.heap.size w1 w2):=⟨P2,T1,by omega,hsb,hbx⟩;clear P2 T1 T2 B1 hsb hbx HC hw2;go_wp2_with fail;rw[<-Hw2.out];refine HK.out.mono ?_;rintro e w3 ⟨rfl,B3⟩;obtain⟨KF,hKF⟩:∃KF,KF=Wu (em P (X5 es R)) (P+R):=⟨_,rfl⟩;rw[<-hKF];obtain⟨w4,hw4⟩:∃w4,w4=w3.alloc (.cells #[.string KF] 9):=⟨_,rfl⟩;have Hw4:Hid (w4=w3.alloc (.cells #[.string KF] 9)):=hw4;have HPM:Hid (PM pb (pb+1) P R E [X5 es R] 0 0 (Rt [X5 es R]) (Ng E []) (Yk (λ_=>0) 0 sb) (λ_=>0) (Yk (Yk vs 4 (.slice (some (a_ w1.heap.size 0)) 1 1)) 5 (.slice (some (a_ w3.heap.size 0)) 1 1)) (Yk (Yk ls 4 ([]++[.slice (some (a_ sb 0)) (P+R) (P+R)])) 5 ([]++[.string KF])) (λk=>False\/k=sb) w w4):=by
    obtain⟨p1,p2,p3,p4,p5⟩:=H1.out;have hl:=p1.q.lt (by omega);have hbs3:pb+1<=w3.heap.size:=by have:=B3.size;have:=p5.size;omega
    have:=(p1.pm P R (Rt [X5 es R]) (Ng E []) (λ_=>0) (λ_=>0)).addS (m:=X5 es R) p2 p3 ⟨by have:=HP.out.q.lt (by omega);omega,λj hj e=>by have:=((HP.out.q.o j hj).lt sb e).2;omega⟩ (w2:=w2) (g1:=w1.heap.size) (len1:=1) (cap1:=1) (by rw[Hw2.out];exact PG _ _ _) (by rw[p1.l4,Hw2.out];exact Ip w1 (pb+1) _ _ (by omega)) (Or.inr rfl) B3 (w5:=w4) (g2:=w3.heap.size) (len2:=1) (cap2:=1) (by rw[hw4];exact PG _ _ _) (by rw[p1.l5,hw4,hKF];exact Ip w3 (pb+1) _ _ hbs3) (Or.inr rfl);have h1:=this.1;rw[p1.l4,p1.l5,<-hKF]at h1;exact h1
   have B4:Below w.heap.size w w4:=HPM.out.b;have HN:Hid (Calls Tryz.prog 52 #[.pointer (some (a_ gb 0))] w4 λe w''=>e=.returned (.slice (some (a_ w4.heap.size 0)) (P+R) (P+R))/\TC w4.heap.size (bl (em P U9) (P+R)) w''/\Below w4.heap.size w4 w''/\w4.heap.size+1<=w''.heap.size):=HNo.out w4 B4;clear HK B3 hKF hw4 B4 HNo H1;go_wp2_with fail;rw[<-Hw4.out];refine HN.out.mono ?_;rintro e w5 ⟨rfl,T5,B5,s5⟩;have HK5:Hid (Calls Tryz.prog 56 #[.slice (some (a_ w4.heap.size 0)) (P+R) (P+R)] w5 λe w'=>e=.returned (.string (Wu (em P U9) (P+R)))/\Below w5.heap.size w5 w'):=Ls _ (P+R) _ _ w5 (by omega) (Ev T5);have HPM5:Hid (PM pb (pb+1) P R E [X5 es R] 0 0 (Rt [X5 es R]) (Ng E []) (Yk (λ_=>0) 0 sb) (λ_=>0) (Yk (Yk vs 4 (.slice (some (a_ w1.heap.size 0)) 1 1)) 5 (.slice (some (a_ w3.heap.size 0)) 1 1)) (Yk (Yk ls 4 ([]++[.slice (some (a_ sb 0)) (P+R) (P+R)])) 5 ([]++[.string KF])) (λk=>False\/k=sb) w w5):=HPM.out.below B5;clear HN T5 B5 HPM s5;go_wp2_with fail;refine HK5.out.mono ?_;rintro e w6 ⟨rfl,B6⟩;obtain⟨KE,hKE⟩:∃KE,KE=Wu (em P U9) (P+R):=⟨_,rfl⟩;rw[<-hKE];have HKE:Hid (KE=Wu (em P U9) (P+R)):=hKE;have HPM6:Hid (PM pb (pb+1) P R E [X5 es R] 0 0 (Rt [X5 es R]) (Ng E []) (Yk (λ_=>0) 0 sb) (λ_=>0) (Yk (Yk vs 4 (.slice (some (a_ w1.heap.size 0)) 1 1)) 5 (.slice (some (a_ w3.heap.size 0)) 1 1)) (Yk (Yk ls 4 ([]++[.slice (some (a_ sb 0)) (P+R) (P+R)])) 5 ([]++[.string KF])) (λk=>False\/k=sb) w w6):=HPM5.out.below B6;clear HK5 B6 HPM5 hKE;go_wp2_with fail
   go_loopw [9,11,13] (λav kv x w'=>∃(s n:Nat) (l:List (N_)) (t:List Int) (vs:Nat->Value) (ls:Nat->List Value) (X:Nat->Prop) (sk tk:Nat->Nat) (a4 c4 k5 c5:Nat),s<=n/\n<=200/\x=I6 s/\av=.slice (some (a_ a4 0)) n c4/\kv=.slice (some (a_ k5 0)) n c5/\Hid (vs 4=.slice (some (a_ a4 0)) n c4/\vs 5=.slice (some (a_ k5 0)) n c5/\vs 3=.slice ta 256 tc)/\Ob es R P E s n l t/\PM pb (pb+1) P R E l s s (Rt l) (Ng E t) sk tk vs ls X w w') (λ_ _ x _=>201-(intOf x).toNat)
   case atStart=>exact⟨0,1,[X5 es R],[],_,_,_,_,_,w1.heap.size,1,w3.heap.size,1,by omega,by omega,rfl,rfl,rfl,⟨by rw[Y5 _ _ (by omega),Y0],by rw[Y0],by rw[Y5 _ _ (by omega),Y5 _ _ (by omega)];exact H3.out⟩,⟨rfl,λg hg=>by rw[List.mem_singleton.1 hg];exact HS0.out,WS.first⟩,HPM6.out⟩
   case round=>
    clear HPM6;obtain⟨s,n,l,t,vs,ls,X,sk,tk,a4,c4,k5,c5,hs,hn,rfl,rfl,rfl,Hv,OB,PMs⟩:=hrel;by_cases hlt2:s<n
    ·have hlt2':(s:Int)<n:=by omega
     have hsl:s<l.length:=by rw[<-OB.ln];exact hlt2
     obtain⟨g,hg⟩:∃g,l[s]?=some g:=⟨_,List.getElem?_eq_getElem hsl⟩;have hgd:l.getD s U9=g:=by rw[List.getD_eq_getElem?_getD,hg];rfl
     have ca:=PMs.allAt Hv.out.1 hsl;have hbr:=PMs.st s hsl wr (Wq.refl _ _) (Nat.le_refl _);rw[hgd]at hbr;have HV:Hid (Calls Tryz.prog 57 #[.pointer (some (a_ gb 0)),.slice (some (a_ (sk s) 0)) (P+R) (P+R)] wr λe w''=>e=.returned (I6 (Rt l s))/\w''=wr):=by
      have:=HVd.out wr _ (P+R) g PMs.b (OB.su g (List.mem_of_getElem? hg)) hbr;unfold Rt;rw[hgd];exact this
     obtain⟨sks,hsks⟩:∃sks,sks=sk s:=⟨_,rfl⟩;rw[<-hsks]at ca HV;obtain⟨vv,hvv⟩:∃vv,vv=Rt l s:=⟨_,rfl⟩;rw[<-hvv]at HV;obtain⟨a0,c0,e0,_⟩:=(PMs.q.o 0 (by omega)).form;rw[PMs.l0,List.length_map,List.length_range]at e0;have hc0:=(PMs.q.cell (i:=0) (by omega)).1;rw[e0]at hc0;have hx0:=box_bel wr (.cells #[I6 vv] 3);have PM0:=PMs.below hx0;have hO0:=PM0.q.o 0 (by omega);rw[e0,PM0.l0]at hO0;have hnw:(wr.alloc (.cells #[I6 vv] 3)).cell? (a_ wr.heap.size 0)=some (I6 vv):=by rw[World.cell?_alloc_new];rfl
     have hbs:pb+1<=(wr.alloc (.cells #[I6 vv] 3)).heap.size:=by have:=hx0.size;have:=PMs.q.lt (by omega);omega
     have Hl0:Hid (((List.range s).map λi=>Value.int .i64 (Rt l i)).length=s):=by show _=_;simp
     have He0:Hid (vs 0=.slice a0 s c0):=e0;have HPM0:Hid (PM pb (pb+1) P R E l s s (Rt l) (Ng E t) sk tk vs ls X w (wr.alloc (.cells #[I6 vv] 3))):=PM0;have HOB:Hid (Ob es R P E s n l t/\l[s]?=some g/\vv=Rt l s):=⟨OB,hg,hvv⟩;have hs200:s<200:=by omega
     have HtL:Hid (t.length=s*(reps E 256).length):=by show _=_;have:=OB.ex.size.2.2.1;omega
     clear PMs PM0 hx0 e0 OB hg hgd hbr hvv hsks;go_wp2_with fail;refine HV.out.mono ?_;rintro e w1 ⟨rfl,rfl⟩;clear HV ca;go_wp2_with (first|(with_reducible show wpList _ _ _ (⟨_,Op.call { callee:=Callee.builtin Builtin.append,args:=_,argTypes:=_ },_,_,_,_⟩::_) _ _;refine X9.out ?_));refine⟨?_⟩;refine YK 23 3 u_f Wi rfl (by omega) (by rfl) _ _ (by rfl) (pb+1) (.slice a0 s c0) _ (by rfl) hO0 (by rw[Hl0.out];omega) w1.heap.size (I6 vv) rfl (by rfl) hnw hbs _ rfl ?_;rw[Hl0.out];intro g0 cap0 w5 hO5 hgrow hgb5 _;have hc5:w5.cell? (a_ pb 0)=some (.slice a0 s c0)/\w5.frozen? (a_ pb 0)=false:=by
      have:=(HPM0.out.q.c.block (hgrow.block pb (HPM0.out.q.lt (by omega)) (λe=>by have:=((HPM0.out.q.o 0 (by omega)).lt pb (by rw[He0.out];exact e.symm)).1;omega))) 0 (vs 0) rfl;rw[He0.out]at this;exact this
     obtain⟨hc5a,hc5b⟩:=hc5;have PM6:=HPM0.out.addV (g:=g0) (len:=s+1) (cap:=cap0) (x:=vv) (by rw[He0.out];exact hgrow) (by rw[HPM0.out.l0];exact hO5) (by rw[He0.out];exact hgb5) HOB.out.2.2.symm;obtain⟨w6,h6⟩:∃w6,w6=w5.setCell (a_ pb 0) (.slice (some (a_ g0 0)) (s+1) cap0):=⟨_,rfl⟩;have H6:Hid (w6=w5.setCell (a_ pb 0) (.slice (some (a_ g0 0)) (s+1) cap0)):=h6;rw[<-h6]at PM6;have hmk:(Instr.makeSlice 23 (I6 256) (I6 256)).run Tryz.prog w6=.ok (.slice (some (a_ w6.heap.size 0)) 256 256) (w6.alloc (.cells (XN 256).toArray 3)):=VJ w6 256 (by omega);have hb7:=box_bel w6 (.cells (XN 256).toArray 3);obtain⟨tob,htob⟩:∃tob,tob=w6.heap.size:=⟨_,rfl⟩;have PM7:=PM6.below hb7;have TO7:TO pb tob (inl (λ_=>0) 256) (Yk vs 0 (.slice (some (a_ g0 0)) (s+1) cap0)) X w (w6.alloc (.cells (XN 256).toArray 3)):=by
      refine⟨?_,by rw[htob];simp,λj hj e=>?_,⟨λe=>?_,?_⟩,by rw[htob];exact PM6.b.size⟩
      ·rw[htob];exact TC.boxed w6 (XN 256) 3
      ·have:=((PM6.q.o j hj).lt tob e).2;omega
      ·have:=(PM6.q.x tob e).1;omega
      ·have:=PM6.q.lt (by omega);omega
     have H7:Hid (PM pb (pb+1) P R E l (s+1) s (Rt l) (Ng E t) sk tk (Yk vs 0 (.slice (some (a_ g0 0)) (s+1) cap0)) (Yk ls 0 (ls 0++[I6 vv])) X w (w6.alloc (.cells (XN 256).toArray 3))/\TO pb tob (inl (λ_=>0) 256) (Yk vs 0 (.slice (some (a_ g0 0)) (s+1) cap0)) X w (w6.alloc (.cells (XN 256).toArray 3))):=⟨PM7,TO7⟩;have Hto:Hid (tob=w6.heap.size):=htob;clear PM6 PM7 TO7 hb7 h6 hO5 hgrow hgb5 hO0 hnw hbs htob HPM0;go_wp2_with (first|(with_reducible show wpList _ _ _ (⟨_,Op.makeSlice 23 _ _,_,_,_,_⟩::_) _ _;refine X9.out ?_));refine⟨?_⟩;rw[<-H6.out];clear hc5a hc5b hc0;go_wp2_with fail;clear hmk;rw[<-Hto.out]
     go_loopw [9,11,16] (λav kv x w'=>∃(b n:Nat) (l:List (N_)) (vs:Nat->Value) (ls:Nat->List Value) (X:Nat->Prop) (sk:Nat->Nat) (a4 c4 k5 c5:Nat) (to:Nat->Int),b<=256/\n<=1000/\x=I6 b/\av=.slice (some (a_ a4 0)) n c4/\kv=.slice (some (a_ k5 0)) n c5/\Hid (vs 4=.slice (some (a_ a4 0)) n c4/\vs 5=.slice (some (a_ k5 0)) n c5/\vs 3=.slice ta 256 tc)/\Ib es R P E s t b n l g to/\PM pb (pb+1) P R E l (s+1) s (Rt l) (Ng E t) sk tk vs ls X w w'/\TO pb tob (inl to 256) vs X w w') (λ_ _ x _=>256-(intOf x).toNat)
     case atStart=>exact⟨0,n,l,_,_,X,sk,a4,c4,k5,c5,_,by omega,by omega,rfl,rfl,rfl,⟨by rw[Y5 _ _ (by omega)];exact Hv.out.1,by rw[Y5 _ _ (by omega)];exact Hv.out.2.1,by rw[Y5 _ _ (by omega)];exact Hv.out.2.2⟩,⟨HOB.out.1.ln,by omega,HOB.out.1.su,hlt2,HOB.out.2.1,Gh.first HOB.out.1.ex _⟩,H7.out.1,H7.out.2⟩
     case round=>
      clear H7 Hv HOB hlt2 hlt2' hsl;obtain⟨b,n,l,vs,ls,X,sk,a4,c4,k5,c5,to,hb,hn,rfl,rfl,rfl,Hv,IB,PMi,TOi⟩:=hrel;by_cases hbl:b<256
      ·have hbl':(b:Int)<256:=by omega
       obtain⟨a3,ea3,ct⟩:=PMi.twinAt Hv.out.2.2 hbl;subst ea3;obtain⟨tw,htw⟩:∃tw,tw=least E b:=⟨_,rfl⟩;rw[<-htw]at ct;have htwb:tw<=b:=by rw[htw];exact least_le E b
       obtain⟨tbc,tbf⟩:=TOi.x b _ (Xk _ hbl);by_cases htl:tw<b
       ·have htl':(tw:Int)<b:=by omega
        obtain⟨ttc,_⟩:=TOi.x tw _ (Xk _ (show tw<256 by omega));obtain⟨tv,htv⟩:∃tv,tv=to tw:=⟨_,rfl⟩;rw[<-htv]at ttc;have HG:Hid (Ib es R P E s t (b+1) n l g (λc=>if c=b then to (least E b) else to c)):=⟨IB.ln,by have:=IB.mx;omega,IB.su,IB.lt,IB.at_,Gh.copy HEv.out.1 IB.gh hbl (by rw[<-htw];exact htl)⟩;have TO8:=TOi.put (k:=b) (by rw[XA];exact hbl) (I6 tv);rw[WJ,htv,htw]at TO8;have HT8:Hid (PM pb (pb+1) P R E l (s+1) s (Rt l) (Ng E t) sk tk vs ls X w (wr.setCell (a_ tob b) (I6 tv))/\TO pb tob (inl (λc=>if c=b then to (least E b) else to c) 256) vs X w (wr.setCell (a_ tob b) (I6 tv))):=⟨PMi.put TOi b _,by rw[htv,htw];exact TO8⟩;clear PMi TOi TO8 IB htw htv;go_wp2_with fail;go_roundw
        case rel=>exact⟨b+1,n,l,vs,ls,X,sk,a4,c4,k5,c5,_,by omega,hn,by go_num,rfl,rfl,Hv,HG.out,HT8.out.1,HT8.out.2⟩
        case measure=>simp[intOf];omega
       ·have htl':¬(tw:Int)<b:=by omega
        have htb:tw=b:=by omega
        have hlb:least E b=b:=by rw[<-htw];exact htb
        have hsl:s<l.length:=by rw[<-IB.ln];exact IB.lt
        have ca:=PMi.allAt Hv.out.1 hsl;have hgd:l.getD s U9=g:=by rw[List.getD_eq_getElem?_getD,IB.at_];rfl
        have hbr:=PMi.st s hsl wr (Wq.refl _ _) (Nat.le_refl _);rw[hgd]at hbr;have hsn':(s:Int)<n:=by have:=IB.lt;omega
        obtain⟨sks,hsks⟩:∃sks,sks=sk s:=⟨_,rfl⟩;rw[<-hsks]at ca hbr;obtain⟨m,hm⟩:∃m,m=VT es R g b:=⟨_,rfl⟩;have HM:Hid (Calls Tryz.prog 58 #[.pointer (some (a_ gb 0)),.slice (some (a_ sks 0)) (P+R) (P+R),I6 b] wr λe w''=>e=.returned (.slice (some (a_ wr.heap.size 0)) (P+R) (P+R))/\TC wr.heap.size (bl (em P m) (P+R)) w''/\Below wr.heap.size wr w''/\wr.heap.size+1<=w''.heap.size):=by rw[hm];exact HMv.out wr _ (P+R) g b PMi.b hbl hbr
        have Hm:Hid (m=VT es R g b/\JD P R m):=⟨hm,by rw[hm];exact HSn.out g b⟩;have HGh:Hid (Gh (VT es R) (X5 es R) E s t (b+1) (WP l m) (λc=>if c=b then Xz l m else to c)):=by rw[hm];exact Gh.step HEv.out.1 IB.gh hbl hlb IB.at_
        have HIB:Hid (Ib es R P E s t b n l g to):=IB;have HPT:Hid (PM pb (pb+1) P R E l (s+1) s (Rt l) (Ng E t) sk tk vs ls X w wr/\TO pb tob (inl to 256) vs X w wr):=⟨PMi,TOi⟩;clear PMi TOi IB hgd hbr hsks hm htw hsl;go_wp2_with fail;refine HM.out.mono ?_;rintro e w1 ⟨rfl,T1,B1,s1⟩;obtain⟨mb,hmb⟩:∃mb,mb=wr.heap.size:=⟨_,rfl⟩;rw[<-hmb]at T1 s1 ⊢;obtain⟨km,hkm⟩:∃km,km=Wu (em P m) (P+R):=⟨_,rfl⟩;have HK:Hid (Calls Tryz.prog 56 #[.slice (some (a_ mb 0)) (P+R) (P+R)] w1 λe w'=>e=.returned (.string km)/\Below w1.heap.size w1 w'):=by rw[hkm];exact Ls _ (P+R) _ _ w1 (by omega) (Ev T1)
        have H1:Hid (PM pb (pb+1) P R E l (s+1) s (Rt l) (Ng E t) sk tk vs ls X w w1/\TO pb tob (inl to 256) vs X w w1/\TC mb (bl (em P m) (P+R)) w1/\mb<w1.heap.size/\(mb≠pb/\∀j,j<6->(vs j).ownBlock≠some mb)/\mb≠tob):=by
         obtain⟨x1,x2⟩:=HPT.out;refine⟨x1.below B1,x2.below B1,T1,by omega,⟨by have:=x1.q.lt (by omega);omega,λj hj e=>by have:=((x1.q.o j hj).lt mb e).2;omega⟩,by have:=x2.l;omega⟩
        have Hkm:Hid (km=Wu (em P m) (P+R)):=hkm;clear HM T1 B1 hmb hkm ca HPT tbc tbf ct;go_wp2_with fail;refine HK.out.mono ?_;rintro e w2 ⟨rfl,B2⟩;have H2:Hid (PM pb (pb+1) P R E l (s+1) s (Rt l) (Ng E t) sk tk vs ls X w w2/\TO pb tob (inl to 256) vs X w w2/\TC mb (bl (em P m) (P+R)) w2/\mb<w2.heap.size/\(mb≠pb/\∀j,j<6->(vs j).ownBlock≠some mb)/\mb≠tob):=by
         obtain⟨x1,x2,x3,x4,x5,x6⟩:=H1.out;exact⟨x1.below B2,x2.below B2,x3.block (B2.block mb x4),by have:=B2.size;omega,x5,x6⟩
        clear HK B2 H1;obtain⟨tbc,tbf⟩:=H2.out.2.1.x b _ (Xk _ hbl);obtain⟨w3,hw3⟩:∃w3,w3=w2.setCell (a_ tob b) (I6 (-1)):=⟨_,rfl⟩;have Hw3:Hid (w3=w2.setCell (a_ tob b) (I6 (-1))):=hw3;have H3':Hid (PM pb (pb+1) P R E l (s+1) s (Rt l) (Ng E t) sk tk vs ls X w w3/\TO pb tob (inl (λc=>if c=b then -1 else to c) 256) vs X w w3/\TC mb (bl (em P m) (P+R)) w3/\mb<w3.heap.size/\(mb≠pb/\∀j,j<6->(vs j).ownBlock≠some mb)/\mb≠tob):=by
         obtain⟨x1,x2,x3,x4,x5,x6⟩:=H2.out;rw[hw3];refine⟨x1.put x2 b _,?_,x3.block (Below.heap_setCell w2 (a_ tob b) _ mb (λe=>x6 e)),by rw[World.size_setCell];exact x4,x5,x6⟩;have:=x2.put (k:=b) (by rw[XA];exact hbl) (I6 (-1));rw[WJ]at this;exact this
        clear H2 hw3;by_cases hsame:Yu m U9 104=true
        ·have hkk:km=KE:=by rw[Hkm.out,HKE.out];exact(QT Hee.out.2 Y Hm.out.2 (OK P R)).2 hsame
         have qk:(km.toList==KE.toList)=true:=by rw[hkk];simp
         have hnr:Xz l m=-1:=by unfold Xz;rw[if_pos hsame]
         have hnl:WP l m=l:=by unfold WP;rw[if_pos hsame]
         rw[hnr,hnl]at HGh;have HG:Hid (Ib es R P E s t (b+1) n l g (λc=>if c=b then -1 else to c)):=⟨HIB.out.ln,by have:=HIB.out.mx;omega,HIB.out.su,HIB.out.lt,HIB.out.at_,HGh.out⟩;clear hkk hnr hnl hsame;go_wp2_with fail;rw[<-Hw3.out];go_roundw
         case rel=>exact⟨b+1,n,l,vs,ls,X,sk,a4,c4,k5,c5,_,by omega,hn,by go_num,rfl,rfl,Hv,HG.out,H3'.out.1,H3'.out.2.1⟩
         case measure=>simp[intOf];omega
        ·have hsf:Yu m U9 104=false:=by simpa using hsame
         have hkk:¬km.toList=KE.toList:=λe=>hsame (by
          rw[ByteArray.toList_eq,ByteArray.toList_eq]at e;have e2:km=KE:=ByteArray.ext (Array.toList_inj.1 e);rw[Hkm.out,HKE.out]at e2;exact(QT Hee.out.2 Y Hm.out.2 (OK P R)).1 e2)
         have qk:(km.toList==KE.toList)=false:=beq_eq_false_iff_ne.2 hkk;obtain⟨fv,hfv⟩:∃fv,fv=Lp (λi=>Wu (em P (l.getD i U9)) (P+R)) km l.length:=⟨_,rfl⟩;have HF:Hid (Calls Tryz.prog 59 #[.slice (some (a_ k5 0)) n c5,.string km] w3 λe w'=>e=.returned (I6 fv)/\w'=w3):=by
          have:=EF k5 0 c5 l.length (λi=>Wu (em P (l.getD i U9)) (P+R)) km w3 (by have:=HIB.out.ln;omega) (H3'.out.1.keysAt Hv.out.2.1);rw[hfv];rw[HIB.out.ln];exact this
         have hfn:=EG Hee.out.2 Y Hm.out.2 HIB.out.su hsf;rw[<-Hkm.out,<-hfv]at hfn;obtain⟨tbc3,tbf3⟩:=H3'.out.2.1.x b _ (Xk _ hbl);clear hsame hsf hkk hfv;rcases hfn with ⟨f1,f2,f3⟩|⟨f1,f2,f3⟩
         ·have hge0:¬fv<0:=by
           rw[f2];have hne:-1<=Xz l m:=LA l m;intro hlt0;have he1:Xz l m=-1:=by omega
           rw[he1]at f2;unfold Xz at he1;split at he1
           ·rename_i hh;have:Yu m U9 104=true:=hh;exact absurd qk (by
             have e2:km=KE:=by rw[Hkm.out,HKE.out];exact(QT Hee.out.2 Y Hm.out.2 (OK P R)).2 this
             rw[e2];simp)
           ·omega
          rw[f3]at HGh;rw[<-f2]at HGh;have HG:Hid (Ib es R P E s t (b+1) n l g (λc=>if c=b then fv else to c)):=⟨HIB.out.ln,by have:=HIB.out.mx;omega,HIB.out.su,HIB.out.lt,HIB.out.at_,HGh.out⟩;have H4:Hid (PM pb (pb+1) P R E l (s+1) s (Rt l) (Ng E t) sk tk vs ls X w (w3.setCell (a_ tob b) (I6 fv))/\TO pb tob (inl (λc=>if c=b then fv else to c) 256) vs X w (w3.setCell (a_ tob b) (I6 fv))):=by
           refine⟨H3'.out.1.put H3'.out.2.1 b _,?_⟩;have:=H3'.out.2.1.put (k:=b) (by rw[XA];exact hbl) (I6 fv);rw[WJ,Yr (g:=λc=>if c=b then fv else to c) (λc _=>by by_cases e:c=b<;>simp[e])]at this;exact this
          clear f1 f2 f3 HGh;go_wp2_with fail;rw[<-Hw3.out];refine HF.out.mono ?_;rintro e w4 ⟨rfl,rfl⟩;go_wp2_with fail;go_roundw
          case rel=>exact⟨b+1,n,l,vs,ls,X,sk,a4,c4,k5,c5,_,by omega,hn,by go_num,rfl,rfl,Hv,HG.out,H4.out.1,H4.out.2⟩
          case measure=>simp[intOf];omega
         ·subst f2;have hlt0:(-1:Int)<0:=by omega
          rw[f3,f1,<-HIB.out.ln]at HGh;have HG:Hid (Ib es R P E s t (b+1) (n+1) (l++[m]) g (λc=>if c=b then (n:Int) else to c)):=⟨by rw[List.length_append,HIB.out.ln];rfl,by have:=HIB.out.mx;omega,λh hh=>by
           rcases List.mem_append.1 hh with hh|hh
           ·exact HIB.out.su h hh
           ·rw[List.mem_singleton.1 hh];exact Hm.out.2,by have:=HIB.out.lt;omega,by rw[List.getElem?_append_left (by have:=HIB.out.lt;have:=HIB.out.ln;omega)];exact HIB.out.at_,HGh.out⟩
          obtain⟨w5,hw5⟩:∃w5,w5=(w3.setCell (a_ tob b) (I6 (-1))).setCell (a_ tob b) (I6 (n:Int)):=⟨_,rfl⟩;have Hw5:Hid (w5=(w3.setCell (a_ tob b) (I6 (-1))).setCell (a_ tob b) (I6 (n:Int))):=hw5;have H5:Hid (PM pb (pb+1) P R E l (s+1) s (Rt l) (Ng E t) sk tk vs ls X w w5/\TO pb tob (inl (λc=>if c=b then (n:Int) else to c) 256) vs X w w5/\TC mb (bl (em P m) (P+R)) w5/\mb<w5.heap.size/\(mb≠pb/\∀j,j<6->(vs j).ownBlock≠some mb)/\mb≠tob):=by
           obtain⟨x1,x2,x3,x4,x5,x6⟩:=H3'.out;have y1:=x1.put x2 b (I6 (-1));have y2:=x2.put (k:=b) (by rw[XA];exact hbl) (I6 (-1));have z1:=y1.put y2 b (I6 (n:Int));have z2:=y2.put (k:=b) (by rw[List.length_set,XA];exact hbl) (I6 (n:Int));rw[<-hw5]at z1 z2;rw[WJ,WJ,Yr (g:=λc=>if c=b then (n:Int) else to c) (λc _=>by by_cases e:c=b<;>simp[e])]at z2;have hbk:w5.heap[mb]?=w3.heap[mb]?:=by
            rw[hw5,Below.heap_setCell _ (a_ tob b) _ mb (λe=>x6 e),Below.heap_setCell w3 (a_ tob b) _ mb (λe=>x6 e)]
           exact⟨z1,z2,x3.block hbk,by rw[hw5,World.size_setCell,World.size_setCell];exact x4,x5,x6⟩
          have hx5:=box_bel w5 (.cells #[.slice (some (a_ mb 0)) (P+R) (P+R)] 78);have PM5:=H5.out.1.below hx5;have hO4:=PM5.q.o 4 (by omega);rw[Hv.out.1,PM5.l4]at hO4;have hnw:(w5.alloc (.cells #[.slice (some (a_ mb 0)) (P+R) (P+R)] 78)).cell? (a_ w5.heap.size 0)=some (.slice (some (a_ mb 0)) (P+R) (P+R)):=by rw[World.cell?_alloc_new];rfl
          have hbs:pb+1<=(w5.alloc (.cells #[.slice (some (a_ mb 0)) (P+R) (P+R)] 78)).heap.size:=by have:=hx5.size;have:=H5.out.1.q.lt (by omega);omega
          have Hl4:Hid (((List.range l.length).map λi=>Value.slice (some (a_ (sk i) 0)) (P+R) (P+R)).length=n):=by show _=_;rw[HIB.out.ln];simp
          have Hl5:Hid (((List.range l.length).map λi=>Value.string (Wu (em P (l.getD i U9)) (P+R))).length=n):=by show _=_;rw[HIB.out.ln];simp
          have HPM5:Hid (PM pb (pb+1) P R E l (s+1) s (Rt l) (Ng E t) sk tk vs ls X w (w5.alloc (.cells #[.slice (some (a_ mb 0)) (P+R) (P+R)] 78))/\TO pb tob (inl (λc=>if c=b then (n:Int) else to c) 256) vs X w (w5.alloc (.cells #[.slice (some (a_ mb 0)) (P+R) (P+R)] 78))/\TC mb (bl (em P m) (P+R)) (w5.alloc (.cells #[.slice (some (a_ mb 0)) (P+R) (P+R)] 78))/\mb<(w5.alloc (.cells #[.slice (some (a_ mb 0)) (P+R) (P+R)] 78)).heap.size):=⟨PM5,H5.out.2.1.below hx5,H5.out.2.2.1.block (hx5.block mb H5.out.2.2.2.1),by have:=hx5.size;have:=H5.out.2.2.2.1;omega⟩;have hn':(n:Int)<=1000:=by omega
          clear PM5 hx5 f1 f3 HGh hw5;go_wp2_with fail;rw[<-Hw3.out];refine HF.out.mono ?_;rintro e w4 ⟨rfl,rfl⟩;clear HF;have hsz5:w5.heap.size=w4.heap.size:=by rw[Hw5.out,World.size_setCell,World.size_setCell]
          rw[hsz5]at hnw;go_wp2_with (first|(with_reducible show wpList _ _ _ (⟨_,Op.call { callee:=Callee.builtin Builtin.append,args:=_,argTypes:=_ },_,_,_,_⟩::_) _ _;refine X9.out ?_));refine⟨?_⟩;rw[<-Hw5.out];refine YK 74 78 u_q Qo rfl (by omega) (by rfl) _ _ (by rfl) (pb+1) (.slice (some (a_ a4 0)) n c4) _ (by rfl) hO4 (by rw[Hl4.out];omega) w4.heap.size (.slice (some (a_ mb 0)) (P+R) (P+R)) rfl (by rfl) hnw hbs _ rfl ?_;rw[Hl4.out];intro g4 cap4 w8 hO8 hgrow8 hgb8 _;have hO8':Wt (pb+1) (FQ 4) (.slice (some (a_ g4 0)) (n+1) cap4) (ls 4++[.slice (some (a_ mb 0)) (P+R) (P+R)]) w8:=by rw[HPM5.out.1.l4];exact hO8
          obtain⟨Q8,_,s8,_⟩:=HPM5.out.1.q.appN (i:=4) (by omega) (by omega) (by omega) (by rw[Hv.out.1];exact hgrow8) hO8' (by rw[Hv.out.1];exact hgb8);have hx8:=box_bel w8 (.cells #[.string km] 9);have Q9:=Q8.below (by omega) hx8;have hO5:=Q9.o 5 (by omega);rw[Y5 _ _ (by omega),Y5 _ _ (by omega),Hv.out.2.1,HPM5.out.1.l5]at hO5;have hnw8:(w8.alloc (.cells #[.string km] 9)).cell? (a_ w8.heap.size 0)=some (.string km):=by rw[World.cell?_alloc_new];rfl
          have hbs8:pb+1<=(w8.alloc (.cells #[.string km] 9)).heap.size:=by have:=hx8.size;have:=Q8.lt (by omega);omega
          have H8:Hid ((w5.alloc (.cells #[.slice (some (a_ mb 0)) (P+R) (P+R)] 78)).grownBy w8 (Value.slice (some (a_ a4 0)) n c4).ownBlock/\Wt (pb+1) (FQ 4) (.slice (some (a_ g4 0)) (n+1) cap4) (ls 4++[.slice (some (a_ mb 0)) (P+R) (P+R)]) w8/\((Value.slice (some (a_ a4 0)) n c4).ownBlock=some g4\/g4=(w5.alloc (.cells #[.slice (some (a_ mb 0)) (P+R) (P+R)] 78)).heap.size)/\Below w8.heap.size w8 (w8.alloc (.cells #[.string km] 9))):=⟨hgrow8,hO8',hgb8,hx8⟩;clear Q8 Q9 s8 hO8 hO8' hgrow8 hgb8 hO4 hnw hbs hx8;go_wp2_with (first|(with_reducible show wpList _ _ _ (⟨_,Op.call { callee:=Callee.builtin Builtin.append,args:=_,argTypes:=_ },_,_,_,_⟩::_) _ _;refine X9.out ?_));refine⟨?_⟩;refine YK 22 9 u_h Gx rfl (by omega) (by rfl) _ _ (by rfl) (pb+1) (.slice (some (a_ k5 0)) n c5) _ (by rfl) hO5 (by rw[Hl5.out];omega) w8.heap.size (.string km) rfl (by rfl) hnw8 hbs8 _ rfl ?_;rw[Hl5.out];intro g5 cap5 w10 hO10 hgrow10 hgb10 _;have HX:Hid (PM pb (pb+1) P R E (l++[m]) (s+1) s (Rt (l++[m])) (Ng E t) (Yk sk l.length mb) tk (Yk (Yk vs 4 (.slice (some (a_ g4 0)) (n+1) cap4)) 5 (.slice (some (a_ g5 0)) (n+1) cap5)) (Yk (Yk ls 4 (ls 4++[.slice (some (a_ mb 0)) (P+R) (P+R)])) 5 (ls 5++[.string (Wu (em P m) (P+R))])) (λk=>X k\/k=mb) w w10/\TO pb tob (inl (λc=>if c=b then (n:Int) else to c) 256) (Yk (Yk vs 4 (.slice (some (a_ g4 0)) (n+1) cap4)) 5 (.slice (some (a_ g5 0)) (n+1) cap5)) (λk=>X k\/k=mb) w w10):=by
           obtain⟨y1,y2,y3,y4⟩:=HPM5.out;obtain⟨z1,z2,z3,z4⟩:=H8.out;obtain⟨p1,p2,p3,p4⟩:=y1.addS (m:=m) (mb:=mb) y3 y4 H5.out.2.2.2.2.1 (by rw[Hv.out.1];exact z1) z2 (by rw[Hv.out.1];exact z3) z4 (by rw[Hv.out.2.1];exact hgrow10) (by rw[y1.l5,<-Hkm.out];exact hO10) (by rw[Hv.out.2.1];exact hgb10);refine⟨p1.congr (λi hi=>(D5 (by have:=HIB.out.lt;have:=HIB.out.ln;omega) m).symm) (λ_ _ _ _=>rfl),?_⟩;refine⟨y2.x.block (p2 tob y2.l y2.n.2 (y2.d 4 (by omega)) (y2.d 5 (by omega))),by have:=y2.l;omega,p4 tob y2.l y2.d,⟨λe=>?_,y2.n.2⟩,y2.s⟩;rcases e with e|e
           ·exact y2.n.1 e
           ·exact H5.out.2.2.2.2.2 e.symm
          clear hO10 hgrow10 hgb10 hO5 hnw8 hbs8 H8 HPM5 H5 H3';go_wp2_with fail;go_roundw
          case rel=>exact⟨b+1,n+1,l++[m],_,_,_,_,g4,cap4,g5,cap5,_,by omega,by have:=HG.out.mx;omega,by go_num,rfl,rfl,⟨by rw[Y5 _ _ (by omega),Y0],by rw[Y0],by rw[Y5 _ _ (by omega),Y5 _ _ (by omega)];exact Hv.out.2.2⟩,HG.out,HX.out.1,HX.out.2⟩
          case measure=>simp[intOf];omega
      ·have hge3:¬(b:Int)<256:=by omega
       have hb2:b=256:=by omega
       subst hb2;obtain⟨a1,c1,e1,_⟩:=(PMi.q.o 1 (by omega)).form;rw[PMi.l1,List.length_map,List.length_range]at e1;have hc1:=(PMi.q.cell (i:=1) (by omega)).1;rw[e1]at hc1;have hx1:=box_bel wr (.cells #[.slice (some (a_ tob 0)) 256 256] 23);have PM1:=(PMi.congr (vd':=Rt l) (rw':=λi c=>if i=s then to c else Ng E t i c) (λ_ _=>rfl) (λi c hi _=>by rw[g_])).below hx1;have TO1:=TOi.below hx1;have hO1:=PM1.q.o 1 (by omega);rw[e1,PM1.l1]at hO1;have hnw:(wr.alloc (.cells #[.slice (some (a_ tob 0)) 256 256] 23)).cell? (a_ wr.heap.size 0)=some (.slice (some (a_ tob 0)) 256 256):=by rw[World.cell?_alloc_new];rfl
       have hbs:pb+1<=(wr.alloc (.cells #[.slice (some (a_ tob 0)) 256 256] 23)).heap.size:=by have:=hx1.size;have:=PMi.q.lt (by omega);omega
       have Hl1:Hid (((List.range s).map λi=>Value.slice (some (a_ (tk i) 0)) 256 256).length=s):=by show _=_;simp
       have He1:Hid (vs 1=.slice a1 s c1):=e1;have HPM1:Hid (PM pb (pb+1) P R E l (s+1) s (Rt l) (λi c=>if i=s then to c else Ng E t i c) sk tk vs ls X w (wr.alloc (.cells #[.slice (some (a_ tob 0)) 256 256] 23))/\TO pb tob (inl to 256) vs X w (wr.alloc (.cells #[.slice (some (a_ tob 0)) 256 256] 23))):=⟨PM1,TO1⟩;have HIB:Hid (Ib es R P E s t 256 n l g to):=IB;have hn':(n:Int)<=1000:=by omega
       clear PMi TOi PM1 TO1 hx1 e1 IB;go_wp2_with (first|(with_reducible show wpList _ _ _ (⟨_,Op.call { callee:=Callee.builtin Builtin.append,args:=_,argTypes:=_ },_,_,_,_⟩::_) _ _;refine X9.out ?_));refine⟨?_⟩;refine YK 53 23 u_s Qp rfl (by omega) (by rfl) _ _ (by rfl) (pb+1) (.slice a1 s c1) _ (by rfl) hO1 (by rw[Hl1.out];omega) wr.heap.size (.slice (some (a_ tob 0)) 256 256) rfl (by rfl) hnw hbs _ rfl ?_;rw[Hl1.out];intro g1 cap1 w5 hO5 hgrow hgb5 _;have hc5:w5.cell? (a_ pb 1)=some (.slice a1 s c1)/\w5.frozen? (a_ pb 1)=false:=by
        have:=(HPM1.out.1.q.c.block (hgrow.block pb (HPM1.out.1.q.lt (by omega)) (λe=>by have:=((HPM1.out.1.q.o 1 (by omega)).lt pb (by rw[He1.out];exact e.symm)).1;omega))) 1 (vs 1) rfl;rw[He1.out]at this;exact this
       obtain⟨hc5a,hc5b⟩:=hc5;have PM6:=HPM1.out.1.addR (tob:=tob) (f:=to) HPM1.out.2 (g:=g1) (len:=s+1) (cap:=cap1) (by rw[He1.out];exact hgrow) (by rw[HPM1.out.1.l1];exact hO5) (by rw[He1.out];exact hgb5) (λc _=>by rw[if_pos rfl]);have HPM6:Hid (PM pb (pb+1) P R E l (s+1) (s+1) (Rt l) (λi c=>if i=s then to c else Ng E t i c) sk (Yk tk s tob) (Yk vs 1 (.slice (some (a_ g1 0)) (s+1) cap1)) (Yk ls 1 (ls 1++[.slice (some (a_ tob 0)) 256 256])) (λk=>X k\/k=tob) w (w5.setCell (a_ pb 1) (.slice (some (a_ g1 0)) (s+1) cap1))):=PM6;clear PM6 hO5 hgrow hgb5 hO1 hnw hbs HPM1 hc1;rcases Gh.last HIB.out.gh (by have:=HIB.out.lt;have:=HIB.out.ln;omega)with ⟨g1',g2'⟩|⟨g1',t',g2',⟨u,g3'⟩,g4'⟩
       ·have hbig:(200:Int)<n:=by have:=HIB.out.ln;omega
        have HR:Hid (Nm es R w (.returned (.tuple #[.pointer none,.bool false])) (w5.setCell (a_ pb 1) (.slice (some (a_ g1 0)) (s+1) cap1))):=by
         refine⟨HPM6.out.b,Or.inl ⟨rfl,?_⟩⟩;rw[HEv.out.2];exact g2'
        clear HPM6 g1' g2';go_wp2_with fail;go_ret2;exact HR.out
       ·have hsm:¬(200:Int)<n:=by have:=HIB.out.ln;omega
        have hn200:n<=200:=by omega
        have HOBn:Hid (Ob es R P E (s+1) n l t'):=⟨HIB.out.ln,HIB.out.su,g2'⟩;have HPM7:Hid (PM pb (pb+1) P R E l (s+1) (s+1) (Rt l) (Ng E t') sk (Yk tk s tob) (Yk vs 1 (.slice (some (a_ g1 0)) (s+1) cap1)) (Yk ls 1 (ls 1++[.slice (some (a_ tob 0)) 256 256])) (λk=>X k\/k=tob) w (w5.setCell (a_ pb 1) (.slice (some (a_ g1 0)) (s+1) cap1))):=by
         refine HPM6.out.congr (λ_ _=>rfl) (λi c hi hc=>?_);by_cases e:i=s
         ·subst e;rw[if_pos rfl];exact g4' c hc
         ·rw[if_neg e];unfold Ng;have h1:=idx_lt HEv.out.1 hc;have h2:(i+1)*(reps E 256).length<=s*(reps E 256).length:=Nat.mul_le_mul_right _ (by omega);rw[Nat.succ_mul]at h2;have h3:=HtL.out;have h4:cnt E 256=(reps E 256).length:=rfl;rw[g3'];simp only[List.getD_eq_getElem?_getD];rw[List.getElem?_append_left (by omega)]
        have hlt3:=HIB.out.lt;clear HPM6 g1' g2' g3' g4';go_wp2_with fail;go_roundw
        case rel=>exact⟨s+1,n,l,t',_,_,_,sk,_,a4,c4,k5,c5,by omega,hn200,by go_num,rfl,rfl,⟨by rw[Y5 _ _ (by omega)];exact Hv.out.1,by rw[Y5 _ _ (by omega)];exact Hv.out.2.1,by rw[Y5 _ _ (by omega)];exact Hv.out.2.2⟩,HOBn.out,HPM7.out⟩
        case measure=>simp[intOf];omega
    ·have hge2:¬(s:Int)<n:=by omega
     have hsn:s=n:=by omega
     subst hsn;have HR:Hid (Nm es R w (.returned (.tuple #[.pointer (some (a_ pb 0)),.bool true])) wr):=by
      refine⟨PMs.b,Or.inr ⟨l,t,pb,rfl,?_,?_,?_,?_⟩⟩
      ·rw[HEv.out.2,<-OB.ln];exact OB.ex
      ·have o0:=PMs.q.o 0 (by omega);obtain⟨ad,cap,e,hc⟩:=o0.form;rw[PMs.l0,List.length_map,List.length_range]at e;rw[PMs.l0]at hc;refine⟨ad,cap,by rw[(PMs.q.cell (i:=0) (by omega)).1,e,OB.ln],λi hi=>?_⟩;obtain⟨g,e1,e2⟩:=hc i (I6 (Rt l i)) (by rw[<-OB.ln]at hi;simp[hi]);exact⟨g,0,e1,by rw[Nat.zero_add];exact e2⟩
      ·have o1:=PMs.q.o 1 (by omega);obtain⟨ad,cap,e,hc⟩:=o1.form;rw[PMs.l1,List.length_map,List.length_range]at e;rw[PMs.l1]at hc;refine⟨ad,cap,by rw[(PMs.q.cell (i:=1) (by omega)).1,e,OB.ln],λi hi=>?_⟩;rw[<-OB.ln]at hi;obtain⟨g,e1,e2⟩:=hc i (.slice (some (a_ (tk i) 0)) 256 256) (by simp[hi]);refine⟨g,0,_,_,e1,by rw[Nat.zero_add];exact e2,?_⟩;have:=PMs.rs i hi wr (Wq.refl _ _) (Nat.le_refl _);rw[HEv.out.2,<-Hee.out.1];exact this
      ·have o2:=PMs.q.o 2 (by omega);rw[PMs.l2]at o2;obtain⟨ad,cap,e,il⟩:=Wt.il (l:=reps E 256) o2;rw[HEv.out.2];exact⟨ad,cap,by rw[(PMs.q.cell (i:=2) (by omega)).1,e],il⟩
     clear PMs OB;go_wp2_with fail;go_ret2;exact HR.out
theorem TB.below {t:Nat->N_} (h:TB ta N t w) (y:Bl w w'):TB ta N t w':=λi d=>by
 obtain⟨tb,a,ra,f,e,c,b⟩:=h i d;exact⟨tb,a,ra,f,e,by rw[y.cell (p:=(a_ tb (a+i))) (Ze w _ c)];exact c,b.below y⟩
def Cu (rules:Nat) (O:List Nat) (rows:Nat->Nat->Int) (vd:Nat->Int) (B:Nat) (e:Ending) (w':World):Prop:=
 ∃ca cc la lc na nc,e=.returned (.agg #[.int .i64 rules,.slice ca 256 cc,.slice la O.length lc,.slice na (O.length*cnt (Cl rows O.length) 256) nc])/\((∀k o,ca=some ⟨k,o,none⟩->B<=k)/\(∀k o,la=some ⟨k,o,none⟩->B<=k)/\(∀k o,na=some ⟨k,o,none⟩->B<=k)) /\
  IL ca (λb=>idxI (Cl rows O.length) b) 256 w'/\IL la (λi=>vd (O.getD i 0)) O.length w'/\IL na (λj=>(WQ rows (reps (Cl rows O.length) 256) O.length).getD j 0) (O.length*cnt (Cl rows O.length) 256) w'
def Cc (rules:Nat) (O:List Nat) (rows:Nat->Nat->Int) (vd:Nat->Int) (w:World) (e:Ending) (w':World):Prop:=Below w.heap.size w w'/\Cu rules O rows vd w.heap.size e w'
theorem Cu.heap {vd:Nat->Int}{e:Ending} (h:Cu rules O rows vd B e w) (y:∀k,B<=k->k<w.heap.size->w'.heap[k]?=w.heap[k]?):Cu rules O rows vd B e w':=by
 obtain⟨d,f,l,lc,m,nc,h1,⟨h2,h3,c⟩,g,i,j⟩:=h;exact⟨d,f,l,lc,m,nc,h1,⟨h2,h3,c⟩,g.heap (λk b ⟨o,a⟩=>y k (h2 k o a) b),i.heap (λk b ⟨o,a⟩=>y k (h3 k o a) b),j.heap (λk b ⟨o,a⟩=>y k (c k o a) b)⟩
def Cv (ra:Option Addr) (n:Nat) (rows:Nat->Nat->Int) (w:World):Prop:=∀i,i<n->∃b o xa xc,ra=some ⟨b,o,none⟩/\w.cell? ⟨b,o+i,none⟩=some (.slice xa 256 xc)/\IL xa (rows i) 256 w
noncomputable def RN (A:Aut) (nx:Nat->Nat->Int) (O:List Nat) (i b:Nat):Int:=RI O (US A (Ud A.N nx (O.getD i 0) b))
theorem E9 {x:Nat} (z:x ∉ O) (y:Nat):RI (O++[x]) y=if y=x then (O.length:Int) else RI O y:=by
 unfold RI;by_cases e:y=x
 ·subst e;rw[if_pos (by simp),if_pos rfl,List.idxOf_append,if_neg z];simp
 rw[if_neg e];by_cases h:y∈O
 ·rw[if_pos (by simp[h]),if_pos h,List.idxOf_append,if_pos h]
 rw[if_neg (by simp[h,e]),if_neg h]
theorem DM (O:List Nat) (y:Nat):-1<=RI O y/\(y∈O->0<=RI O y)/\(y ∉ O->RI O y=-1):=by
 unfold RI;by_cases h:y∈O
 ·rw[if_pos h];exact⟨by omega,λ_=>by omega,λa=>absurd h a⟩
 rw[if_neg h];exact⟨by omega,λa=>absurd a h,λ_=>rfl⟩
theorem E3 (w:World) (base:Nat) (t:Int) (y:base<=w.heap.size):OwnL base (.slice (some (a_ w.heap.size 0)) 1 1) [t] (w.alloc (.cells #[I6 t] 3)):=
 World.ownsRow_lit (base:=base) (e:=3) (size:=1) w #[I6 t] 1 y (by unfold maxLen;omega) rfl
structure BO (fb N B0:Nat) (A:Aut) (vo:Value) (O:List Nat) (W w:World):Prop where
 f:TC fb (inl (fun j=>(US A j:Int)) (N+1)) w
 n:TC (fb+1) (inl (RI O) (N+1)) w
 o:OwnL B0 vo (O.map fun x:Nat=>(x:Int)) w
 b:Below W.heap.size W w
 z:fb+2<=B0/\B0<=w.heap.size/\W.heap.size<=fb
variable {A:Aut}
theorem BO.below {fb:Nat} (h:BO fb N B0 A vo O W w) (y:Bl w w'):BO fb N B0 A vo O W w':=by
 have hz:=h.z;have:=y.size;exact⟨h.f.block (y.block _ (by omega)),h.n.block (y.block _ (by omega)),h.o.below y,h.b.trans (y.mono h.b.size),⟨hz.1,by omega,hz.2.2⟩⟩
theorem BO.app {fb:Nat}{x:Nat} (h:BO fb N B0 A vo O W w) (Y:x ∉ O) (H:x<N+1) {ob:Obj} (y:((w.setCell (a_ (fb+1) x) (I6 (O.length:Int))).alloc ob).grownBy w5 vo.ownBlock) (J:OwnL B0 (sL g len cap) ((O.map λx:Nat=>(x:Int))++[(x:Int)]) w5):BO fb N B0 A (sL g len cap) (O++[x]) W w5:=by
 have hz:=h.z;obtain⟨w1,a⟩:=nam (w.setCell (a_ (fb+1) x) (I6 (O.length:Int)));rw[<-a]at y;have t:w1.heap.size=w.heap.size:=by rw[a,Zz]
 have i:∀q,q≠fb+1->w1.heap[q]?=w.heap[q]?:=λq d=>by rw[a];exact Zq w (a_ (fb+1) x) _ q (λe=>d e)
 have r:=h.n.set x (by rw[XA];exact H) (I6 (O.length:Int));rw[<-a,WJ]at r;have c:=box_bel w1 ob;have hs:=y.size;have s:=c.size;have m:∀q,q<B0->w5.heap[q]?=w1.heap[q]?:=λq d=>by
  rw[y.block q (by omega) (λe=>by have:=(h.o.blk q e.symm).1;omega),c.block q (by omega)]
 have k:Bl W w1:=by rw[a];exact h.b.setCell (p:=(a_ (fb+1) x)) (by show _<=fb+1;omega) _
 have l:=k.trans (c.mono k.size);refine⟨(h.f.block (i fb (by omega))).block (m fb (by omega)),?_,by rw[List.map_append];exact J,l.grown y l.size (λq d=>by have:=(h.o.blk q d).1;omega),⟨hz.1,by omega,hz.2.2⟩⟩;rw[Yr (λj _=>E9 Y j)];exact r.block (m (fb+1) (by omega))
theorem KT (w:World) (n:Nat) (y:n<=1000000):(Instr.makeSlice 53 (I6 (n:Int)) (I6 (n:Int))).run Tryz.prog w=.ok (.slice (some (a_ w.heap.size 0)) n n) (w.alloc (.cells (Q0 n).toArray 23)):=by
 obtain⟨i,b,hz,hs,a⟩:=Qp;have h:=run_make (P:=Tryz.prog) w 53 23 i (sN) u_s b hz .i64 .i64 n n (by omega) (by omega) (by rw[a];omega) (by omega);rw[hs]at h;simp only[ZE,Nat.mul_one]at h;rw[show(Value.slice none 0 0).cells=#[sN] from rfl,SX]at h;exact h
def FS (xb:Nat->Nat) (i n:Nat):List Value:=(List.range n).map λj=>if j<i then .slice (some ⟨xb j,0,none⟩) 256 256 else .slice none 0 0
theorem Pq (xb:Nat->Nat) (i n:Nat):(FS xb i n).length=n:=by simp[FS]
theorem Oy (xb:Nat->Nat) (i:Nat) {n j:Nat} (h:j<n):(FS xb i n)[j]?=some (if j<i then .slice (some (a_ (xb j) 0)) 256 256 else sN):=by simp[FS,h]
theorem D1 (xb:Nat->Nat) {i n:Nat} (h:i<n) (x:Nat):(FS xb i n).set i (sL x 256 256)=FS (Yk xb i x) (i+1) n:=by
 refine List.ext_getElem? (λj=>?_);by_cases a:j<n
 ·rw[Oy _ _ a];by_cases e:j=i
  ·subst e;rw[List.getElem?_set_self (by rw[Pq];exact a),p_,Y0]
  rw[List.getElem?_set_ne (λq=>e q.symm),Oy _ _ a,Y5 _ _ e];by_cases e2:j<i
  ·rw[if_pos e2,p_]
  rw[if_neg e2,g_]
 rw[ZB (by simp[Pq];omega),ZB (by rw[Pq];omega)]
structure RT (Wc:World) (xb:Nat->Nat) (i n:Nat) (rows:Nat->Nat->Int) (w:World):Prop where
 c:TC Wc.heap.size (FS xb i n) w
 r:∀j,j<i->TC (xb j) (inl (rows j) 256) w/\Wc.heap.size<xb j/\xb j<w.heap.size
 b:Below Wc.heap.size Wc w
 z:Wc.heap.size<w.heap.size
theorem RT.rwb {y:World} (h:RT y xb n n rows w):Cv (some (a_ y.heap.size 0)) n rows w:=λi a=>by
 refine⟨y.heap.size,0,_,256,rfl,?_,FE (h.r i a).1⟩;rw[Zn];have:=(h.c i _ (Oy xb n a)).1;rw[if_pos a]at this;exact this
def Qe (es:Nat->Rx) (n:Nat) (w:World) (en:Ending) (w':World):Prop:=
 Below w.heap.size w w' /\
 ((en=.returned (.tuple #[.agg XL.toArray,.int .i64 8])/\Ov (VT es n) (X5 es n) (TV es n)) \/
  ∃l t A nx O,A=Xu l t (TV es n).length/\WS (VT es n) (X5 es n) (TV es n) l.length 0 l t/\nx=(λi b=>t.getD (i*(TV es n).length+idx (Kq (Xn es n) (Y2 es n)) b) (-1))/\O=reps (alB A) A.N /\
  ((96<O.length/\en=.returned (.tuple #[.agg XL.toArray,.int .i64 9])) \/
   (¬96<O.length/\∃m B,en=.returned (.tuple #[m,.int .i64 0])/\Cu n O (RN A nx O) A.vd B (.returned m) w')))
theorem GT (b cX cap n:Nat) (es:Nat->Rx) (w:World) (h8:n<=8) (c7:Y2 es n<=96)
  (cY:∀W,Bl w W->Cp 26 #[.slice (some (a_ b cX)) n cap] W λe' w'=>(∃r a,e'=.returned (.tuple #[I6 0,I6 r,I6 a]))/\Bl W w')
  (cZ:∀W,Bl w W->Cp 27 #[.slice (some (a_ b cX)) n cap] W (IC es n W))
  (c8:∀l t,WS (VT es n) (X5 es n) (TV es n) l.length 0 l t->Pn (Xu l t (TV es n).length) (Kq (Xn es n) (Y2 es n)) (λi b=>t.getD (i*(TV es n).length+idx (Kq (Xn es n) (Y2 es n)) b) (-1)))
  (c6:∀(W:World) (pb:Nat) (vd:Nat->Int) (nx:Nat->Nat->Int) (bs:List Nat) (N:Nat) (oa:Option Addr) (oc:Nat) (O:List Nat) (ra:Option Addr) (rc:Nat) (rows:Nat->Nat->Int),IE pb N vd nx bs W->IL oa (λi=>((O.getD i 0:Nat):Int)) O.length W->Cv ra O.length rows W->O.length<=96->N<=200->(∀x∈O,x<N) ->
   Cp 31 #[.pointer (some (a_ pb 0)),I6 n,.slice oa O.length oc,.slice ra O.length rc] W (Cc n O rows vd W)):
  Cp 10 #[.slice (some (a_ b cX)) n cap] w (Qe es n w):=by
 have hz:=WV;obtain⟨W0,ap⟩:=nam (w.alloc (.cells #[I6 0,.slice none 0 0,.slice none 0 0,.slice none 0 0] 25));have T0:TC w.heap.size XL W0:=by rw[ap];exact TC.boxed w XL _
 have B0:Bl w W0:=by rw[ap];exact box_bel _ _
 have b6:W0.heap.size=w.heap.size+1:=by rw[ap];simp
 have bz:=hyd (cY W0 B0);have bG:=hyd ap;have bA:=hyd cZ;have bJ:=hyd3 b6 T0 B0;have cu:=hyd c8;have cq:Hid (∀(W:World) (pb:Nat) (vd:Nat->Int) (nx:Nat->Nat->Int) (bs:List Nat) (N:Nat) (oa:Option Addr) (oc:Nat) (O:List Nat) (ra:Option Addr) (rc:Nat) (rows:Nat->Nat->Int),IE pb N vd nx bs W->IL oa (λi=>((O.getD i 0:Nat):Int)) O.length W->Cv ra O.length rows W->O.length<=96->N<=200->(∀x∈O,x<N) ->
   Cp 31 #[.pointer (some (a_ pb 0)),I6 n,.slice oa O.length oc,.slice ra O.length rc] W (Cc n O rows vd W)):=c6
 clear ap b6 T0 B0 cY cZ c8 c6;go_enter Tryz.func10,Tryz.ntmps10;go_wp2_with fail;rw[<-bG.out];refine bz.out.mono ?_;rintro e w1 ⟨⟨r,a,rfl⟩,B1⟩;obtain⟨s0,T0,B0⟩:=bJ.out;have aS:Bl w w1:=B0.trans (B1.mono (by omega));have T1:=T0.block (B1.block _ (by omega));have ci:w.heap.size+1<=w1.heap.size:=by have:=B1.size;omega
 have aI:=hyd (bA w1 aS);have H1:=hyd3 T1 aS ci;clear bz bG s0 T0 B0 B1 aS T1 bA bJ ci;go_wp2_with fail;refine aI.out.mono ?_;rintro e w2 ⟨X,tr,ad,cp,ms,Ts,Ns,ti,nd,rfl,bO,bP,a2,a1,a5,B2,cI⟩;obtain⟨gb,bW⟩:=nam w1.heap.size;rw[<-bW]at a2 a1 a5 ⊢;have bE:=hyd (Fj X gb n tr ad cp ms Ts Ns es ti nd bO h8 c7 bP w2 a2 a1 a5);have H2:Hid (TC w.heap.size XL w2/\Bl w w2/\w.heap.size+1<=w2.heap.size):=by
  obtain⟨x1,x2,x3⟩:=H1.out;exact⟨x1.block (B2.block _ (by omega)),x2.trans (B2.mono (by omega)),by omega⟩
 clear aI bO bP a2 a1 a5 B2 cI bW H1;go_wp2_with fail;refine bE.out.mono ?_;rintro e w3 ⟨B3,bb⟩;have H3:Hid (TC w.heap.size XL w3/\Bl w w3/\w.heap.size+1<=w3.heap.size):=by
  obtain⟨x1,x2,x3⟩:=H2.out;have:=B3.size;exact⟨x1.block (B3.block _ (by omega)),x2.trans (B3.mono (by omega)),by omega⟩
 clear H2 bE;rcases bb with ⟨rfl,b5⟩|⟨l,t,pb,rfl,R,aO⟩
 ·obtain⟨T3,bt,cJ⟩:=H3.out;obtain⟨tz,BX,y,_⟩:=WU (I6 0) (.slice none 0 0) (.slice none 0 0) (.slice none 0 0) T3 bt;obtain⟨WX,H⟩:∃W,W=w3.setCells w.heap.size 0 [I6 0,.slice none 0 0,.slice none 0 0,.slice none 0 0]:=⟨_,rfl⟩;rw[<-H]at BX y;have ao:Hid (WX=w3.setCells w.heap.size 0 [I6 0,.slice none 0 0,.slice none 0 0,.slice none 0 0]):=H;have Q:Hid ((loadVar 25 (a_ w.heap.size 0)).run Tryz.prog WX=.ok (.agg #[I6 0,.slice none 0 0,.slice none 0 0,.slice none 0 0]) WX):=y;have HR:Hid (Qe es n w (.returned (.tuple #[.agg XL.toArray,I6 8])) WX):=⟨BX,Or.inl ⟨rfl,b5⟩⟩;clear H y T3 bt cJ B3 b5 BX;go_wp2_with (first|(with_reducible refine gst 25 ?_;refine X9.out ?_));refine⟨?_⟩;refine Za rfl 25 _ _ rfl w.heap.size 0 #[I6 0,.slice none 0 0,.slice none 0 0,.slice none 0 0] rfl rfl tz Yl (by simp[Value.oneCell']) ?_;rw[Zc,<-ao.out];go_wp2_with fail;exact Zr (v:=.tuple #[.agg XL.toArray,I6 8]) (XO Tryz.results10 rfl Q.out rfl) rfl HR.out
 have PN:=cu.out l t R;obtain⟨E,hE⟩:=nam (Kq (Xn es n) (Y2 es n));obtain⟨A,hA⟩:=nam (Xu l t (TV es n).length);obtain⟨nx,aE⟩:∃nx:Nat->Nat->Int,nx=(λi b=>t.getD (i*(TV es n).length+idx (Kq (Xn es n) (Y2 es n)) b) (-1)):=⟨_,rfl⟩;rw[<-hA,<-hE]at PN;rw[hE,<-aE,<-hE]at PN;obtain⟨N,hN⟩:=nam A.N;have aB:N=l.length:=by rw[hN,hA];rfl
 have a4:N<=200:=by rw[aB];exact R.size.2.1
 have cP:0<N:=by rw[aB];exact R.size.1
 have aq:TV es n=reps E 256:=by rw[hE];rfl
 have aC:IE pb N A.vd nx (reps E 256) w3:=by
  rw[aB,hA,aE,<-aq];exact aO
 have bS:=FY pb N A.vd nx (reps E 256) w3 a4 aC (λk c hk=>(reps_mem hk).1) (cnt_le E 256) (λi c hi hc=>by rw[hN]at hi ⊢;exact PN.lt hi hc);have bw:=hyd bS;have HX:=hyd5 R hA aE hN PN;have bD:=hyd aC;have cC:∃va vc,w3.cell? (a_ pb 0)=some (.slice va N vc):=by
  obtain⟨va,vc,h1,_⟩:=aC.v;exact⟨va,vc,h1⟩
 clear R aO hA hE aE aB aq aC bS PN hN B3;go_wp2_with fail;refine bw.out.mono ?_;rintro e P ⟨rk,tt,rfl,aP,B4,aL,aM⟩;obtain⟨va,vc,cv⟩:=cC;have cB:P.cell? (a_ pb 0)=some (.slice va N vc):=by rw[B4.cell (p:=(a_ pb 0)) (Ze w3 _ cv)];exact cv
 have bI:Hid (∀w',(Instr.makeSlice 23 (I6 ((N:Int)+1)) (I6 ((N:Int)+1))).run Tryz.prog w'=.ok (.slice (some (a_ w'.heap.size 0)) (N+1) (N+1)) (w'.alloc (.cells (XN (N+1)).toArray 3))):=λw'=>by
  have:=VJ w' (N+1) (by omega);rw[show((N:Int)+1)=((N+1:Nat):Int) by omega];exact this
 have a7:=aP.tb;obtain⟨tb,b7⟩:=nam w3.heap.size;rw[<-b7]at a7 ⊢;have aV:=hyd a7;have aT:=hyd2 aL aM;have H4:Hid (TC w.heap.size XL P/\Bl w P/\w.heap.size+1<=P.heap.size/\IE pb N A.vd nx (reps E 256) P):=by
  obtain⟨x1,x2,x3⟩:=H3.out;have:=B4.size;exact⟨x1.block (B4.block _ (by omega)),x2.trans (B4.mono (by omega)),by omega,bD.out.below B4⟩
 have b1:=bI.out P;obtain⟨w5,au⟩:=nam (P.alloc (.cells (XN (N+1)).toArray 3));have aQ:=bI.out w5;obtain⟨w6,av⟩:=nam (w5.alloc (.cells (XN (N+1)).toArray 3));obtain⟨fb,aD⟩:=nam P.heap.size;have z5:w5.heap.size=fb+1:=by rw[au,aD];simp
 have z6:w6.heap.size=fb+2:=by rw[av];simp[z5]
 have x5:Bl P w5:=by rw[au];exact box_bel _ _
 have x6:Bl w5 w6:=by rw[av];exact box_bel _ _
 have Tf:TC fb (inl (λ_=>0) (N+1)) w6:=by
  have h1:TC fb (inl (λ_=>0) (N+1)) w5:=by rw[aD,au];exact TC.boxed P (XN (N+1)) 3
  exact h1.block (x6.block fb (by omega))
 have Tn:TC (fb+1) (inl (λ_=>0) (N+1)) w6:=by rw[<-z5,av];exact TC.boxed w5 (XN (N+1)) 3
 have H6:Hid (TC fb (inl (λ_=>0) (N+1)) w6/\TC (fb+1) (inl (λ_=>0) (N+1)) w6/\Bl P w6/\w6.heap.size=fb+2):=⟨Tf,Tn,x5.trans (x6.mono (by omega)),z6⟩;have af:=hyd aD;have bK:=hyd au;have cy:=hyd av;clear bw aP a7 aL aM cv b7 Tf Tn x5 x6 B4 H3 bD au av aD z5 z6;rw[bK.out]at aQ;go_wp2_with fail;rw[<-bK.out,<-cy.out,<-af.out];clear b1;clear aQ cB
 go_loopw [14] (λx w'=>∃i:Nat,i<=N+1/\x=I6 i/\TC fb (inl (λj=>if j<i then (US A j:Int) else 0) (N+1)) w'/\TC (fb+1) (inl (λj=>if j<i then -1 else 0) (N+1)) w'/\Bl P w'/\fb+2<=w'.heap.size) (λx _=>N+1-(intOf x).toNat)
 ·obtain⟨y1,y2,y3,y4⟩:=H6.out;exact⟨0,by omega,rfl,by rw[Yr (g:=λ_=>0) (λj _=>by simp)];exact y1,by rw[Yr (g:=λ_=>0) (λj _=>by simp)];exact y2,y3,by omega⟩
 clear H6;obtain⟨i,hi,rfl,Tf,Tn,Y,sz⟩:=hrel;by_cases bY:i<=N
 ·have⟨hle',hle2⟩:(i:Int)<=N/\(i:Int)<N+1:=by omega
  obtain⟨f1,f2⟩:=Tf i _ (Xk _ (show i<N+1 by omega));have ag:=Tf.set i (by rw[XA];omega) (I6 (i:Int));have bT:∀q,q≠fb->(wr.setCell (a_ fb i) (I6 (i:Int))).heap[q]?=wr.heap[q]?:=λq hq=>Zq wr (a_ fb i) _ q (λe=>hq e)
  have aY:=Tn.block (bT (fb+1) (by omega));obtain⟨n1,n2⟩:=aY i _ (Xk _ (show i<N+1 by omega));have az:=aY.set i (by rw[XA];omega) (I6 (-1));obtain⟨w7,F⟩:=nam ((wr.setCell (a_ fb i) (I6 (i:Int))).setCell (a_ (fb+1) i) (I6 (-1)));have aX:TC fb ((inl (λj=>if j<i then (US A j:Int) else 0) (N+1)).set i (I6 (i:Int))) w7:=by
   rw[F];exact ag.block (Zq _ (a_ (fb+1) i) _ fb (λe=>by have e':fb=fb+1:=e;omega))
  rw[<-F]at az;rw[WJ]at aX az;have B7:Bl P w7:=by
   rw[F];exact(Y.setCell (p:=(a_ fb i)) (by have:=af.out;show _<=fb;omega) _).setCell (p:=(a_ (fb+1) i)) (by have:=af.out;show _<=fb+1;omega) _
  have z7:fb+2<=w7.heap.size:=by rw[F,Zz,Zz];exact sz
  have H7:Hid (TC fb (inl (λj=>if j=i then (i:Int) else if j<i then (US A j:Int) else 0) (N+1)) w7/\TC (fb+1) (inl (λj=>if j<i+1 then -1 else 0) (N+1)) w7/\Bl P w7/\fb+2<=w7.heap.size):=by
   refine⟨aX,?_,B7,z7⟩;rw[Yr (g:=λj=>if j=i then -1 else if j<i then -1 else 0) (λj _=>?_)]
   ·exact az
   by_cases e:j=i
   ·simp[e]
   by_cases e2:j<i
   ·simp[e,e2,show j<i+1 by omega]
   simp[e,e2,show ¬j<i+1 by omega]
  have aW:=hyd F;clear Tf Tn ag aX aY az B7 z7 F Y bT;go_wp2_with fail;rw[<-aW.out];clear f1 f2 n1 n2
  go_loopw [15] (λx w'=>∃(f:Nat) (jj:Int),x=I6 jj/\-1<=jj/\jj<=i/\f<=i/\Hid (tt i f=false/\∀c:Nat,jj<c->c<=i->tt i c=false->f<=c)/\TC fb (inl (λj=>if j=i then (f:Int) else if j<i then (US A j:Int) else 0) (N+1)) w'/\TC (fb+1) (inl (λj=>if j<i+1 then -1 else 0) (N+1)) w'/\Bl P w'/\fb+2<=w'.heap.size) (λx _=>(intOf x+1).toNat)
  ·obtain⟨y1,y2,y3,y4⟩:=H7.out;exact⟨i,i,rfl,by omega,by omega,by omega,⟨aT.out.1.irr i bY,λc h1 h2=>by omega⟩,y1,y2,y3,y4⟩
  clear H7;obtain⟨f,jj,rfl,cQ,cR,bV,HF,Tf,Tn,Y,sz⟩:=hrel;by_cases hj:0<=jj
  ·obtain⟨j,rfl⟩:∃j:Nat,jj=j:=⟨jj.toNat,by omega⟩;have cE:(0:Int)<=j:=by omega
   have⟨hji,hjN⟩:j<=i/\(j:Int)<N+1:=by omega
   obtain⟨cV,cW,ra,rc,et,ct,br⟩:=(aV.out.below Y) i bY;cases et;obtain⟨b2,o2,e2,c2⟩:=br j (by omega);subst e2;simp only[Zn]at ct;cases ht:tt i j
   ·rw[ht]at c2;obtain⟨f1,f2⟩:=Tf i _ (Xk _ (show i<N+1 by omega));have ag:=Tf.set i (by rw[XA];omega) (I6 (j:Int));rw[WJ]at ag;have Hn:Hid (tt i j=false/\∀c:Nat,((j:Int)-1)<c->c<=i->tt i c=false->j<=c):=⟨ht,λc h1 _ _=>by omega⟩;have H8:Hid (TC fb (inl (λq=>if q=i then (j:Int) else if q<i then (US A q:Int) else 0) (N+1)) (wr.setCell (a_ fb i) (I6 (j:Int)))/\TC (fb+1) (inl (λq=>if q<i+1 then -1 else 0) (N+1)) (wr.setCell (a_ fb i) (I6 (j:Int)))/\Bl P (wr.setCell (a_ fb i) (I6 (j:Int)))/\fb+2<=(wr.setCell (a_ fb i) (I6 (j:Int))).heap.size):=by
     refine⟨?_,Tn.block (Zq wr (a_ fb i) _ (fb+1) (λe=>by have e':fb+1=fb:=e;omega)),Y.setCell (p:=(a_ fb i)) (by have:=af.out;show _<=fb;omega) _,by rw[Zz];exact sz⟩;rw[Yr (g:=λq=>if q=i then (j:Int) else if q=i then (f:Int) else if q<i then (US A q:Int) else 0) (λq _=>by by_cases e:q=i<;>simp[e])];exact ag
    clear Tf ag Tn ht HF br;go_wp2_with fail;go_roundw
    ·exact⟨j,(j:Int)-1,by go_num,by omega,by omega,hji,Hn,H8⟩
    simp[intOf]
   rw[ht]at c2;have Hn:Hid (tt i f=false/\∀c:Nat,((j:Int)-1)<c->c<=i->tt i c=false->f<=c):=⟨HF.out.1,λc h1 h2 h3=>by
    by_cases e:c=j
    ·subst e;rw[ht]at h3;cases h3
    exact HF.out.2 c (by omega) h2 h3⟩
   clear ht HF br;go_wp2_with fail;go_roundw
   ·exact⟨f,(j:Int)-1,by go_num,by omega,by omega,bV,Hn,Tf,Tn,Y,sz⟩
   simp[intOf]
  have⟨cE,hjm⟩:¬(0:Int)<=jj/\jj=-1:=by omega
  subst hjm;have Hf:Hid ((f:Int)=(US A i:Nat)):=by
   show _=_;obtain⟨_,_,_,x4,x5⟩:=HX.out;have:=CH x5 (t:=tt) (by rw[<-x4];exact aT.out.1) (by rw[<-x4];exact aT.out.2) (i:=i) (f:=f) (by omega) bV HF.out.1 (λj hj=>by
    cases hx:tt i j
    ·have:=HF.out.2 j (by omega) (by omega) hx;omega
    rfl)
   rw[this]
  have H8:Hid (TC fb (inl (λj=>if j<i+1 then (US A j:Int) else 0) (N+1)) wr):=by
   show TC _ _ _;rw[Yr (g:=λj=>if j=i then (f:Int) else if j<i then (US A j:Int) else 0) (λj _=>?_)]
   ·exact Tf
   by_cases e:j=i
   ·subst e;simp[Hf.out]
   by_cases e2:j<i
   ·simp[e,e2,show j<i+1 by omega]
   simp[e,e2,show ¬j<i+1 by omega]
  clear Tf HF;go_wp2_with fail;go_roundw
  ·exact⟨i+1,by omega,by go_num,H8,Tn,Y,sz⟩
  simp[intOf];omega
 have⟨hle',hiN⟩:¬(i:Int)<=N/\i=N+1:=by omega
 subst hiN;have cO:(0:Int)<N+1:=by omega
 obtain⟨B0,a0⟩:=nam wr.heap.size;have aw:=box_bel wr (.cells #[I6 0] 3);have aZ:=Tn.block (aw.block (fb+1) (by omega));obtain⟨n1,n2⟩:=aZ 0 _ (Xk _ (show 0<N+1 by omega));have aA:=aZ.set 0 (by rw[XA];omega) (I6 0);rw[WJ]at aA;obtain⟨w9,I⟩:=nam ((wr.alloc (.cells #[I6 0] 3)).setCell (a_ (fb+1) 0) (I6 0));rw[<-I]at aA;have a9:∀q,q≠fb+1->w9.heap[q]?=(wr.alloc (.cells #[I6 0] 3)).heap[q]?:=λq hq=>by rw[I];exact Zq _ (a_ (fb+1) 0) _ q (λe=>hq e)
 have bx:Hid (BO fb N B0 A (.slice (some (a_ B0 0)) 1 1) [0] P w9):=by
  refine⟨?_,?_,?_,?_,⟨by omega,?_,by have:=af.out;omega⟩⟩
  ·have:=(Tf.block (aw.block fb (by omega))).block (a9 fb (by omega));rw[Yr (g:=λj=>if j<N+1 then (US A j:Int) else 0) (λj hj=>by rw[if_pos hj])];exact this
  ·rw[Yr (g:=λj=>if j=0 then 0 else if j<N+1 then -1 else 0) (λj hj=>?_)]
   ·exact aA
   unfold RI;by_cases e:j=0
   ·simp[e]
   simp[e,hj]
  ·have:=E3 wr B0 0 (by omega);rw[<-a0]at this;exact this.keep (λk hk=>a9 k (by
     have cS:B0=k:=Zh hk;omega))
  ·rw[I];exact(Y.trans (aw.mono Y.size)).setCell (p:=(a_ (fb+1) 0)) (by have:=af.out;show _<=fb+1;omega) _
  rw[I,Zz];have:=aw.size;omega
 have ay:=hyd I;have bB:=hyd (Or.first HX.out.2.2.2.2);clear Tf Tn aZ aA I a9 aw Y sz;go_wp2_with fail;rw[<-a0,<-ay.out];clear n1 n2 a0
 go_loopw [16,17] (λov x w'=>∃(i d:Nat) (O:List Nat) (oa:Nat) (oc:Nat),i<=d/\d<=200/\x=I6 i/\ov=.slice (some (a_ oa 0)) d oc/\Hid (d=O.length)/\Hid ((∃r,Or A E O i r 0)\/(i=O.length/\O=reps (alB A) A.N))/\BO fb N B0 A (.slice (some (a_ oa 0)) d oc) O P w') (λ_ x _=>201-(intOf x).toNat)
 ·exact⟨0,1,[0],B0,1,by omega,by omega,rfl,rfl,rfl,Or.inl ⟨0,bB⟩,bx⟩
 clear bx bB;obtain⟨i,d,O,oa,oc,hi,ah,rfl,rfl,C,J,s⟩:=hrel;by_cases bZ:i<d
 ·have b0:(i:Int)<d:=by omega
  have aF:∃r,Or A E O i r 0:=by
   rcases J with h|⟨h,_⟩
   ·exact h
   have:=C.out;omega
  obtain⟨r,aF⟩:=aF;have bC:=hyd aF;have aH:=hyd s;clear aF J s;go_wp2_with fail
  go_loopw [16,18] (λov x w'=>∃(b d:Nat) (O:List Nat) (oa:Nat) (oc:Nat),b<=256/\i<d/\d<=200/\x=I6 b/\ov=.slice (some (a_ oa 0)) d oc/\Hid (d=O.length)/\Hid (Or A E O i r b)/\BO fb N B0 A (.slice (some (a_ oa 0)) d oc) O P w') (λ_ x _=>256-(intOf x).toNat)
  ·exact⟨0,d,O,oa,oc,by omega,bZ,ah,rfl,rfl,C,bC,aH⟩
  clear aH bC C ah bZ b0;obtain⟨b,d,O,oa,oc,hb,V,ah,rfl,rfl,C,J,s⟩:=hrel;have bX:(i:Int)<d:=by omega
  by_cases T:b<256
  ·have bU:(b:Int)<256:=by omega
   obtain⟨x1,x2,x3,x4,x5⟩:=HX.out;have cF:r<N:=by rw[x4];exact J.out.r
   have co:wr.cell? (a_ oa i)=some (I6 (r:Int)):=by
    obtain⟨ad,cap,e,il⟩:=s.o.il;cases e;obtain⟨g,o,e1,e2⟩:=il i (by rw[Zy,<-C.out];exact V);cases e1;rw[Zn]at e2;rw[e2];simp only[Sv];rw[Zf,J.out.i];rfl
   have aa:=hyd (Ol pb N A.vd nx (reps E 256) r b wr (by omega) (H4.out.2.2.2.below s.b) (by omega) T);have bf:=Or.step x5 J T;rw[<-x4]at bf;obtain⟨to,M⟩:=nam (Ud N nx r b);rw[<-M]at aa bf;have b9:to<=N:=by rw[M,x4];exact(x5.to (by omega) T).1
   have b8:(to:Int)<N+1:=by omega
   obtain⟨cf,_⟩:=s.f to _ (Xk _ (show to<N+1 by omega));obtain⟨B,G⟩:=nam (US A to);rw[<-G]at cf;have al:=hyd s;rcases bf with ⟨s1,s2⟩|⟨m,s1,s2,s3⟩
   ·have ce:B=N:=by rw[G,s1,x4];exact NM A
    have q1:¬(B:Int)<N:=by omega
    have am:=hyd s2;clear s G M s1 s2 x1 x2 x3 x4 x5;go_wp2_with fail;refine aa.out.mono ?_;rintro e w8 ⟨rfl,rfl⟩;go_wp2_with fail;go_roundw
    ·exact⟨b+1,d,O,oa,oc,by omega,V,ah,by go_num,rfl,C,am,al⟩
    simp[intOf];omega
   subst s1;have bn:B=least (alB A) to:=by rw[G];unfold US;rw[g_]
   have ce:B<N:=by rw[G,x4];exact EM (by omega)
   have⟨hxN',hxN2⟩:(B:Int)<N/\(B:Int)<N+1:=by omega
   rw[<-bn]at s3;obtain⟨cn,cN⟩:=s.n B _ (Xk _ (show B<N+1 by omega));obtain⟨cg,bp,bq⟩:=DM O B;rcases s3 with ⟨s4,s5⟩|⟨s4,s5⟩
   ·obtain⟨nv,ac⟩:=nam (RI O B);rw[<-ac]at cn;have cL:0<=nv:=by rw[ac];exact bp s4
    have q1:(nv==-1)=false:=by simp;omega
    have am:=hyd s5;clear s G M s2 s4 s5 bn x1 x2 x3 x4 x5 ac cg bp bq;go_wp2_with fail;refine aa.out.mono ?_;rintro e w8 ⟨rfl,rfl⟩;go_wp2_with fail;go_roundw
    ·exact⟨b+1,d,O,oa,oc,by omega,V,ah,by go_num,rfl,C,am,al⟩
    simp[intOf];omega
   rw[bq s4]at cn;have q1:((-1:Int)==-1)=true:=rfl;have am:=hyd s5;have cx:=hyd s4;have b4:d+1<=200:=by
    have h1:=s5.o;have h2:(O++[B]).length=cnt (alB A) (kn A (r*A.K+cnt E (b+1))):=by rw[h1];rfl
    have h3:=cnt_le (alB A) (kn A (r*A.K+cnt E (b+1)));have h5:r*A.K+cnt E (b+1)<=A.N*A.K:=by
     have h6:=cnt_mono E (show b+1<=256 by omega);have h7:cnt E 256=A.K:=by rw[x5.k];rfl
     have h8:(r+1)*A.K<=A.N*A.K:=ZQ _ (by omega);rw[Nat.succ_mul]at h8;omega
    have h4:=kn_le x5.b h5;rw[Zl,List.length_singleton,<-C.out]at h2;omega
   obtain⟨w9,I⟩:=nam (wr.setCell (a_ (fb+1) B) (I6 (d:Int)));have ay:=hyd I;have z9:w9.heap.size=wr.heap.size:=by rw[I,Zz]
   have bj:=box_bel w9 (.cells #[I6 (B:Int)] 3);have bQ:OwnL B0 (.slice (some (a_ oa 0)) d oc) (O.map λx:Nat=>(x:Int)) (w9.alloc (.cells #[I6 (B:Int)] 3)):=by
    have h1:OwnL B0 (.slice (some (a_ oa 0)) d oc) (O.map λx:Nat=>(x:Int)) w9:=s.o.keep (λk hk=>by
     rw[I];exact Zq wr (a_ (fb+1) B) _ k (λe=>by
      have e':k=fb+1:=e;have:=(s.o.blk k hk).1;have:=s.z;omega))
    exact h1.below bj
   have b3:(w9.alloc (.cells #[I6 (B:Int)] 3)).cell? (a_ wr.heap.size 0)=some (I6 (B:Int)):=by rw[<-z9,Zm];rfl
   have aq:B0<=(w9.alloc (.cells #[I6 (B:Int)] 3)).heap.size:=by have:=bj.size;have:=s.z;omega
   have aJ:Hid ((O.map λx:Nat=>(x:Int)).length=d):=by show _=_;rw[Zy,C.out]
   have Hn:Hid (∀g cap w5,(w9.alloc (.cells #[I6 (B:Int)] 3)).grownBy w5 (Value.slice (some (a_ oa 0)) d oc).ownBlock->OwnL B0 (.slice (some (a_ g 0)) (d+1) cap) ((O.map λx:Nat=>(x:Int))++[(B:Int)]) w5->BO fb N B0 A (.slice (some (a_ g 0)) (d+1) cap) (O++[B]) P w5):=λg cap w5 h1 h2=>by
    rw[ay.out,C.out]at h1;rw[C.out]at h2 ⊢;exact(C.out▸al.out).app cx.out (by omega) h1 h2
   clear s G M s2 s4 s5 bn x1 x2 x3 x4 x5 cg bp bq bj I z9;go_wp2_with fail;refine aa.out.mono ?_;rintro e w8 ⟨rfl,rfl⟩;go_wp2_with (first|(with_reducible show wpList _ _ _ (⟨_,Op.call { callee:=Callee.builtin Builtin.append,args:=_,argTypes:=_ },_,_,_,_⟩::_) _ _;refine X9.out ?_));refine⟨?_⟩;rw[<-ay.out];refine Bm.wpList_append_int (by rfl) _ _ (by rfl) B0 (.slice (some (a_ oa 0)) d oc) _ (by rfl) bQ (by rw[aJ.out];omega) w8.heap.size (B:Int) (by rfl) b3 aq _ rfl ?_;rw[aJ.out];intro g5 aK cK aN U bc _;have cj:=Hn.out g5 aK cK U aN;clear aN U bc bQ b3 aq Hn;go_wp2_with fail;go_roundw
   ·exact⟨b+1,d+1,O++[B],g5,aK,by omega,by omega,b4,by go_num,rfl,by show _=_;rw[Zl,C.out];rfl,am,cj⟩
   simp[intOf];omega
  have⟨cD,hb2⟩:¬(b:Int)<256/\b=256:=by omega
  subst hb2;have cr:Hid ((∃r,Or A E O (i+1) r 0)\/(i+1=O.length/\O=reps (alB A) A.N)):=by
   rcases Or.next HX.out.2.2.2.2 J with ⟨r',_,h2⟩|⟨h1,h2⟩
   ·exact Or.inl ⟨r',h2⟩
   exact Or.inr ⟨h1.symm,h2⟩
  go_wp2_with fail;go_roundw
  ·exact⟨i+1,d,O,oa,oc,by omega,ah,by go_num,rfl,C,cr,s⟩
  simp[intOf];omega
 have cD:¬(i:Int)<d:=by omega
 have hO:O=reps (alB A) A.N:=by
  rcases J with ⟨r,h⟩|⟨_,h⟩
  ·have:=(Zi.1 h.i).1;have:=C.out;omega
  exact h
 have a3:=HX.out.2.2.2.1;have a6:∀x∈O,x<N:=λx hx=>by rw[hO,SY]at hx;rw[a3];exact hx.1
 by_cases bM:96<d
 ·have bN:(96:Int)<d:=by omega
  have T8:TC w.heap.size XL wr:=H4.out.1.block (s.b.block _ (by have:=H4.out.2.2.1;omega));have bu:Bl w wr:=H4.out.2.1.trans (s.b.mono (by have:=H4.out.2.2.1;omega));obtain⟨tz,BX,y,_⟩:=WU (I6 0) (.slice none 0 0) (.slice none 0 0) (.slice none 0 0) T8 bu;obtain⟨WX,H⟩:∃W,W=wr.setCells w.heap.size 0 [I6 0,.slice none 0 0,.slice none 0 0,.slice none 0 0]:=⟨_,rfl⟩;rw[<-H]at BX y;have ao:Hid (WX=wr.setCells w.heap.size 0 [I6 0,.slice none 0 0,.slice none 0 0,.slice none 0 0]):=H;have Q:Hid ((loadVar 25 (a_ w.heap.size 0)).run Tryz.prog WX=.ok (.agg #[I6 0,.slice none 0 0,.slice none 0 0,.slice none 0 0]) WX):=y;have HR:Hid (Qe es n w (.returned (.tuple #[.agg XL.toArray,I6 9])) WX):=⟨BX,Or.inr ⟨l,t,A,nx,O,HX.out.2.1,HX.out.1,HX.out.2.2.1,hO,Or.inl ⟨by rw[<-C.out];exact bM,rfl⟩⟩⟩;clear H y T8 bu BX s hO J a6;go_wp2_with (first|(with_reducible refine gst 25 ?_;refine X9.out ?_));refine⟨?_⟩;refine Za rfl 25 _ _ rfl w.heap.size 0 #[I6 0,.slice none 0 0,.slice none 0 0,.slice none 0 0] rfl rfl tz Yl (by simp[Value.oneCell']) ?_;rw[Zc,<-ao.out];go_wp2_with fail;exact Zr (v:=.tuple #[.agg XL.toArray,I6 9]) (XO Tryz.results10 rfl Q.out rfl) rfl HR.out
 have bN:¬(96:Int)<d:=by omega
 have bd:(Instr.makeSlice 53 (I6 (d:Int)) (I6 (d:Int))).run Tryz.prog wr=.ok (.slice (some (a_ wr.heap.size 0)) d d) (wr.alloc (.cells (Q0 d).toArray 23)):=KT wr d (by omega);have cd:=box_bel wr (.cells (Q0 d).toArray 23);have an:Hid (RT wr (λ_=>0) 0 d (RN A nx O) (wr.alloc (.cells (Q0 d).toArray 23))):=by
  refine⟨?_,λj hj=>by omega,cd,by simp⟩;have:=TC.boxed wr (Q0 d) 23;have e:FS (λ_=>0) 0 d=Q0 d:=by unfold FS Q0;exact ZO (λj _=>by rw[g_])
  rw[e];exact this
 have Z:=hyd s;have aU:=hyd3 hO a6 C.out;obtain⟨D,a8⟩:=nam wr;rw[<-a8]at an Z;have bH:=hyd a8;clear s hO J a6 cd a8;go_wp2_with fail;clear bd;rw[<-bH.out];clear bH
 go_loopw [21] (λx w'=>∃(i:Nat) (xb:Nat->Nat),i<=d/\x=I6 i/\RT D xb i d (RN A nx O) w') (λx _=>d-(intOf x).toNat)
 ·exact⟨0,_,by omega,rfl,an⟩
 clear an;obtain⟨i,xb,hi,rfl,L⟩:=hrel;by_cases V:i<d
 ·have bX:(i:Int)<d:=by omega
  obtain⟨u,bm⟩:=nam wr.heap.size;have bd:(Instr.makeSlice 23 (I6 256) (I6 256)).run Tryz.prog wr=.ok (.slice (some (a_ wr.heap.size 0)) 256 256) (wr.alloc (.cells (XN 256).toArray 3)):=VJ wr 256 (by omega);have aG:=box_bel wr (.cells (XN 256).toArray 3);have cH:=L.z;have c1:=L.c.block (aG.block D.heap.size (by omega));obtain⟨k1,k2⟩:=c1 i _ (Oy xb i V);have c2:=c1.set i (by rw[Pq];exact V) (.slice (some (a_ u 0)) 256 256);rw[D1 xb V u]at c2;have ab:∀q,q≠D.heap.size->((wr.alloc (.cells (XN 256).toArray 3)).setCell (a_ D.heap.size i) (.slice (some (a_ u 0)) 256 256)).heap[q]?=(wr.alloc (.cells (XN 256).toArray 3)).heap[q]?:=λq hq=>Zq _ (a_ D.heap.size i) _ q (λe=>hq e)
  obtain⟨w7,F⟩:=nam ((wr.alloc (.cells (XN 256).toArray 3)).setCell (a_ D.heap.size i) (.slice (some (a_ u 0)) 256 256));have H7:Hid (TC D.heap.size (FS (Yk xb i u) (i+1) d) w7/\TC u (inl (λc=>if c<0 then RN A nx O i c else 0) 256) w7/\(∀j,j<i->TC (xb j) (inl (RN A nx O j) 256) w7/\D.heap.size<xb j/\xb j<u)/\Bl D w7/\u<w7.heap.size/\D.heap.size<u):=by
   rw[<-F]at c2 ab;have z7:w7.heap.size=(wr.alloc (.cells (XN 256).toArray 3)).heap.size:=by rw[F,Zz]
   have z8:(wr.alloc (.cells (XN 256).toArray 3)).heap.size=wr.heap.size+1:=by simp
   refine⟨c2,?_,λj hj=>?_,?_,by omega,by omega⟩
   ·have:=TC.boxed wr (XN 256) 3;rw[<-bm]at this;rw[Yr (g:=λ_=>0) (λc _=>by rw[g_])];exact this.block (ab u (by omega))
   ·obtain⟨r1,r2,r3⟩:=L.r j hj;exact⟨(r1.block (aG.block _ r3)).block (ab _ (by omega)),r2,by omega⟩
   rw[F];exact(L.b.trans (aG.mono (by omega))).setCell (p:=(a_ D.heap.size i)) (Zg _) _
  have aW:=hyd F;have cz:=hyd bm;obtain⟨ax,ar⟩:=nam D.heap.size;have ae:=hyd ar;rw[<-ar]at k1 k2;rw[g_]at k1;clear L c1 c2 ab F bm aG ar cH;rw[<-ae.out];go_wp2_with fail;rw[<-cz.out];clear bd k1 k2;have bL:Hid (w7=(wr.alloc (.cells (XN 256).toArray 3)).setCell (a_ ax i) (.slice (some (a_ u 0)) 256 256)):=by show _=_;rw[ae.out];exact aW.out
  rw[<-bL.out]
  go_loopw [22] (λx w'=>∃b:Nat,b<=256/\x=I6 b/\TC D.heap.size (FS (Yk xb i u) (i+1) d) w'/\TC u (inl (λc=>if c<b then RN A nx O i c else 0) 256) w'/\(∀j,j<i->TC (xb j) (inl (RN A nx O j) 256) w'/\D.heap.size<xb j/\xb j<u)/\Bl D w'/\u<w'.heap.size/\D.heap.size<u) (λx _=>256-(intOf x).toNat)
  ·exact⟨0,by omega,rfl,H7⟩
  clear H7;obtain⟨b,hb,rfl,c1,c2,c3,Y,z1,z2⟩:=hrel;by_cases T:b<256
  ·have bU:(b:Int)<256:=by omega
   have aj:=Z.out.below Y;obtain⟨o1,o2,o3⟩:=aU.out;obtain⟨r,hr⟩:∃r,O[i]?=some r:=⟨_,Zd (by omega)⟩;have be:O.getD i 0=r:=by rw[Zf,hr];rfl
   have cF:=o2 r (List.mem_of_getElem? hr);have co:wr.cell? (a_ oa i)=some (I6 (r:Int)):=by
    obtain⟨ad,cap,e,il⟩:=aj.o.il;cases e;obtain⟨g,o,e1,e2⟩:=il i (by rw[Zy];omega);cases e1;rw[Zn]at e2;rw[e2];simp only[Sv];rw[be]
   obtain⟨ct,_⟩:=c1 i _ (Oy _ _ V);rw[p_,Y0,<-ae.out]at ct;have aa:=hyd (Ol pb N A.vd nx (reps E 256) r b wr.drew (by omega) (H4.out.2.2.2.below aj.b.drew) (by omega) T);obtain⟨to,M⟩:=nam (Ud N nx r b);rw[<-M]at aa;have b9:to<=N:=by rw[M,a3];exact(HX.out.2.2.2.2.to (by omega) T).1
   have b8:(to:Int)<N+1:=by omega
   obtain⟨cf,_⟩:=aj.f to _ (Xk _ (show to<N+1 by omega));obtain⟨B,G⟩:=nam (US A to);rw[<-G]at cf;have ce:B<=N:=by
    rw[G];by_cases e:to=A.N
    ·rw[e,NM];omega
    have:=EM (A:=A) (i:=to) (by omega);omega
   have⟨hxN',hto3⟩:(B:Int)<N+1/\(to:Int)<(A.N:Int)+1:=by omega
   have cM:(B:Int)<(A.N:Int)+1:=by omega
   obtain⟨cn,_⟩:=aj.n B _ (Xk _ (show B<N+1 by omega));obtain⟨nv,ac⟩:=nam (RI O B);rw[<-ac]at cn;have aR:nv=RN A nx O i b:=by unfold RN;rw[ac,G,M,be,a3]
   obtain⟨cT,cU⟩:=c2 b _ (Xk _ T);have Hn:Hid (TC D.heap.size (FS (Yk xb i u) (i+1) d) (wr.setCell (a_ u b) (I6 nv))/\TC u (inl (λc=>if c<b+1 then RN A nx O i c else 0) 256) (wr.setCell (a_ u b) (I6 nv))/\(∀j,j<i->TC (xb j) (inl (RN A nx O j) 256) (wr.setCell (a_ u b) (I6 nv))/\D.heap.size<xb j/\xb j<u)/\Bl D (wr.setCell (a_ u b) (I6 nv))/\u<(wr.setCell (a_ u b) (I6 nv)).heap.size/\D.heap.size<u):=by
    have ab:∀q,q≠u->(wr.setCell (a_ u b) (I6 nv)).heap[q]?=wr.heap[q]?:=λq hq=>Zq wr (a_ u b) _ q (λe=>hq e)
    refine⟨c1.block (ab _ (by omega)),?_,λj hj=>?_,Y.setCell (p:=(a_ u b)) (by show _<=u;omega) _,by rw[Zz];exact z1,z2⟩
    ·have h1:=c2.set b (by rw[XA];exact T) (I6 nv);rw[WJ]at h1;rw[Yr (g:=λc=>if c=b then nv else if c<b then RN A nx O i c else 0) (λc _=>?_)]
     ·exact h1
     by_cases e:c=b
     ·subst e;simp[aR]
     by_cases e2:c<b
     ·simp[e,e2,show c<b+1 by omega]
     simp[e,e2,show ¬c<b+1 by omega]
    obtain⟨r1,r2,r3⟩:=c3 j hj;exact⟨r1.block (ab _ (by omega)),r2,r3⟩
   have cw:Hid ((λw'=>w'.cell? (a_ ax i)=some (.slice (some (a_ u 0)) 256 256)/\w'.cell? (a_ oa i)=some (I6 (r:Int))/\w'.cell? (a_ fb to)=some (I6 (B:Int))/\w'.cell? (a_ (fb+1) B)=some (I6 nv)) (wr.setCell (a_ u b) (I6 nv))):=by
    have q1:oa<D.heap.size:=by
     obtain⟨ad,cap,e,il⟩:=Z.out.o.il;cases e;obtain⟨g,o,e1,e2⟩:=il i (by rw[Zy];omega);cases e1;exact Ze _ _ e2
    have q2:=Z.out.z;have q3:=ae.out;refine⟨?_,?_,?_,?_⟩
    ·rw[World.cell?_setCell_far _ _ _ _ (by show u≠ax;omega)];exact ct
    ·rw[World.cell?_setCell_far _ _ _ _ (by show u≠oa;omega)];exact co
    ·rw[World.cell?_setCell_far _ _ _ _ (by show u≠fb;omega)];exact cf
    rw[World.cell?_setCell_far _ _ _ _ (by show u≠fb+1;omega)];exact cn
   clear c1 c2 c3 Y aj o1 o2 o3 hr be M G ac aR;go_wp2_with fail;have bR:(λw'=>w'.cell? (a_ ax i)=some (.slice (some (a_ u 0)) 256 256)/\w'.cell? (a_ oa i)=some (I6 (r:Int))/\w'.cell? (a_ fb to)=some (I6 (B:Int))/\w'.cell? (a_ (fb+1) B)=some (I6 nv)) wr.drew:=⟨ct,co,cf,cn⟩;refine wp_region_held_drew (S:=λw'=>w'.cell? (a_ ax i)=some (.slice (some (a_ u 0)) 256 256)/\w'.cell? (a_ oa i)=some (I6 (r:Int))/\w'.cell? (a_ fb to)=some (I6 (B:Int))/\w'.cell? (a_ (fb+1) B)=some (I6 nv)) (by kernel_rfl) bR (λhHeld=>?_);refine tQ 0 ?_
   refine tQ 1 ?_
   refine tQ 2 ?_
   refine tQ 3 ?_
   refine tQ 4 ?_
   refine tQ 5 ?_
   refine tQ 6 ?_
   refine tQ 7 ?_
   refine tQ 8 ?_
   refine tQ 9 ?_
   refine tQ 10 ?_
   refine tQ 11 ?_
   refine tQ 12 ?_
   refine wpAnyH_ready (rs:=[13]) (by kernel_rfl) (by simp) ?_;refine AllReadyH.cons (o:=?oQ13) ?hiQ13 (λK hK=>?_) AllReadyH.nil
   case hiQ13=>simp only[gel];rfl
   go_simp;refine Calls.mono aa ?_;rintro e w8 ⟨rfl,rfl⟩;go_wp2_with fail;refine hK.out _ _ bR (λhHeld=>?_);clear hK K
   (try simp only[psm])
   refine tQ 14 ?_
   refine tQ 15 ?_
   refine tQ 16 ?_
   refine tQ 17 ?_
   refine tQ 18 ?_
   refine wpAnyH_ready (rs:=[19]) (by kernel_rfl) (by simp) ?_;refine AllReadyH.cons (o:=?oQ19) ?hiQ19 (λK hK=>?_) AllReadyH.nil
   case hiQ19=>simp only[gel];rfl
   go_simp;refine hK.out _ _ cw (λhHeld=>?_);clear hK K
   (try simp only[psm])
   refine wpAnyH_done (by kernel_rfl) ?_ _;go_wp2_with fail
   (try simp only[Act.put])
   go_roundw
   ·exact⟨b+1,by omega,by go_num,Hn.out.1,Hn.out.2.1,Hn.out.2.2.1,Hn.out.2.2.2.1.drew,Hn.out.2.2.2.2.1,Hn.out.2.2.2.2.2⟩
   simp[intOf];omega
  have⟨hge3,hb2⟩:¬(b:Int)<256/\b=256:=by omega
  subst hb2;have bF:Hid (RT D (Yk xb i u) (i+1) d (RN A nx O) wr):=by
   refine⟨c1,λj hj=>?_,Y,by omega⟩;by_cases e:j=i
   ·subst e;rw[Y0];refine⟨?_,z2,z1⟩;rw[Yr (g:=λc=>if c<256 then RN A nx O j c else 0) (λc hc=>by rw[if_pos hc])];exact c2
   rw[Y5 _ _ e];obtain⟨r1,r2,r3⟩:=c3 j (by omega);exact⟨r1,r2,by omega⟩
  clear c1 c2 c3 Y;go_wp2_with fail;go_roundw
  ·exact⟨i+1,_,by omega,by go_num,bF⟩
  simp[intOf];omega
 have⟨hge2,hio⟩:¬(i:Int)<d/\i=d:=by omega
 rw[hio]at L hge2 ⊢;clear hio;obtain⟨o1,o2,o3⟩:=aU.out;have cG:=H4.out.2.2.1;have ch:=Z.out.b.size;have ak:=Z.out.b.trans (L.b.mono ch);have P5:=H4.out.2.2.2.below ak;have I5:IL (some (a_ oa 0)) (λi=>((O.getD i 0:Nat):Int)) O.length wr:=by
  obtain⟨ad,cap,e,il⟩:=(Z.out.below L.b).o.il;cases e;rw[Zy]at il;intro i hi;obtain⟨g,o,e1,e2⟩:=il i hi;exact⟨g,o,e1,by rw[e2];simp only[Sv]⟩
 have R5:Cv (some (a_ D.heap.size 0)) O.length (RN A nx O) wr:=by rw[<-o3];exact L.rwb
 have cm:Hid (Cp 31 #[.pointer (some (a_ pb 0)),I6 n,.slice (some (a_ oa 0)) d oc,.slice (some (a_ D.heap.size 0)) d d] wr (Cc n O (RN A nx O) A.vd wr)):=by
  have:=cq.out wr pb A.vd nx (reps E 256) N (some (a_ oa 0)) oc O (some (a_ D.heap.size 0)) d (RN A nx O) P5 I5 R5 (by omega) (by omega) o2;rw[<-o3]at this;exact this
 have T5:TC w.heap.size XL wr:=H4.out.1.block (ak.block _ (by omega));have ai:Bl w wr:=H4.out.2.1.trans (ak.mono (by omega));have aV:Hid (TC w.heap.size XL wr/\Bl w wr/\w.heap.size<wr.heap.size):=⟨T5,ai,by have:=ak.size;omega⟩;clear L cG ch ak P5 I5 R5 T5 ai o1 o2 o3;go_wp2_with fail
 with_reducible refine cm.out.mono ?_
 rintro e w9 ⟨B9,MI⟩;have cA:=MI;obtain⟨ca,cc,la,lc,na,nc,rfl,_⟩:=cA;obtain⟨T5,ai,z5⟩:=aV.out;obtain⟨o1,o2,o3⟩:=aU.out;have T9:TC w.heap.size XL w9:=T5.block (B9.block _ z5);have bv:Bl w w9:=ai.trans (B9.mono (by omega));obtain⟨tz,BX,y,hG⟩:=WU (I6 n) (.slice ca 256 cc) (.slice la O.length lc) (.slice na (O.length*cnt (Cl (RN A nx O) O.length) 256) nc) T9 bv;have HR:Hid (Qe es n w (.returned (.tuple #[.agg #[I6 n,.slice ca 256 cc,.slice la O.length lc,.slice na (O.length*cnt (Cl (RN A nx O) O.length) 256) nc],I6 0])) (w9.setCells w.heap.size 0 [I6 n,.slice ca 256 cc,.slice la O.length lc,.slice na (O.length*cnt (Cl (RN A nx O) O.length) 256) nc])):=by
  refine⟨BX,Or.inr ⟨l,t,A,nx,O,HX.out.2.1,HX.out.1,HX.out.2.2.1,o1,Or.inr ⟨by rw[<-o3];exact bM,_,wr.heap.size,rfl,MI.heap (λk hk hl=>?_)⟩⟩⟩;exact hG.block k hl (λe=>by have:=Zh e;omega)
 obtain⟨vn,bi⟩:=nam (O.length*cnt (Cl (RN A nx O) O.length) 256);rw[<-bi]at y HR;rw[<-bi];obtain⟨WX,H⟩:=nam (w9.setCells w.heap.size 0 [I6 n,.slice ca 256 cc,.slice la O.length lc,.slice na vn nc]);rw[<-H]at y HR;have ao:=hyd H;have Q:=hyd y;clear H y hG BX MI T5 ai T9 bv B9 o1 o2 o3 bi;go_wp2_with (first|(with_reducible refine gst 25 ?_;refine X9.out ?_));refine⟨?_⟩;refine Za rfl 25 _ _ rfl w.heap.size 0 #[I6 n,.slice ca 256 cc,.slice la O.length lc,.slice na vn nc] rfl rfl tz Yl (by simp[Value.oneCell']) ?_;rw[Zc,<-ao.out];go_wp2_with fail;exact Zr (v:=.tuple #[.agg #[I6 n,.slice ca 256 cc,.slice la O.length lc,.slice na vn nc],I6 0]) (XO Tryz.results10 rfl Q.out rfl) rfl HR.out
end Go.Proofs.YtoaaklhpmhjhkaaGreat
