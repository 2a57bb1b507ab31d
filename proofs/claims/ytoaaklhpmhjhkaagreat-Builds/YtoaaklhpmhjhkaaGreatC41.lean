import Derived.Test.YtoaaklhpmhjhkaaGreatC40
set_option maxRecDepth 100000
set_option maxHeartbeats 4000000
set_option linter.all false
namespace Go.Proofs.YtoaaklhpmhjhkaaGreat
open Go.RowKit
open Bm
theorem y0a (w:World):(Instr.build 77 #[]).run Tryz.prog w=.ok (.agg #[.slice none 0 0,.slice none 0 0,.slice none 0 0]) w:=by kernel_rfl
structure P1 (pb:Nat) (E:Nat->Nat->Bool) (b:Nat) (vs:Nat->Value) (ls:Nat->List Value) (w0 w:World):Prop where
 q:L6 pb (pb+1) 3 6 pTy vs ls (fun _=>False) w
 l0:ls 0=[]
 l1:ls 1=[]
 l2:ls 2=(reps E b).map intN
 l3:ls 3=(List.range b).map fun a=>intN (least E a)
 l4:ls 4=[]
 l5:ls 5=[]
 v4:vs 4=.slice none 0 0
 v5:vs 5=.slice none 0 0
 b:Below w0.heap.size w0 w
 s:w0.heap.size=pb
theorem P1.first (w:World) (E:Nat->Nat->Bool) (ty:TypeId):P1 w.heap.size E 0 (λ_=>.slice none 0 0) (λ_=>[]) w (w.alloc (.cells #[.slice none 0 0,.slice none 0 0,.slice none 0 0] ty)):=
 ⟨⟨TC.boxed w [.slice none 0 0,.slice none 0 0,.slice none 0 0] ty,λi _=>OwnV.nil _ _ _,λi j k _ _ _ h=>(by cases h),λk h=>h.elim,by omega,by omega⟩,rfl,rfl,rfl,rfl,rfl,rfl,rfl,rfl,box_bel _ _,rfl⟩
variable {l : List (Nat → Bool)}{P R b base i n nr nv pb : Nat}{vd : Nat → Int}{ls : Nat → List Value}{sk tk : Nat → Nat}{E : Nat → Nat → Bool}{rw_ : Nat → Nat → Int}{X : Nat → Prop}{vs : Nat → Value}{w w' w0 : World}
theorem P1.below (h:P1 pb E b vs ls w0 w) (hW:Below w.heap.size w w'):P1 pb E b vs ls w0 w':=
 ⟨h.q.below (by omega) hW,h.l0,h.l1,h.l2,h.l3,h.l4,h.l5,h.v4,h.v5,h.b.trans (hW.mono h.b.size),h.s⟩
theorem P1.pm (h:P1 pb E 256 vs ls w0 w) (P R:Nat) (vd:Nat->Int) (rw_:Nat->Nat->Int) (sk tk:Nat->Nat):PM pb (pb+1) P R E [] 0 0 vd rw_ sk tk vs ls (λ_=>False) w0 w:=
 ⟨h.q,h.l0,h.l1,h.l2,h.l3,h.l4,h.l5,λi a=>by simp at a,λi a=>by omega,h.b,Nat.le_of_eq h.s⟩
theorem PM.congr {vd':Nat->Int}{rw':Nat->Nat->Int} (h:PM pb base P R E l nv nr vd rw_ sk tk vs ls X w0 w) (hv:∀i,i<nv->vd i=vd' i) (hr:∀i b,i<nr->b<256->rw_ i b=rw' i b):PM pb base P R E l nv nr vd' rw' sk tk vs ls X w0 w:=
 ⟨h.q,by rw[h.l0];exact List.map_congr_left (λi a=>by rw[hv i (List.mem_range.1 a)]),h.l1,h.l2,h.l3,h.l4,h.l5,h.st,λi a w' e f b c=>by
  obtain⟨x,y,d,e2⟩:=h.rs i a w' e f b c;exact⟨x,y,d,by rw[e2,hr i b a c]⟩,h.b,h.s⟩
def vdS (l:List (Nat->Bool)) (i:Nat):Int:=vdF (λr=>(l.getD i noB) (96+r)) 8 0
def rwE (E:Nat->Nat->Bool) (t:List Int) (i b:Nat):Int:=t.getD (i*(reps E 256).length+idx E b) (-1)
theorem y2s (h:i<l.length) (g:Nat->Bool):vdS (l++[g]) i=vdS l i:=by unfold vdS;rw[q6w h]
theorem PM.allAt (h:PM pb base P R E l nv nr vd rw_ sk tk vs ls X w0 w) {a4 n c4:Nat} (hv:vs 4=.slice (some ⟨a4,0,none⟩) n c4) {i:Nat} (hi:i<l.length):w.cell? ⟨a4,i,none⟩=some (.slice (some ⟨sk i,0,none⟩) (P+R) (P+R)):=by
 obtain⟨ad,cap,e,a⟩:=(h.q.o 4 (by omega)).form;rw[hv]at e;rw[h.l4]at a;obtain⟨g,b,e2⟩:=a i (.slice (some ⟨sk i,0,none⟩) (P+R) (P+R)) (by simp[hi]);cases e;cases b;exact e2
theorem PM.keysAt (h:PM pb base P R E l nv nr vd rw_ sk tk vs ls X w0 w) {k5 n c5:Nat} (hv:vs 5=.slice (some ⟨k5,0,none⟩) n c5):SRow k5 0 (λi=>keyS (em P (l.getD i noB)) (P+R)) l.length w:=λi c=>by
 obtain⟨ad,cap,e,a⟩:=(h.q.o 5 (by omega)).form;rw[hv]at e;rw[h.l5]at a;obtain⟨g,b,e2⟩:=a i (.string (keyS (em P (l.getD i noB)) (P+R))) (by simp[c]);cases e;cases b;rw[Nat.zero_add];exact e2
theorem PM.twinAt (h:PM pb base P R E l nv nr vd rw_ sk tk vs ls X w0 w) {ta:Option Addr}{n c3:Nat} (hv:vs 3=.slice ta n c3) {i:Nat} (hi:i<256):∃a3,ta=some ⟨a3,0,none⟩/\w.cell? ⟨a3,i,none⟩=some (.int .i64 (least E i:Nat)):=by
 obtain⟨ad,cap,e,a⟩:=(h.q.o 3 (by omega)).form;rw[hv]at e;rw[h.l3]at a;obtain⟨g,b,e2⟩:=a i (intN (least E i)) (by simp[hi]);cases e;exact⟨g,b,e2⟩
structure Ob (es:Nat->Rx) (R P:Nat) (E:Nat->Nat->Bool) (s n:Nat) (l:List (Nat->Bool)) (t:List Int):Prop where
 ln:n=l.length
 su:∀g∈l,Sup P R g
 ex:Exp (aftN es R) (netF es R) (reps E 256) s 0 l t
structure Ib (es:Nat->Rx) (R P:Nat) (E:Nat->Nat->Bool) (s:Nat) (t0:List Int) (b n:Nat) (l:List (Nat->Bool)) (g:Nat->Bool) (to:Nat->Int):Prop where
 ln:n=l.length
 mx:n<=201+b
 su:∀g∈l,Sup P R g
 lt:s<n
 at_:l[s]?=some g
 gh:Gh (aftN es R) (netF es R) E s t0 b l to
def PlPost (es:Nat->Rx) (R:Nat) (w:World) (e:Ending) (w':World):Prop:=
 Below w.heap.size w w' /\
 ((e=.returned (.tuple #[.pointer none,.bool false])/\∃s k l t f b,Exp (aftN es R) (netF es R) (kdN es R) s k l t/\l[s]?=some f/\(kdN es R)[k]?=some b/\200<=numR l (aftN es R f b)) \/
  ∃l t pb,e=.returned (.tuple #[.pointer (some ⟨pb,0,none⟩),.bool true])/\Exp (aftN es R) (netF es R) (kdN es R) l.length 0 l t/\PLN pb l.length (autOf l t (kdN es R).length).vd (λi b=>t.getD (i*(kdN es R).length+idx (Kq (netH es R) (netN es R)) b) (-1)) (kdN es R) w')
theorem y3a {f:Nat->Bool} (h:TC b (bl f n) w):BR (some ⟨b,0,none⟩) f n w:=λi a=>⟨b,0,rfl,by rw[Nat.zero_add];exact(h i _ (q0x f a)).1⟩
theorem y1r (X0:Nat->Prop) (gb R:Nat) (tr ad cp:Nat->Nat) (ms:Nat->Lie) (Ts:Nat->Nat->Nd) (Ns:Nat->Nat) (es:Nat->Rx) (ti nd:Nat->Nat) (hGm:Gm R Ts Ns es ti nd) (h8:R<=8) (hP96:netN es R<=96) (hNs:∀r,r<R->Ns r<=20000) (w:World) (hG:GX X0 gb (netN es R) R tr ad cp ms Ts Ns es w) (hGR:GR gb (netN es R) R tr Ts Ns ti nd w) (hNX:NX gb (netN es R) R (nxR es Ts Ns ti nd (netN es R)) w):
  Calls Tryz.prog 28 #[.pointer (some ⟨gb,0,none⟩)] w (PlPost es R w):=by
 have hz:=y0a;obtain⟨P,hPe⟩:∃P,P=netN es R:=⟨_,rfl⟩;obtain⟨E,hEe⟩:∃E,E=Kq (netH es R) (netN es R):=⟨_,rfl⟩;have HTw:Hid (∀(b:Nat) (w':World),b<256->Below w.heap.size w w'->Calls Tryz.prog 54 #[.pointer (some ⟨gb,0,none⟩),.int .i64 b] w' λe w''=>e=.returned (.int .i64 (least E b))/\Below w'.heap.size w' w''):=λb w' hb hW=>by
  rw[hEe,<-q9P hGm hb];exact y1f gb _ R tr Ts Ns ti nd b w' (by omega) (by omega) (λr hr=>by have:=hNs r hr;omega) (hGR.below hW) hb
 have HAt:Hid (∀w',Below w.heap.size w w'->Calls Tryz.prog 55 #[.pointer (some ⟨gb,0,none⟩)] w' λe w''=>e=.returned (.slice (some ⟨w'.heap.size,0,none⟩) (P+R) (P+R))/\TC w'.heap.size (bl (em P (netF es R)) (P+R)) w''/\Below w'.heap.size w' w''/\w'.heap.size+1<=w''.heap.size):=λw' hW=>by
  rw[hPe];refine(y2R X0 gb R tr ad cp ms Ts Ns es ti nd hGm (by omega) (by omega) hNs w' (hG.below hW)).mono ?_;rintro e w'' ⟨h1,h2,h3⟩;refine⟨h1,?_,h3⟩;rw[q0o (g:=em (netN es R) (netF es R)) (λq hq=>y3L hGm hq hP96)]at h2;exact h2
 have HNo:Hid (∀w',Below w.heap.size w w'->Calls Tryz.prog 52 #[.pointer (some ⟨gb,0,none⟩)] w' λe w''=>e=.returned (.slice (some ⟨w'.heap.size,0,none⟩) (P+R) (P+R))/\TC w'.heap.size (bl (em P noB) (P+R)) w''/\Below w'.heap.size w' w''/\w'.heap.size+1<=w''.heap.size):=λw' hW=>by
  rw[hPe];exact q3s gb _ R w' (by omega) (by omega) (hGR.below hW).gl
 have HMv:Hid (∀(w':World) (sa:Option Addr) (sc:Nat) (g:Nat->Bool) (b:Nat),Below w.heap.size w w'->b<256->BR sa (em P g) (P+R) w'->Calls Tryz.prog 58 #[.pointer (some ⟨gb,0,none⟩),.slice sa (P+R) sc,.int .i64 b] w' λe w''=>e=.returned (.slice (some ⟨w'.heap.size,0,none⟩) (P+R) (P+R))/\TC w'.heap.size (bl (em P (aftN es R g b)) (P+R)) w''/\Below w'.heap.size w' w''/\w'.heap.size+1<=w''.heap.size):=λw' sa sc g b hW hb hS=>by
  rw[hPe]at hS ⊢;refine(y0I gb _ R tr Ts Ns ti nd _ sa sc _ b w' (by omega) (by omega) (λr hr=>by have:=hNs r hr;omega) (hGR.below hW) (hNX.below hW) hS hb).mono ?_;rintro e w'' ⟨h1,h2,h3⟩;refine⟨h1,?_,h3⟩;rw[q0o (λq hq=>y2V hGm hP96 g hb hq)]at h2;exact h2
 have HVd:Hid (∀(w':World) (sa:Option Addr) (sc:Nat) (g:Nat->Bool),Below w.heap.size w w'->Sup P R g->BR sa (em P g) (P+R) w'->Calls Tryz.prog 57 #[.pointer (some ⟨gb,0,none⟩),.slice sa (P+R) sc] w' λe w''=>e=.returned (.int .i64 (vdF (λr=>g (96+r)) 8 0))/\w''=w'):=λw' sa sc g hW hg hS=>by
  rw[hPe]at hS hg ⊢;rw[<-y2r hP96 h8 hg];exact q7q gb _ R sa sc _ w' (by omega) (by omega) (hGR.below hW).gl hS
 have HSn:Hid (∀g b,Sup P R (aftN es R g b)):=λg b=>by rw[hPe];exact y1h es R hP96 g b
 have HS0:Hid (Sup P R (netF es R)):=by rw[hPe];exact q9S es R hP96
 have HEv:Hid (Eqv E 256/\kdN es R=reps E 256):=⟨by rw[hEe];exact q3D _ _ _,by rw[hEe];rfl⟩;have hP':(P:Int)<=96:=by omega
 have hR':(R:Int)<=8:=by omega
 have HPl:Hid (PlPost es R w=PlPost es R w):=rfl;have Hee:Hid (E=Kq (netH es R) (netN es R)/\P<=96):=⟨hEe,by omega⟩;obtain⟨pb,hpb⟩:∃pb,pb=w.heap.size:=⟨_,rfl⟩;have HP0:Hid (P1 pb E 0 (λ_=>.slice none 0 0) (λ_=>[]) w (w.alloc (.cells #[.slice none 0 0,.slice none 0 0,.slice none 0 0] 77))):=by rw[hpb];exact P1.first w E _
 have Hpb:Hid (pb=w.heap.size):=hpb;clear hG hGR hNX hGm hNs hPe hEe hpb;go_enter Tryz.func28,Tryz.ntmps28;go_wp2_with fail;rw[<-Hpb.out];clear hz
 go_loopw [5,6] (λtv x w'=>∃(b:Nat) (ta:Option Addr) (tc:Nat) (vs:Nat->Value) (ls:Nat->List Value),b<=256/\x=.int .i64 b/\tv=.slice ta b tc/\Hid (vs 3=.slice ta b tc)/\P1 pb E b vs ls w w') (λ_ x _=>256-(intOf x).toNat)
 case atStart=>exact⟨0,none,0,(λ_=>.slice none 0 0),(λ_=>[]),by omega,rfl,rfl,(show _=_ from rfl),HP0.out⟩
 case round=>
  clear HP0;obtain⟨b,ta,tc,vs,ls,hb,rfl,rfl,H3,P1b⟩:=hrel;by_cases hlt:b<256
  ·have hlt':(b:Int)<256:=by omega
   have HC:Hid (Calls Tryz.prog 54 #[.pointer (some ⟨gb,0,none⟩),.int .i64 b] wr λe w''=>e=.returned (.int .i64 (least E b))/\Below wr.heap.size wr w''):=HTw.out b wr hlt P1b.b;have HP1:Hid (P1 pb E b vs ls w wr):=P1b;obtain⟨tw,htw⟩:∃tw,tw=least E b:=⟨_,rfl⟩;have Htw:Hid (tw=least E b):=htw;rw[<-htw]at HC;clear P1b htw;go_wp2_with fail;refine HC.out.mono ?_;rintro e w1 ⟨rfl,B1⟩;have P2:=HP1.out.below B1;have hx1:=box_bel w1 (.cells #[.int .i64 (tw:Int)] 3);have Q2:=P2.q.below (by omega) hx1;have hO3:=Q2.o 3 (by omega);rw[H3.out,P2.l3]at hO3;have hnw:(w1.alloc (.cells #[.int .i64 (tw:Int)] 3)).cell? ⟨w1.heap.size,0,none⟩=some (.int .i64 (tw:Int)):=by rw[World.cell?_alloc_new];rfl
   have hbs:pb+1<=(w1.alloc (.cells #[.int .i64 (tw:Int)] 3)).heap.size:=by have:=hx1.size;have:=P2.q.lt (by omega);omega
   have Hl3:Hid (((List.range b).map λa=>intN (least E a)).length=b):=by show _=_;simp
   have HQ2:Hid (L6 pb (pb+1) 3 6 pTy vs ls (λ_=>False) (w1.alloc (.cells #[.int .i64 (tw:Int)] 3))/\P1 pb E b vs ls w w1):=⟨Q2,P2⟩;clear P2 Q2 hx1 B1 HC;go_wp2_with (first|(with_reducible show wpList _ _ _ (⟨_,Op.call { callee:=Callee.builtin Builtin.append,args:=_,argTypes:=_ },_,_,_,_⟩::_) _ _;refine Stop.out ?_));refine⟨?_⟩;refine q0t 23 3 Tryz.underlying23 eInfoInt rfl (by omega) (by rfl) _ _ (by rfl) (pb+1) (.slice ta b tc) _ (by rfl) hO3 (by rw[Hl3.out];omega) w1.heap.size (.int .i64 (tw:Int)) rfl (by rfl) hnw hbs _ rfl ?_;rw[Hl3.out];intro g3 cap3 w5 hO5 hgrow hgb5 _;obtain⟨Q6,A6,s6,k6⟩:=HQ2.out.1.appN (i:=3) (by omega) (by omega) (by omega) (t:=.int .i64 (tw:Int)) (g:=g3) (len:=b+1) (cap:=cap3) (by rw[H3.out];exact hgrow) (by rw[HQ2.out.2.l3];exact hO5) (by rw[H3.out];exact hgb5);have B5:Below w.heap.size w w5:=by
    have x1:=HQ2.out.2.b;have x2:=x1.trans ((box_bel w1 (.cells #[.int .i64 (tw:Int)] 3)).mono x1.size);exact x2.grown hgrow x2.size (λq hq=>by have:=((HQ2.out.1.o 3 (by omega)).lt q (by rw[H3.out];exact hq)).1;have:=Hpb.out;omega)
   have Hl3n:Hid ((List.range b).map (λa=>intN (least E a))++[.int .i64 (tw:Int)]=(List.range (b+1)).map λa=>intN (least E a)):=by
    show _=_;rw[List.range_succ,List.map_append,Htw.out];rfl
   by_cases hq:tw=b
   ·have q1:((tw:Int)==(b:Int))=true:=by simp[hq]
    have hl2:upV ls 3 (ls 3++[Value.int .i64 (tw:Int)]) 2=(reps E b).map intN:=by rw[q0f _ _ (by omega)];exact HQ2.out.2.l2
    obtain⟨a2,c2,e2,_⟩:=(Q6.o 2 (by omega)).form;rw[hl2,List.length_map]at e2;have hc2:=(Q6.cell (i:=2) (by omega)).1;rw[e2]at hc2;obtain⟨n2,hn2⟩:∃n2,n2=(reps E b).length:=⟨_,rfl⟩;have hn2b:n2<=256:=by rw[hn2];have:=cnt_le E b;unfold cnt at this;omega
    rw[<-hn2]at e2 hc2;have hx5:=box_bel w5 (.cells #[.int .i64 (b:Int)] 3);have Q7:=Q6.below (by omega) hx5;have hO2:=Q7.o 2 (by omega);rw[e2,hl2]at hO2;have hnw5:(w5.alloc (.cells #[.int .i64 (b:Int)] 3)).cell? ⟨w5.heap.size,0,none⟩=some (.int .i64 (b:Int)):=by rw[World.cell?_alloc_new];rfl
    have hbs5:pb+1<=(w5.alloc (.cells #[.int .i64 (b:Int)] 3)).heap.size:=by have:=hx5.size;have:=Q6.lt (by omega);omega
    have He2:Hid (upV vs 3 (.slice (some ⟨g3,0,none⟩) (b+1) cap3) 2=.slice a2 n2 c2):=e2;have Hn2:Hid (((reps E b).map intN).length=n2):=by show _=_;rw[List.length_map,hn2]
    have HQ7:Hid (L6 pb (pb+1) 3 6 pTy (upV vs 3 (.slice (some ⟨g3,0,none⟩) (b+1) cap3)) (upV ls 3 (ls 3++[.int .i64 (tw:Int)])) (λ_=>False) (w5.alloc (.cells #[.int .i64 (b:Int)] 3))/\Below w.heap.size w w5):=⟨Q7,B5⟩;have Hq:Hid (tw=b/\tw=least E b):=⟨hq,Htw.out⟩;clear Q6 Q7 A6 s6 k6 B5 hx5 e2 hn2 hO3 hnw hbs hO5 hgrow hgb5 hl2 hq;go_wp2_with (first|(with_reducible show wpList _ _ _ (⟨_,Op.call { callee:=Callee.builtin Builtin.append,args:=_,argTypes:=_ },_,_,_,_⟩::_) _ _;refine Stop.out ?_));refine⟨?_⟩;refine q0t 23 3 Tryz.underlying23 eInfoInt rfl (by omega) (by rfl) _ _ (by rfl) (pb+1) (.slice a2 n2 c2) _ (by rfl) hO2 (by rw[Hn2.out];omega) w5.heap.size (.int .i64 (b:Int)) rfl (by rfl) hnw5 hbs5 _ rfl ?_;rw[Hn2.out];intro g2 cap2 w8 hO8 hgrow8 hgb8 _;have hc8:w8.cell? ⟨pb,2,none⟩=some (.slice a2 n2 c2)/\w8.frozen? ⟨pb,2,none⟩=false:=by
     have:=(HQ7.out.1.c.block (hgrow8.block pb (HQ7.out.1.lt (by omega)) (λe=>by have:=((HQ7.out.1.o 2 (by omega)).lt pb (by rw[He2.out];exact e.symm)).1;omega))) 2 _ rfl;rw[He2.out]at this;exact this
    obtain⟨hc8a,hc8b⟩:=hc8;have hl2:upV ls 3 (ls 3++[Value.int .i64 (tw:Int)]) 2=(reps E b).map intN:=by rw[q0f _ _ (by omega)];exact HQ2.out.2.l2
    obtain⟨Q9,_,_,_⟩:=HQ7.out.1.app (i:=2) (by omega) (t:=.int .i64 (b:Int)) (g:=g2) (len:=n2+1) (cap:=cap2) (by rw[He2.out];exact hgrow8) (by rw[hl2];exact hO8) (by rw[He2.out];exact hgb8);have HPn:Hid (P1 pb E (b+1) (upV (upV vs 3 (.slice (some ⟨g3,0,none⟩) (b+1) cap3)) 2 (.slice (some ⟨g2,0,none⟩) (n2+1) cap2)) (upV (upV ls 3 (ls 3++[.int .i64 (tw:Int)])) 2 (upV ls 3 (ls 3++[.int .i64 (tw:Int)]) 2++[.int .i64 (b:Int)])) w (w8.setCell ⟨pb,2,none⟩ (.slice (some ⟨g2,0,none⟩) (n2+1) cap2))):=by
     obtain⟨P1w⟩:Nonempty (P1 pb E b vs ls w w1):=⟨HQ2.out.2⟩;have x5:=HQ7.out.2;have x6:=x5.trans ((box_bel w5 (.cells #[.int .i64 (b:Int)] 3)).mono x5.size);have x8:Below w.heap.size w w8:=x6.grown hgrow8 x6.size (λq hq=>by have:=((HQ7.out.1.o 2 (by omega)).lt q (by rw[He2.out];exact hq)).1;have:=Hpb.out;omega);refine⟨Q9,?_,?_,?_,?_,?_,?_,?_,?_,x8.setCell (p:=⟨pb,2,none⟩) (by have:=Hpb.out;show _<=pb;omega) _,P1w.s⟩
     ·rw[q0f _ _ (by omega),q0f _ _ (by omega)];exact P1w.l0
     ·rw[q0f _ _ (by omega),q0f _ _ (by omega)];exact P1w.l1
     ·rw[q0i,hl2,reps_succ,if_pos (by rw[<-Hq.out.2];exact Hq.out.1),List.map_append];rfl
     ·rw[q0f _ _ (by omega),q0i,P1w.l3];exact Hl3n.out
     ·rw[q0f _ _ (by omega),q0f _ _ (by omega)];exact P1w.l4
     ·rw[q0f _ _ (by omega),q0f _ _ (by omega)];exact P1w.l5
     ·rw[q0f _ _ (by omega),q0f _ _ (by omega)];exact P1w.v4
     ·rw[q0f _ _ (by omega),q0f _ _ (by omega)];exact P1w.v5
    clear Q9 hO8 hgrow8 hgb8 hO2 hnw5 hbs5 HQ7 hc2;go_wp2_with fail;go_roundw
    case rel=>exact⟨b+1,some ⟨g3,0,none⟩,cap3,_,_,by omega,by go_num,rfl,by show upV _ _ _ 3=_;rw[q0f _ _ (by omega),q0i],HPn.out⟩
    case measure=>simp[intOf];omega
   ·have q1:((tw:Int)==(b:Int))=false:=by simp;omega
    have HPn:Hid (P1 pb E (b+1) (upV vs 3 (.slice (some ⟨g3,0,none⟩) (b+1) cap3)) (upV ls 3 (ls 3++[.int .i64 (tw:Int)])) w w5):=by
     obtain⟨P1w⟩:Nonempty (P1 pb E b vs ls w w1):=⟨HQ2.out.2⟩;refine⟨Q6,?_,?_,?_,?_,?_,?_,?_,?_,B5,P1w.s⟩
     ·rw[q0f _ _ (by omega)];exact P1w.l0
     ·rw[q0f _ _ (by omega)];exact P1w.l1
     ·rw[q0f _ _ (by omega),P1w.l2,reps_succ,if_neg (by rw[<-Htw.out];exact hq),List.append_nil]
     ·rw[q0i,P1w.l3];exact Hl3n.out
     ·rw[q0f _ _ (by omega)];exact P1w.l4
     ·rw[q0f _ _ (by omega)];exact P1w.l5
     ·rw[q0f _ _ (by omega)];exact P1w.v4
     ·rw[q0f _ _ (by omega)];exact P1w.v5
    clear Q6 A6 s6 k6 B5 hO3 hnw hbs hO5 hgrow hgb5;go_wp2_with fail;go_roundw
    case rel=>exact⟨b+1,some ⟨g3,0,none⟩,cap3,_,_,by omega,by go_num,rfl,by show upV _ _ _ 3=_;rw[q0i],HPn.out⟩
    case measure=>simp[intOf];omega
  ·have hge:¬(b:Int)<256:=by omega
   have hb256:b=256:=by omega
   subst hb256;have HP:Hid (P1 pb E 256 vs ls w wr):=P1b;have HC:Hid (Calls Tryz.prog 55 #[.pointer (some ⟨gb,0,none⟩)] wr λe w''=>e=.returned (.slice (some ⟨wr.heap.size,0,none⟩) (P+R) (P+R))/\TC wr.heap.size (bl (em P (netF es R)) (P+R)) w''/\Below wr.heap.size wr w''/\wr.heap.size+1<=w''.heap.size):=HAt.out wr P1b.b;clear P1b HTw HAt;go_wp2_with fail;refine HC.out.mono ?_;rintro e w1 ⟨rfl,T1,B1,s1⟩;have P2:=HP.out.below B1;obtain⟨sb,hsb⟩:∃sb,sb=wr.heap.size:=⟨_,rfl⟩;rw[<-hsb]at T1 s1 ⊢;have hbx:=box_bel w1 (.cells #[.slice (some ⟨sb,0,none⟩) (P+R) (P+R)] 78);obtain⟨w2,hw2⟩:∃w2,w2=w1.alloc (.cells #[.slice (some ⟨sb,0,none⟩) (P+R) (P+R)] 78):=⟨_,rfl⟩;have Hw2:Hid (w2=w1.alloc (.cells #[.slice (some ⟨sb,0,none⟩) (P+R) (P+R)] 78)):=hw2;rw[<-hw2]at hbx;have T2:=T1.block (hbx.block sb (by omega));have HK:Hid (Calls Tryz.prog 56 #[.slice (some ⟨sb,0,none⟩) (P+R) (P+R)] w2 λe w'=>e=.returned (.string (keyS (em P (netF es R)) (P+R)))/\Below w2.heap.size w2 w'):=q8f _ (P+R) _ _ w2 (by omega) (y3a T2);have H1:Hid (P1 pb E 256 vs ls w w1/\TC sb (bl (em P (netF es R)) (P+R)) w1/\sb<w1.heap.size/\sb=wr.heap.size/\Below w1.heap.size w1 w2):=⟨P2,T1,by omega,hsb,hbx⟩;clear P2 T1 T2 B1 hsb hbx HC hw2;go_wp2_with fail;rw[<-Hw2.out];refine HK.out.mono ?_;rintro e w3 ⟨rfl,B3⟩;obtain⟨KF,hKF⟩:∃KF,KF=keyS (em P (netF es R)) (P+R):=⟨_,rfl⟩;rw[<-hKF];obtain⟨w4,hw4⟩:∃w4,w4=w3.alloc (.cells #[.string KF] 9):=⟨_,rfl⟩;have Hw4:Hid (w4=w3.alloc (.cells #[.string KF] 9)):=hw4;have HPM:Hid (PM pb (pb+1) P R E [netF es R] 0 0 (vdS [netF es R]) (rwE E []) (upV (λ_=>0) 0 sb) (λ_=>0) (upV (upV vs 4 (.slice (some ⟨w1.heap.size,0,none⟩) 1 1)) 5 (.slice (some ⟨w3.heap.size,0,none⟩) 1 1)) (upV (upV ls 4 ([]++[.slice (some ⟨sb,0,none⟩) (P+R) (P+R)])) 5 ([]++[.string KF])) (λk=>False\/k=sb) w w4):=by
    obtain⟨p1,p2,p3,p4,p5⟩:=H1.out;have hl:=p1.q.lt (by omega);have hbs3:pb+1<=w3.heap.size:=by have:=B3.size;have:=p5.size;omega
    have:=(p1.pm P R (vdS [netF es R]) (rwE E []) (λ_=>0) (λ_=>0)).addS (m:=netF es R) p2 p3 ⟨by have:=HP.out.q.lt (by omega);omega,λj hj e=>by have:=((HP.out.q.o j hj).lt sb e).2;omega⟩ (w2:=w2) (g1:=w1.heap.size) (len1:=1) (cap1:=1) (by rw[Hw2.out];exact q4X _ _ _) (by rw[p1.l4,Hw2.out];exact y0w w1 (pb+1) _ _ (by omega)) (Or.inr rfl) B3 (w5:=w4) (g2:=w3.heap.size) (len2:=1) (cap2:=1) (by rw[hw4];exact q4X _ _ _) (by rw[p1.l5,hw4,hKF];exact y0w w3 (pb+1) _ _ hbs3) (Or.inr rfl);have h1:=this.1;rw[p1.l4,p1.l5,<-hKF]at h1;exact h1
   have B4:Below w.heap.size w w4:=HPM.out.b;have HN:Hid (Calls Tryz.prog 52 #[.pointer (some ⟨gb,0,none⟩)] w4 λe w''=>e=.returned (.slice (some ⟨w4.heap.size,0,none⟩) (P+R) (P+R))/\TC w4.heap.size (bl (em P noB) (P+R)) w''/\Below w4.heap.size w4 w''/\w4.heap.size+1<=w''.heap.size):=HNo.out w4 B4;clear HK B3 hKF hw4 B4 HNo H1;go_wp2_with fail;rw[<-Hw4.out];refine HN.out.mono ?_;rintro e w5 ⟨rfl,T5,B5,s5⟩;have HK5:Hid (Calls Tryz.prog 56 #[.slice (some ⟨w4.heap.size,0,none⟩) (P+R) (P+R)] w5 λe w'=>e=.returned (.string (keyS (em P noB) (P+R)))/\Below w5.heap.size w5 w'):=q8f _ (P+R) _ _ w5 (by omega) (y3a T5);have HPM5:Hid (PM pb (pb+1) P R E [netF es R] 0 0 (vdS [netF es R]) (rwE E []) (upV (λ_=>0) 0 sb) (λ_=>0) (upV (upV vs 4 (.slice (some ⟨w1.heap.size,0,none⟩) 1 1)) 5 (.slice (some ⟨w3.heap.size,0,none⟩) 1 1)) (upV (upV ls 4 ([]++[.slice (some ⟨sb,0,none⟩) (P+R) (P+R)])) 5 ([]++[.string KF])) (λk=>False\/k=sb) w w5):=HPM.out.below B5;clear HN T5 B5 HPM s5;go_wp2_with fail;refine HK5.out.mono ?_;rintro e w6 ⟨rfl,B6⟩;obtain⟨KE,hKE⟩:∃KE,KE=keyS (em P noB) (P+R):=⟨_,rfl⟩;rw[<-hKE];have HKE:Hid (KE=keyS (em P noB) (P+R)):=hKE;have HPM6:Hid (PM pb (pb+1) P R E [netF es R] 0 0 (vdS [netF es R]) (rwE E []) (upV (λ_=>0) 0 sb) (λ_=>0) (upV (upV vs 4 (.slice (some ⟨w1.heap.size,0,none⟩) 1 1)) 5 (.slice (some ⟨w3.heap.size,0,none⟩) 1 1)) (upV (upV ls 4 ([]++[.slice (some ⟨sb,0,none⟩) (P+R) (P+R)])) 5 ([]++[.string KF])) (λk=>False\/k=sb) w w6):=HPM5.out.below B6;clear HK5 B6 HPM5 hKE;go_wp2_with fail
   go_loopw [9,11,13] (λav kv x w'=>∃(s n:Nat) (l:List (Nat->Bool)) (t:List Int) (vs:Nat->Value) (ls:Nat->List Value) (X:Nat->Prop) (sk tk:Nat->Nat) (a4 c4 k5 c5:Nat),s<=n/\n<=200/\x=.int .i64 s/\av=.slice (some ⟨a4,0,none⟩) n c4/\kv=.slice (some ⟨k5,0,none⟩) n c5/\Hid (vs 4=.slice (some ⟨a4,0,none⟩) n c4/\vs 5=.slice (some ⟨k5,0,none⟩) n c5/\vs 3=.slice ta 256 tc)/\Ob es R P E s n l t/\PM pb (pb+1) P R E l s s (vdS l) (rwE E t) sk tk vs ls X w w') (λ_ _ x _=>201-(intOf x).toNat)
   case atStart=>exact⟨0,1,[netF es R],[],_,_,_,_,_,w1.heap.size,1,w3.heap.size,1,by omega,by omega,rfl,rfl,rfl,⟨by rw[q0f _ _ (by omega),q0i],by rw[q0i],by rw[q0f _ _ (by omega),q0f _ _ (by omega)];exact H3.out⟩,⟨rfl,λg hg=>by rw[List.mem_singleton.1 hg];exact HS0.out,Exp.first⟩,HPM6.out⟩
   case round=>
    clear HPM6;obtain⟨s,n,l,t,vs,ls,X,sk,tk,a4,c4,k5,c5,hs,hn,rfl,rfl,rfl,Hv,OB,PMs⟩:=hrel;by_cases hlt2:s<n
    ·have hlt2':(s:Int)<n:=by omega
     have hsl:s<l.length:=by rw[<-OB.ln];exact hlt2
     obtain⟨g,hg⟩:∃g,l[s]?=some g:=⟨_,List.getElem?_eq_getElem hsl⟩;have hgd:l.getD s noB=g:=by rw[List.getD_eq_getElem?_getD,hg];rfl
     have ca:=PMs.allAt Hv.out.1 hsl;have hbr:=PMs.st s hsl wr (AgX.refl _ _) (Nat.le_refl _);rw[hgd]at hbr;have HV:Hid (Calls Tryz.prog 57 #[.pointer (some ⟨gb,0,none⟩),.slice (some ⟨sk s,0,none⟩) (P+R) (P+R)] wr λe w''=>e=.returned (.int .i64 (vdS l s))/\w''=wr):=by
      have:=HVd.out wr _ (P+R) g PMs.b (OB.su g (List.mem_of_getElem? hg)) hbr;unfold vdS;rw[hgd];exact this
     obtain⟨sks,hsks⟩:∃sks,sks=sk s:=⟨_,rfl⟩;rw[<-hsks]at ca HV;obtain⟨vv,hvv⟩:∃vv,vv=vdS l s:=⟨_,rfl⟩;rw[<-hvv]at HV;obtain⟨a0,c0,e0,_⟩:=(PMs.q.o 0 (by omega)).form;rw[PMs.l0,List.length_map,List.length_range]at e0;have hc0:=(PMs.q.cell (i:=0) (by omega)).1;rw[e0]at hc0;have hx0:=box_bel wr (.cells #[.int .i64 vv] 3);have PM0:=PMs.below hx0;have hO0:=PM0.q.o 0 (by omega);rw[e0,PM0.l0]at hO0;have hnw:(wr.alloc (.cells #[.int .i64 vv] 3)).cell? ⟨wr.heap.size,0,none⟩=some (.int .i64 vv):=by rw[World.cell?_alloc_new];rfl
     have hbs:pb+1<=(wr.alloc (.cells #[.int .i64 vv] 3)).heap.size:=by have:=hx0.size;have:=PMs.q.lt (by omega);omega
     have Hl0:Hid (((List.range s).map λi=>Value.int .i64 (vdS l i)).length=s):=by show _=_;simp
     have He0:Hid (vs 0=.slice a0 s c0):=e0;have HPM0:Hid (PM pb (pb+1) P R E l s s (vdS l) (rwE E t) sk tk vs ls X w (wr.alloc (.cells #[.int .i64 vv] 3))):=PM0;have HOB:Hid (Ob es R P E s n l t/\l[s]?=some g/\vv=vdS l s):=⟨OB,hg,hvv⟩;have hs200:s<200:=by omega
     have HtL:Hid (t.length=s*(reps E 256).length):=by show _=_;have:=OB.ex.size.2.2.1;omega
     clear PMs PM0 hx0 e0 OB hg hgd hbr hvv hsks;go_wp2_with fail;refine HV.out.mono ?_;rintro e w1 ⟨rfl,rfl⟩;clear HV ca;go_wp2_with (first|(with_reducible show wpList _ _ _ (⟨_,Op.call { callee:=Callee.builtin Builtin.append,args:=_,argTypes:=_ },_,_,_,_⟩::_) _ _;refine Stop.out ?_));refine⟨?_⟩;refine q0t 23 3 Tryz.underlying23 eInfoInt rfl (by omega) (by rfl) _ _ (by rfl) (pb+1) (.slice a0 s c0) _ (by rfl) hO0 (by rw[Hl0.out];omega) w1.heap.size (.int .i64 vv) rfl (by rfl) hnw hbs _ rfl ?_;rw[Hl0.out];intro g0 cap0 w5 hO5 hgrow hgb5 _;have hc5:w5.cell? ⟨pb,0,none⟩=some (.slice a0 s c0)/\w5.frozen? ⟨pb,0,none⟩=false:=by
      have:=(HPM0.out.q.c.block (hgrow.block pb (HPM0.out.q.lt (by omega)) (λe=>by have:=((HPM0.out.q.o 0 (by omega)).lt pb (by rw[He0.out];exact e.symm)).1;omega))) 0 (vs 0) rfl;rw[He0.out]at this;exact this
     obtain⟨hc5a,hc5b⟩:=hc5;have PM6:=HPM0.out.addV (g:=g0) (len:=s+1) (cap:=cap0) (x:=vv) (by rw[He0.out];exact hgrow) (by rw[HPM0.out.l0];exact hO5) (by rw[He0.out];exact hgb5) HOB.out.2.2.symm;obtain⟨w6,h6⟩:∃w6,w6=w5.setCell ⟨pb,0,none⟩ (.slice (some ⟨g0,0,none⟩) (s+1) cap0):=⟨_,rfl⟩;have H6:Hid (w6=w5.setCell ⟨pb,0,none⟩ (.slice (some ⟨g0,0,none⟩) (s+1) cap0)):=h6;rw[<-h6]at PM6;have hmk:(Instr.makeSlice 23 (.int .i64 256) (.int .i64 256)).run Tryz.prog w6=.ok (.slice (some ⟨w6.heap.size,0,none⟩) 256 256) (w6.alloc (.cells (zeroI 256).toArray 3)):=q1M w6 256 (by omega);have hb7:=box_bel w6 (.cells (zeroI 256).toArray 3);obtain⟨tob,htob⟩:∃tob,tob=w6.heap.size:=⟨_,rfl⟩;have PM7:=PM6.below hb7;have TO7:TO pb tob (inl (λ_=>0) 256) (upV vs 0 (.slice (some ⟨g0,0,none⟩) (s+1) cap0)) X w (w6.alloc (.cells (zeroI 256).toArray 3)):=by
      refine⟨?_,by rw[htob];simp,λj hj e=>?_,⟨λe=>?_,?_⟩,by rw[htob];exact PM6.b.size⟩
      ·rw[htob];exact TC.boxed w6 (zeroI 256) 3
      ·have:=((PM6.q.o j hj).lt tob e).2;omega
      ·have:=(PM6.q.x tob e).1;omega
      ·have:=PM6.q.lt (by omega);omega
     have H7:Hid (PM pb (pb+1) P R E l (s+1) s (vdS l) (rwE E t) sk tk (upV vs 0 (.slice (some ⟨g0,0,none⟩) (s+1) cap0)) (upV ls 0 (ls 0++[.int .i64 vv])) X w (w6.alloc (.cells (zeroI 256).toArray 3))/\TO pb tob (inl (λ_=>0) 256) (upV vs 0 (.slice (some ⟨g0,0,none⟩) (s+1) cap0)) X w (w6.alloc (.cells (zeroI 256).toArray 3))):=⟨PM7,TO7⟩;have Hto:Hid (tob=w6.heap.size):=htob;clear PM6 PM7 TO7 hb7 h6 hO5 hgrow hgb5 hO0 hnw hbs htob HPM0;go_wp2_with (first|(with_reducible show wpList _ _ _ (⟨_,Op.makeSlice 23 _ _,_,_,_,_⟩::_) _ _;refine Stop.out ?_));refine⟨?_⟩;rw[<-H6.out];clear hc5a hc5b hc0;go_wp2_with fail;clear hmk;rw[<-Hto.out]
     go_loopw [9,11,16] (λav kv x w'=>∃(b n:Nat) (l:List (Nat->Bool)) (vs:Nat->Value) (ls:Nat->List Value) (X:Nat->Prop) (sk:Nat->Nat) (a4 c4 k5 c5:Nat) (to:Nat->Int),b<=256/\n<=1000/\x=.int .i64 b/\av=.slice (some ⟨a4,0,none⟩) n c4/\kv=.slice (some ⟨k5,0,none⟩) n c5/\Hid (vs 4=.slice (some ⟨a4,0,none⟩) n c4/\vs 5=.slice (some ⟨k5,0,none⟩) n c5/\vs 3=.slice ta 256 tc)/\Ib es R P E s t b n l g to/\PM pb (pb+1) P R E l (s+1) s (vdS l) (rwE E t) sk tk vs ls X w w'/\TO pb tob (inl to 256) vs X w w') (λ_ _ x _=>256-(intOf x).toNat)
     case atStart=>exact⟨0,n,l,_,_,X,sk,a4,c4,k5,c5,_,by omega,by omega,rfl,rfl,rfl,⟨by rw[q0f _ _ (by omega)];exact Hv.out.1,by rw[q0f _ _ (by omega)];exact Hv.out.2.1,by rw[q0f _ _ (by omega)];exact Hv.out.2.2⟩,⟨HOB.out.1.ln,by omega,HOB.out.1.su,hlt2,HOB.out.2.1,Gh.first HOB.out.1.ex _⟩,H7.out.1,H7.out.2⟩
     case round=>
      clear H7 Hv HOB hlt2 hlt2' hsl;obtain⟨b,n,l,vs,ls,X,sk,a4,c4,k5,c5,to,hb,hn,rfl,rfl,rfl,Hv,IB,PMi,TOi⟩:=hrel;by_cases hbl:b<256
      ·have hbl':(b:Int)<256:=by omega
       obtain⟨a3,ea3,ct⟩:=PMi.twinAt Hv.out.2.2 hbl;subst ea3;obtain⟨tw,htw⟩:∃tw,tw=least E b:=⟨_,rfl⟩;rw[<-htw]at ct;have htwb:tw<=b:=by rw[htw];exact least_le E b
       obtain⟨tbc,tbf⟩:=TOi.x b _ (q1l _ hbl);by_cases htl:tw<b
       ·have htl':(tw:Int)<b:=by omega
        obtain⟨ttc,_⟩:=TOi.x tw _ (q1l _ (show tw<256 by omega));obtain⟨tv,htv⟩:∃tv,tv=to tw:=⟨_,rfl⟩;rw[<-htv]at ttc;have HG:Hid (Ib es R P E s t (b+1) n l g (λc=>if c=b then to (least E b) else to c)):=⟨IB.ln,by have:=IB.mx;omega,IB.su,IB.lt,IB.at_,Gh.copy HEv.out.1 IB.gh hbl (by rw[<-htw];exact htl)⟩;have TO8:=TOi.put (k:=b) (by rw[q1d];exact hbl) (.int .i64 tv);rw[q1B,htv,htw]at TO8;have HT8:Hid (PM pb (pb+1) P R E l (s+1) s (vdS l) (rwE E t) sk tk vs ls X w (wr.setCell ⟨tob,b,none⟩ (.int .i64 tv))/\TO pb tob (inl (λc=>if c=b then to (least E b) else to c) 256) vs X w (wr.setCell ⟨tob,b,none⟩ (.int .i64 tv))):=⟨PMi.put TOi b _,by rw[htv,htw];exact TO8⟩;clear PMi TOi TO8 IB htw htv;go_wp2_with fail;go_roundw
        case rel=>exact⟨b+1,n,l,vs,ls,X,sk,a4,c4,k5,c5,_,by omega,hn,by go_num,rfl,rfl,Hv,HG.out,HT8.out.1,HT8.out.2⟩
        case measure=>simp[intOf];omega
       ·have htl':¬(tw:Int)<b:=by omega
        have htb:tw=b:=by omega
        have hlb:least E b=b:=by rw[<-htw];exact htb
        have hsl:s<l.length:=by rw[<-IB.ln];exact IB.lt
        have ca:=PMi.allAt Hv.out.1 hsl;have hgd:l.getD s noB=g:=by rw[List.getD_eq_getElem?_getD,IB.at_];rfl
        have hbr:=PMi.st s hsl wr (AgX.refl _ _) (Nat.le_refl _);rw[hgd]at hbr;have hsn':(s:Int)<n:=by have:=IB.lt;omega
        obtain⟨sks,hsks⟩:∃sks,sks=sk s:=⟨_,rfl⟩;rw[<-hsks]at ca hbr;obtain⟨m,hm⟩:∃m,m=aftN es R g b:=⟨_,rfl⟩;have HM:Hid (Calls Tryz.prog 58 #[.pointer (some ⟨gb,0,none⟩),.slice (some ⟨sks,0,none⟩) (P+R) (P+R),.int .i64 b] wr λe w''=>e=.returned (.slice (some ⟨wr.heap.size,0,none⟩) (P+R) (P+R))/\TC wr.heap.size (bl (em P m) (P+R)) w''/\Below wr.heap.size wr w''/\wr.heap.size+1<=w''.heap.size):=by rw[hm];exact HMv.out wr _ (P+R) g b PMi.b hbl hbr
        have Hm:Hid (m=aftN es R g b/\Sup P R m):=⟨hm,by rw[hm];exact HSn.out g b⟩;have HGh:Hid (Gh (aftN es R) (netF es R) E s t (b+1) (numL l m) (λc=>if c=b then numR l m else to c)):=by rw[hm];exact Gh.step HEv.out.1 IB.gh hbl hlb IB.at_
        have HIB:Hid (Ib es R P E s t b n l g to):=IB;have HPT:Hid (PM pb (pb+1) P R E l (s+1) s (vdS l) (rwE E t) sk tk vs ls X w wr/\TO pb tob (inl to 256) vs X w wr):=⟨PMi,TOi⟩;clear PMi TOi IB hgd hbr hsks hm htw hsl;go_wp2_with fail;refine HM.out.mono ?_;rintro e w1 ⟨rfl,T1,B1,s1⟩;obtain⟨mb,hmb⟩:∃mb,mb=wr.heap.size:=⟨_,rfl⟩;rw[<-hmb]at T1 s1 ⊢;obtain⟨km,hkm⟩:∃km,km=keyS (em P m) (P+R):=⟨_,rfl⟩;have HK:Hid (Calls Tryz.prog 56 #[.slice (some ⟨mb,0,none⟩) (P+R) (P+R)] w1 λe w'=>e=.returned (.string km)/\Below w1.heap.size w1 w'):=by rw[hkm];exact q8f _ (P+R) _ _ w1 (by omega) (y3a T1)
        have H1:Hid (PM pb (pb+1) P R E l (s+1) s (vdS l) (rwE E t) sk tk vs ls X w w1/\TO pb tob (inl to 256) vs X w w1/\TC mb (bl (em P m) (P+R)) w1/\mb<w1.heap.size/\(mb≠pb/\∀j,j<6->(vs j).ownBlock≠some mb)/\mb≠tob):=by
         obtain⟨x1,x2⟩:=HPT.out;refine⟨x1.below B1,x2.below B1,T1,by omega,⟨by have:=x1.q.lt (by omega);omega,λj hj e=>by have:=((x1.q.o j hj).lt mb e).2;omega⟩,by have:=x2.l;omega⟩
        have Hkm:Hid (km=keyS (em P m) (P+R)):=hkm;clear HM T1 B1 hmb hkm ca HPT tbc tbf ct;go_wp2_with fail;refine HK.out.mono ?_;rintro e w2 ⟨rfl,B2⟩;have H2:Hid (PM pb (pb+1) P R E l (s+1) s (vdS l) (rwE E t) sk tk vs ls X w w2/\TO pb tob (inl to 256) vs X w w2/\TC mb (bl (em P m) (P+R)) w2/\mb<w2.heap.size/\(mb≠pb/\∀j,j<6->(vs j).ownBlock≠some mb)/\mb≠tob):=by
         obtain⟨x1,x2,x3,x4,x5,x6⟩:=H1.out;exact⟨x1.below B2,x2.below B2,x3.block (B2.block mb x4),by have:=B2.size;omega,x5,x6⟩
        clear HK B2 H1;obtain⟨tbc,tbf⟩:=H2.out.2.1.x b _ (q1l _ hbl);obtain⟨w3,hw3⟩:∃w3,w3=w2.setCell ⟨tob,b,none⟩ (.int .i64 (-1)):=⟨_,rfl⟩;have Hw3:Hid (w3=w2.setCell ⟨tob,b,none⟩ (.int .i64 (-1))):=hw3;have H3':Hid (PM pb (pb+1) P R E l (s+1) s (vdS l) (rwE E t) sk tk vs ls X w w3/\TO pb tob (inl (λc=>if c=b then -1 else to c) 256) vs X w w3/\TC mb (bl (em P m) (P+R)) w3/\mb<w3.heap.size/\(mb≠pb/\∀j,j<6->(vs j).ownBlock≠some mb)/\mb≠tob):=by
         obtain⟨x1,x2,x3,x4,x5,x6⟩:=H2.out;rw[hw3];refine⟨x1.put x2 b _,?_,x3.block (Below.heap_setCell w2 ⟨tob,b,none⟩ _ mb (λe=>x6 e)),by rw[World.size_setCell];exact x4,x5,x6⟩;have:=x2.put (k:=b) (by rw[q1d];exact hbl) (.int .i64 (-1));rw[q1B]at this;exact this
        clear H2 hw3;by_cases hsame:sameB m noB 104=true
        ·have hkk:km=KE:=by rw[Hkm.out,HKE.out];exact(q4f Hee.out.2 h8 Hm.out.2 (q5O P R)).2 hsame
         have qk:(km.toList==KE.toList)=true:=by rw[hkk];simp
         have hnr:numR l m=-1:=by unfold numR;rw[if_pos hsame]
         have hnl:numL l m=l:=by unfold numL;rw[if_pos hsame]
         rw[hnr,hnl]at HGh;have HG:Hid (Ib es R P E s t (b+1) n l g (λc=>if c=b then -1 else to c)):=⟨HIB.out.ln,by have:=HIB.out.mx;omega,HIB.out.su,HIB.out.lt,HIB.out.at_,HGh.out⟩;clear hkk hnr hnl hsame;go_wp2_with fail;rw[<-Hw3.out];go_roundw
         case rel=>exact⟨b+1,n,l,vs,ls,X,sk,a4,c4,k5,c5,_,by omega,hn,by go_num,rfl,rfl,Hv,HG.out,H3'.out.1,H3'.out.2.1⟩
         case measure=>simp[intOf];omega
        ·have hsf:sameB m noB 104=false:=by simpa using hsame
         have hkk:¬km.toList=KE.toList:=λe=>hsame (by
          rw[ByteArray.toList_eq,ByteArray.toList_eq]at e;have e2:km=KE:=ByteArray.ext (Array.toList_inj.1 e);rw[Hkm.out,HKE.out]at e2;exact(q4f Hee.out.2 h8 Hm.out.2 (q5O P R)).1 e2)
         have qk:(km.toList==KE.toList)=false:=beq_eq_false_iff_ne.2 hkk;obtain⟨fv,hfv⟩:∃fv,fv=fndN (λi=>keyS (em P (l.getD i noB)) (P+R)) km l.length:=⟨_,rfl⟩;have HF:Hid (Calls Tryz.prog 59 #[.slice (some ⟨k5,0,none⟩) n c5,.string km] w3 λe w'=>e=.returned (.int .i64 fv)/\w'=w3):=by
          have:=y1S k5 0 c5 l.length (λi=>keyS (em P (l.getD i noB)) (P+R)) km w3 (by have:=HIB.out.ln;omega) (H3'.out.1.keysAt Hv.out.2.1);rw[hfv];rw[HIB.out.ln];exact this
         have hfn:=y1R Hee.out.2 h8 Hm.out.2 HIB.out.su hsf;rw[<-Hkm.out,<-hfv]at hfn;obtain⟨tbc3,tbf3⟩:=H3'.out.2.1.x b _ (q1l _ hbl);clear hsame hsf hkk hfv;rcases hfn with ⟨f1,f2,f3⟩|⟨f1,f2,f3⟩
         ·have hge0:¬fv<0:=by
           rw[f2];have hne:-1<=numR l m:=q7X l m;intro hlt0;have he1:numR l m=-1:=by omega
           rw[he1]at f2;unfold numR at he1;split at he1
           ·rename_i hh;have:sameB m noB 104=true:=hh;exact absurd qk (by
             have e2:km=KE:=by rw[Hkm.out,HKE.out];exact(q4f Hee.out.2 h8 Hm.out.2 (q5O P R)).2 this
             rw[e2];simp)
           ·omega
          rw[f3]at HGh;rw[<-f2]at HGh;have HG:Hid (Ib es R P E s t (b+1) n l g (λc=>if c=b then fv else to c)):=⟨HIB.out.ln,by have:=HIB.out.mx;omega,HIB.out.su,HIB.out.lt,HIB.out.at_,HGh.out⟩;have H4:Hid (PM pb (pb+1) P R E l (s+1) s (vdS l) (rwE E t) sk tk vs ls X w (w3.setCell ⟨tob,b,none⟩ (.int .i64 fv))/\TO pb tob (inl (λc=>if c=b then fv else to c) 256) vs X w (w3.setCell ⟨tob,b,none⟩ (.int .i64 fv))):=by
           refine⟨H3'.out.1.put H3'.out.2.1 b _,?_⟩;have:=H3'.out.2.1.put (k:=b) (by rw[q1d];exact hbl) (.int .i64 fv);rw[q1B,q0C (g:=λc=>if c=b then fv else to c) (λc _=>by by_cases e:c=b<;>simp[e])]at this;exact this
          clear f1 f2 f3 HGh;go_wp2_with fail;rw[<-Hw3.out];refine HF.out.mono ?_;rintro e w4 ⟨rfl,rfl⟩;go_wp2_with fail;go_roundw
          case rel=>exact⟨b+1,n,l,vs,ls,X,sk,a4,c4,k5,c5,_,by omega,hn,by go_num,rfl,rfl,Hv,HG.out,H4.out.1,H4.out.2⟩
          case measure=>simp[intOf];omega
         ·subst f2;have hlt0:(-1:Int)<0:=by omega
          rw[f3,f1,<-HIB.out.ln]at HGh;have HG:Hid (Ib es R P E s t (b+1) (n+1) (l++[m]) g (λc=>if c=b then (n:Int) else to c)):=⟨by rw[List.length_append,HIB.out.ln];rfl,by have:=HIB.out.mx;omega,λh hh=>by
           rcases List.mem_append.1 hh with hh|hh
           ·exact HIB.out.su h hh
           ·rw[List.mem_singleton.1 hh];exact Hm.out.2,by have:=HIB.out.lt;omega,by rw[List.getElem?_append_left (by have:=HIB.out.lt;have:=HIB.out.ln;omega)];exact HIB.out.at_,HGh.out⟩
          obtain⟨w5,hw5⟩:∃w5,w5=(w3.setCell ⟨tob,b,none⟩ (.int .i64 (-1))).setCell ⟨tob,b,none⟩ (.int .i64 (n:Int)):=⟨_,rfl⟩;have Hw5:Hid (w5=(w3.setCell ⟨tob,b,none⟩ (.int .i64 (-1))).setCell ⟨tob,b,none⟩ (.int .i64 (n:Int))):=hw5;have H5:Hid (PM pb (pb+1) P R E l (s+1) s (vdS l) (rwE E t) sk tk vs ls X w w5/\TO pb tob (inl (λc=>if c=b then (n:Int) else to c) 256) vs X w w5/\TC mb (bl (em P m) (P+R)) w5/\mb<w5.heap.size/\(mb≠pb/\∀j,j<6->(vs j).ownBlock≠some mb)/\mb≠tob):=by
           obtain⟨x1,x2,x3,x4,x5,x6⟩:=H3'.out;have y1:=x1.put x2 b (.int .i64 (-1));have y2:=x2.put (k:=b) (by rw[q1d];exact hbl) (.int .i64 (-1));have z1:=y1.put y2 b (.int .i64 (n:Int));have z2:=y2.put (k:=b) (by rw[List.length_set,q1d];exact hbl) (.int .i64 (n:Int));rw[<-hw5]at z1 z2;rw[q1B,q1B,q0C (g:=λc=>if c=b then (n:Int) else to c) (λc _=>by by_cases e:c=b<;>simp[e])]at z2;have hbk:w5.heap[mb]?=w3.heap[mb]?:=by
            rw[hw5,Below.heap_setCell _ ⟨tob,b,none⟩ _ mb (λe=>x6 e),Below.heap_setCell w3 ⟨tob,b,none⟩ _ mb (λe=>x6 e)]
           exact⟨z1,z2,x3.block hbk,by rw[hw5,World.size_setCell,World.size_setCell];exact x4,x5,x6⟩
          have hx5:=box_bel w5 (.cells #[.slice (some ⟨mb,0,none⟩) (P+R) (P+R)] 78);have PM5:=H5.out.1.below hx5;have hO4:=PM5.q.o 4 (by omega);rw[Hv.out.1,PM5.l4]at hO4;have hnw:(w5.alloc (.cells #[.slice (some ⟨mb,0,none⟩) (P+R) (P+R)] 78)).cell? ⟨w5.heap.size,0,none⟩=some (.slice (some ⟨mb,0,none⟩) (P+R) (P+R)):=by rw[World.cell?_alloc_new];rfl
          have hbs:pb+1<=(w5.alloc (.cells #[.slice (some ⟨mb,0,none⟩) (P+R) (P+R)] 78)).heap.size:=by have:=hx5.size;have:=H5.out.1.q.lt (by omega);omega
          have Hl4:Hid (((List.range l.length).map λi=>Value.slice (some ⟨sk i,0,none⟩) (P+R) (P+R)).length=n):=by show _=_;rw[HIB.out.ln];simp
          have Hl5:Hid (((List.range l.length).map λi=>Value.string (keyS (em P (l.getD i noB)) (P+R))).length=n):=by show _=_;rw[HIB.out.ln];simp
          have HPM5:Hid (PM pb (pb+1) P R E l (s+1) s (vdS l) (rwE E t) sk tk vs ls X w (w5.alloc (.cells #[.slice (some ⟨mb,0,none⟩) (P+R) (P+R)] 78))/\TO pb tob (inl (λc=>if c=b then (n:Int) else to c) 256) vs X w (w5.alloc (.cells #[.slice (some ⟨mb,0,none⟩) (P+R) (P+R)] 78))/\TC mb (bl (em P m) (P+R)) (w5.alloc (.cells #[.slice (some ⟨mb,0,none⟩) (P+R) (P+R)] 78))/\mb<(w5.alloc (.cells #[.slice (some ⟨mb,0,none⟩) (P+R) (P+R)] 78)).heap.size):=⟨PM5,H5.out.2.1.below hx5,H5.out.2.2.1.block (hx5.block mb H5.out.2.2.2.1),by have:=hx5.size;have:=H5.out.2.2.2.1;omega⟩;have hn':(n:Int)<=1000:=by omega
          clear PM5 hx5 f1 f3 HGh hw5;go_wp2_with fail;rw[<-Hw3.out];refine HF.out.mono ?_;rintro e w4 ⟨rfl,rfl⟩;clear HF;have hsz5:w5.heap.size=w4.heap.size:=by rw[Hw5.out,World.size_setCell,World.size_setCell]
          rw[hsz5]at hnw;go_wp2_with (first|(with_reducible show wpList _ _ _ (⟨_,Op.call { callee:=Callee.builtin Builtin.append,args:=_,argTypes:=_ },_,_,_,_⟩::_) _ _;refine Stop.out ?_));refine⟨?_⟩;rw[<-Hw5.out];refine q0t 74 78 Tryz.underlying74 q4L rfl (by omega) (by rfl) _ _ (by rfl) (pb+1) (.slice (some ⟨a4,0,none⟩) n c4) _ (by rfl) hO4 (by rw[Hl4.out];omega) w4.heap.size (.slice (some ⟨mb,0,none⟩) (P+R) (P+R)) rfl (by rfl) hnw hbs _ rfl ?_;rw[Hl4.out];intro g4 cap4 w8 hO8 hgrow8 hgb8 _;have hO8':OwnV (pb+1) (pTy 4) (.slice (some ⟨g4,0,none⟩) (n+1) cap4) (ls 4++[.slice (some ⟨mb,0,none⟩) (P+R) (P+R)]) w8:=by rw[HPM5.out.1.l4];exact hO8
          obtain⟨Q8,_,s8,_⟩:=HPM5.out.1.q.appN (i:=4) (by omega) (by omega) (by omega) (by rw[Hv.out.1];exact hgrow8) hO8' (by rw[Hv.out.1];exact hgb8);have hx8:=box_bel w8 (.cells #[.string km] 9);have Q9:=Q8.below (by omega) hx8;have hO5:=Q9.o 5 (by omega);rw[q0f _ _ (by omega),q0f _ _ (by omega),Hv.out.2.1,HPM5.out.1.l5]at hO5;have hnw8:(w8.alloc (.cells #[.string km] 9)).cell? ⟨w8.heap.size,0,none⟩=some (.string km):=by rw[World.cell?_alloc_new];rfl
          have hbs8:pb+1<=(w8.alloc (.cells #[.string km] 9)).heap.size:=by have:=hx8.size;have:=Q8.lt (by omega);omega
          have H8:Hid ((w5.alloc (.cells #[.slice (some ⟨mb,0,none⟩) (P+R) (P+R)] 78)).grownBy w8 (Value.slice (some ⟨a4,0,none⟩) n c4).ownBlock/\OwnV (pb+1) (pTy 4) (.slice (some ⟨g4,0,none⟩) (n+1) cap4) (ls 4++[.slice (some ⟨mb,0,none⟩) (P+R) (P+R)]) w8/\((Value.slice (some ⟨a4,0,none⟩) n c4).ownBlock=some g4\/g4=(w5.alloc (.cells #[.slice (some ⟨mb,0,none⟩) (P+R) (P+R)] 78)).heap.size)/\Below w8.heap.size w8 (w8.alloc (.cells #[.string km] 9))):=⟨hgrow8,hO8',hgb8,hx8⟩;clear Q8 Q9 s8 hO8 hO8' hgrow8 hgb8 hO4 hnw hbs hx8;go_wp2_with (first|(with_reducible show wpList _ _ _ (⟨_,Op.call { callee:=Callee.builtin Builtin.append,args:=_,argTypes:=_ },_,_,_,_⟩::_) _ _;refine Stop.out ?_));refine⟨?_⟩;refine q0t 22 9 Tryz.underlying22 y0C rfl (by omega) (by rfl) _ _ (by rfl) (pb+1) (.slice (some ⟨k5,0,none⟩) n c5) _ (by rfl) hO5 (by rw[Hl5.out];omega) w8.heap.size (.string km) rfl (by rfl) hnw8 hbs8 _ rfl ?_;rw[Hl5.out];intro g5 cap5 w10 hO10 hgrow10 hgb10 _;have HX:Hid (PM pb (pb+1) P R E (l++[m]) (s+1) s (vdS (l++[m])) (rwE E t) (upV sk l.length mb) tk (upV (upV vs 4 (.slice (some ⟨g4,0,none⟩) (n+1) cap4)) 5 (.slice (some ⟨g5,0,none⟩) (n+1) cap5)) (upV (upV ls 4 (ls 4++[.slice (some ⟨mb,0,none⟩) (P+R) (P+R)])) 5 (ls 5++[.string (keyS (em P m) (P+R))])) (λk=>X k\/k=mb) w w10/\TO pb tob (inl (λc=>if c=b then (n:Int) else to c) 256) (upV (upV vs 4 (.slice (some ⟨g4,0,none⟩) (n+1) cap4)) 5 (.slice (some ⟨g5,0,none⟩) (n+1) cap5)) (λk=>X k\/k=mb) w w10):=by
           obtain⟨y1,y2,y3,y4⟩:=HPM5.out;obtain⟨z1,z2,z3,z4⟩:=H8.out;obtain⟨p1,p2,p3,p4⟩:=y1.addS (m:=m) (mb:=mb) y3 y4 H5.out.2.2.2.2.1 (by rw[Hv.out.1];exact z1) z2 (by rw[Hv.out.1];exact z3) z4 (by rw[Hv.out.2.1];exact hgrow10) (by rw[y1.l5,<-Hkm.out];exact hO10) (by rw[Hv.out.2.1];exact hgb10);refine⟨p1.congr (λi hi=>(y2s (by have:=HIB.out.lt;have:=HIB.out.ln;omega) m).symm) (λ_ _ _ _=>rfl),?_⟩;refine⟨y2.x.block (p2 tob y2.l y2.n.2 (y2.d 4 (by omega)) (y2.d 5 (by omega))),by have:=y2.l;omega,p4 tob y2.l y2.d,⟨λe=>?_,y2.n.2⟩,y2.s⟩;rcases e with e|e
           ·exact y2.n.1 e
           ·exact H5.out.2.2.2.2.2 e.symm
          clear hO10 hgrow10 hgb10 hO5 hnw8 hbs8 H8 HPM5 H5 H3';go_wp2_with fail;go_roundw
          case rel=>exact⟨b+1,n+1,l++[m],_,_,_,_,g4,cap4,g5,cap5,_,by omega,by have:=HG.out.mx;omega,by go_num,rfl,rfl,⟨by rw[q0f _ _ (by omega),q0i],by rw[q0i],by rw[q0f _ _ (by omega),q0f _ _ (by omega)];exact Hv.out.2.2⟩,HG.out,HX.out.1,HX.out.2⟩
          case measure=>simp[intOf];omega
      ·have hge3:¬(b:Int)<256:=by omega
       have hb2:b=256:=by omega
       subst hb2;obtain⟨a1,c1,e1,_⟩:=(PMi.q.o 1 (by omega)).form;rw[PMi.l1,List.length_map,List.length_range]at e1;have hc1:=(PMi.q.cell (i:=1) (by omega)).1;rw[e1]at hc1;have hx1:=box_bel wr (.cells #[.slice (some ⟨tob,0,none⟩) 256 256] 23);have PM1:=(PMi.congr (vd':=vdS l) (rw':=λi c=>if i=s then to c else rwE E t i c) (λ_ _=>rfl) (λi c hi _=>by rw[if_neg (by omega)])).below hx1;have TO1:=TOi.below hx1;have hO1:=PM1.q.o 1 (by omega);rw[e1,PM1.l1]at hO1;have hnw:(wr.alloc (.cells #[.slice (some ⟨tob,0,none⟩) 256 256] 23)).cell? ⟨wr.heap.size,0,none⟩=some (.slice (some ⟨tob,0,none⟩) 256 256):=by rw[World.cell?_alloc_new];rfl
       have hbs:pb+1<=(wr.alloc (.cells #[.slice (some ⟨tob,0,none⟩) 256 256] 23)).heap.size:=by have:=hx1.size;have:=PMi.q.lt (by omega);omega
       have Hl1:Hid (((List.range s).map λi=>Value.slice (some ⟨tk i,0,none⟩) 256 256).length=s):=by show _=_;simp
       have He1:Hid (vs 1=.slice a1 s c1):=e1;have HPM1:Hid (PM pb (pb+1) P R E l (s+1) s (vdS l) (λi c=>if i=s then to c else rwE E t i c) sk tk vs ls X w (wr.alloc (.cells #[.slice (some ⟨tob,0,none⟩) 256 256] 23))/\TO pb tob (inl to 256) vs X w (wr.alloc (.cells #[.slice (some ⟨tob,0,none⟩) 256 256] 23))):=⟨PM1,TO1⟩;have HIB:Hid (Ib es R P E s t 256 n l g to):=IB;have hn':(n:Int)<=1000:=by omega
       clear PMi TOi PM1 TO1 hx1 e1 IB;go_wp2_with (first|(with_reducible show wpList _ _ _ (⟨_,Op.call { callee:=Callee.builtin Builtin.append,args:=_,argTypes:=_ },_,_,_,_⟩::_) _ _;refine Stop.out ?_));refine⟨?_⟩;refine q0t 53 23 Tryz.underlying53 q4K rfl (by omega) (by rfl) _ _ (by rfl) (pb+1) (.slice a1 s c1) _ (by rfl) hO1 (by rw[Hl1.out];omega) wr.heap.size (.slice (some ⟨tob,0,none⟩) 256 256) rfl (by rfl) hnw hbs _ rfl ?_;rw[Hl1.out];intro g1 cap1 w5 hO5 hgrow hgb5 _;have hc5:w5.cell? ⟨pb,1,none⟩=some (.slice a1 s c1)/\w5.frozen? ⟨pb,1,none⟩=false:=by
        have:=(HPM1.out.1.q.c.block (hgrow.block pb (HPM1.out.1.q.lt (by omega)) (λe=>by have:=((HPM1.out.1.q.o 1 (by omega)).lt pb (by rw[He1.out];exact e.symm)).1;omega))) 1 (vs 1) rfl;rw[He1.out]at this;exact this
       obtain⟨hc5a,hc5b⟩:=hc5;have PM6:=HPM1.out.1.addR (tob:=tob) (f:=to) HPM1.out.2 (g:=g1) (len:=s+1) (cap:=cap1) (by rw[He1.out];exact hgrow) (by rw[HPM1.out.1.l1];exact hO5) (by rw[He1.out];exact hgb5) (λc _=>by rw[if_pos rfl]);have HPM6:Hid (PM pb (pb+1) P R E l (s+1) (s+1) (vdS l) (λi c=>if i=s then to c else rwE E t i c) sk (upV tk s tob) (upV vs 1 (.slice (some ⟨g1,0,none⟩) (s+1) cap1)) (upV ls 1 (ls 1++[.slice (some ⟨tob,0,none⟩) 256 256])) (λk=>X k\/k=tob) w (w5.setCell ⟨pb,1,none⟩ (.slice (some ⟨g1,0,none⟩) (s+1) cap1))):=PM6;clear PM6 hO5 hgrow hgb5 hO1 hnw hbs HPM1 hc1;rcases Gh.last HIB.out.gh (by have:=HIB.out.lt;have:=HIB.out.ln;omega)with ⟨g1',g2'⟩|⟨g1',t',g2',⟨u,g3'⟩,g4'⟩
       ·have hbig:(200:Int)<n:=by have:=HIB.out.ln;omega
        have HR:Hid (PlPost es R w (.returned (.tuple #[.pointer none,.bool false])) (w5.setCell ⟨pb,1,none⟩ (.slice (some ⟨g1,0,none⟩) (s+1) cap1))):=by
         refine⟨HPM6.out.b,Or.inl ⟨rfl,?_⟩⟩;rw[HEv.out.2];exact g2'
        clear HPM6 g1' g2';go_wp2_with fail;go_ret2;exact HR.out
       ·have hsm:¬(200:Int)<n:=by have:=HIB.out.ln;omega
        have hn200:n<=200:=by omega
        have HOBn:Hid (Ob es R P E (s+1) n l t'):=⟨HIB.out.ln,HIB.out.su,g2'⟩;have HPM7:Hid (PM pb (pb+1) P R E l (s+1) (s+1) (vdS l) (rwE E t') sk (upV tk s tob) (upV vs 1 (.slice (some ⟨g1,0,none⟩) (s+1) cap1)) (upV ls 1 (ls 1++[.slice (some ⟨tob,0,none⟩) 256 256])) (λk=>X k\/k=tob) w (w5.setCell ⟨pb,1,none⟩ (.slice (some ⟨g1,0,none⟩) (s+1) cap1))):=by
         refine HPM6.out.congr (λ_ _=>rfl) (λi c hi hc=>?_);by_cases e:i=s
         ·subst e;rw[if_pos rfl];exact g4' c hc
         ·rw[if_neg e];unfold rwE;have h1:=idx_lt HEv.out.1 hc;have h2:(i+1)*(reps E 256).length<=s*(reps E 256).length:=Nat.mul_le_mul_right _ (by omega);rw[Nat.succ_mul]at h2;have h3:=HtL.out;have h4:cnt E 256=(reps E 256).length:=rfl;rw[g3'];simp only[List.getD_eq_getElem?_getD];rw[List.getElem?_append_left (by omega)]
        have hlt3:=HIB.out.lt;clear HPM6 g1' g2' g3' g4';go_wp2_with fail;go_roundw
        case rel=>exact⟨s+1,n,l,t',_,_,_,sk,_,a4,c4,k5,c5,by omega,hn200,by go_num,rfl,rfl,⟨by rw[q0f _ _ (by omega)];exact Hv.out.1,by rw[q0f _ _ (by omega)];exact Hv.out.2.1,by rw[q0f _ _ (by omega)];exact Hv.out.2.2⟩,HOBn.out,HPM7.out⟩
        case measure=>simp[intOf];omega
    ·have hge2:¬(s:Int)<n:=by omega
     have hsn:s=n:=by omega
     subst hsn;have HR:Hid (PlPost es R w (.returned (.tuple #[.pointer (some ⟨pb,0,none⟩),.bool true])) wr):=by
      refine⟨PMs.b,Or.inr ⟨l,t,pb,rfl,?_,?_,?_,?_⟩⟩
      ·rw[HEv.out.2,<-OB.ln];exact OB.ex
      ·have o0:=PMs.q.o 0 (by omega);obtain⟨ad,cap,e,hc⟩:=o0.form;rw[PMs.l0,List.length_map,List.length_range]at e;rw[PMs.l0]at hc;refine⟨ad,cap,by rw[(PMs.q.cell (i:=0) (by omega)).1,e,OB.ln],λi hi=>?_⟩;obtain⟨g,e1,e2⟩:=hc i (.int .i64 (vdS l i)) (by rw[<-OB.ln]at hi;simp[hi]);exact⟨g,0,e1,by rw[Nat.zero_add];exact e2⟩
      ·have o1:=PMs.q.o 1 (by omega);obtain⟨ad,cap,e,hc⟩:=o1.form;rw[PMs.l1,List.length_map,List.length_range]at e;rw[PMs.l1]at hc;refine⟨ad,cap,by rw[(PMs.q.cell (i:=1) (by omega)).1,e,OB.ln],λi hi=>?_⟩;rw[<-OB.ln]at hi;obtain⟨g,e1,e2⟩:=hc i (.slice (some ⟨tk i,0,none⟩) 256 256) (by simp[hi]);refine⟨g,0,_,_,e1,by rw[Nat.zero_add];exact e2,?_⟩;have:=PMs.rs i hi wr (AgX.refl _ _) (Nat.le_refl _);rw[HEv.out.2,<-Hee.out.1];exact this
      ·have o2:=PMs.q.o 2 (by omega);rw[PMs.l2]at o2;obtain⟨ad,cap,e,il⟩:=OwnV.il (l:=reps E 256) o2;rw[HEv.out.2];exact⟨ad,cap,by rw[(PMs.q.cell (i:=2) (by omega)).1,e],il⟩
     clear PMs OB;go_wp2_with fail;go_ret2;exact HR.out
end Go.Proofs.YtoaaklhpmhjhkaaGreat
