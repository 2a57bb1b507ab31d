import Derived.Test.YtoaaklhpmhjhkaaGreatC23
set_option maxRecDepth 100000
set_option maxHeartbeats 4000000
set_option linter.all false
namespace Go.Proofs.YtoaaklhpmhjhkaaGreat
open Go.Proofs.Tryz
open Go.RowKit
open Bm
def EB(w:World):(Instr.build 77 #[]).run prog w=.ok (.agg #[sN,sN,sN]) w:=Qk
structure P1 (pb:Nat) (E:Nat->Nat->Bool) (b:Nat) (vs:Nat->Value) (ls:Nat->List Value) (w0 w:World):Prop where
 q:L6 pb (pb+1) 3 6 Ds vs ls (fun _=>False) w
 l0:ls 0=[]
 l1:ls 1=[]
 l2:ls 2=(reps E b).map Vo
 l3:ls 3=(List.range b).map fun a=>Vo (least E a)
 l4:ls 4=[]
 l5:ls 5=[]
 v4:vs 4=.slice none 0 0
 v5:vs 5=.slice none 0 0
 b:Below w0.heap.size w0 w
 s:w0.heap.size=pb
def P1.first(w:World)(E:Nat->N_)(z:TypeId):P1 w.heap.size E 0 (λ_=>sN) (λ_=>[]) w (w.alloc (.cells #[sN,sN,sN] z)):=
 ⟨⟨TC.boxed w [sN,sN,sN] z,λi _=>WO.nil _ _ _,λi j k _ _ _ h=>(by cases h),λk h=>h.elim,Qo,Qo⟩,rfl,rfl,rfl,rfl,rfl,rfl,rfl,rfl,box_bel _ _,rfl⟩
variable {l:List (N_)}{O:List Nat}{B B0 N P R b base cap g i len n nr nv pb rules:Nat}{ls:Nat->List Value}{sk tk xb:Nat->Nat}{E:Nat->N_}{rows rw_:Nat->Nat->Int}{X:Nat->Prop}{vs:Nat->Value}{ta:Option Addr}{vo:Value}{W w w' w0 w5:World}
def P1.below(h:P1 pb E b vs ls w0 w)(z:Bl w w'):P1 pb E b vs ls w0 w':=
 ⟨h.q.below Qo z,h.l0,h.l1,h.l2,h.l3,h.l4,h.l5,h.v4,h.v5,h.b.trans (z.mono h.b.size),h.s⟩
def P1.pm(h:P1 pb E 256 vs ls w0 w)(P R:Nat)(vd:Nat->Int)(rw_:Nat->Nat->Int)(sk tk:Nat->Nat):PM pb (pb+1) P R E [] 0 0 vd rw_ sk tk vs ls (λ_=>False) w0 w:=
 ⟨h.q,h.l0,h.l1,h.l2,h.l3,h.l4,h.l5,λi a=>by simp at a,λi a=>Qo,h.b,Nat.le_of_eq h.s⟩
def PM.congr{vd vd':Nat->Int}{rw':Nat->Nat->Int}(h:PM pb base P R E l nv nr vd rw_ sk tk vs ls X w0 w)(H:∀i,i<nv->vd i=vd' i)(z:∀i b,i<nr->b<256->rw_ i b=rw' i b):PM pb base P R E l nv nr vd' rw' sk tk vs ls X w0 w:=
 ⟨h.q,by rw[h.l0];exact ZO (λi a=>by rw[H i (ZI.1 a)]),h.l1,h.l2,h.l3,h.l4,h.l5,h.st,λi a w' h1 h2 b c=>by
  let⟨x,y,d,e2⟩:=h.rs i a w' h1 h2 b c;exact⟨x,y,d,by rw[e2,z i b a c]⟩,h.b,h.s⟩
def QV(l:List (Nat->Bool))(i:Nat):Int:=UY (λr=>(l.getD i Ve) (96+r)) 8 0
def Mg(E:Nat->Nat->Bool)(t:List Int)(i b:Nat):Int:=t.getD (i*(reps E 256).length+idx E b) (-1)
def AG(h:i<l.length)(g:N_):QV (l++[g]) i=QV l i:=by unfold QV;rw[MP h]
def PM.allAt{vd:Nat->Int}(h:PM pb base P R E l nv nr vd rw_ sk tk vs ls X w0 w){z n c4:Nat}(J:vs 4=sL z n c4){i:Nat}(H:i<l.length):w.cell? (a_ z i)=some (.slice (some (a_ (sk i) 0)) (P+R) (P+R)):=by
 let⟨ad,cap,e,a⟩:=(h.q.o 4 Qo).form;rw[J]at e;rw[h.l4]at a;let⟨g,b,e2⟩:=a i (.slice (some (a_ (sk i) 0)) (P+R) (P+R)) (by simp[H]);cases e;cases b;exact e2
def PM.keysAt{vd:Nat->Int}(h:PM pb base P R E l nv nr vd rw_ sk tk vs ls X w0 w){z n c5:Nat}(H:vs 5=sL z n c5):RL z 0 (λi=>Wi (em P (l.getD i Ve)) (P+R)) l.length w:=λi c=>by
 let⟨ad,cap,e,a⟩:=(h.q.o 5 Qo).form;rw[H]at e;rw[h.l5]at a;let⟨g,b,e2⟩:=a i (.string (Wi (em P (l.getD i Ve)) (P+R))) (by simp[c]);cases e;cases b;rw[Zn];exact e2
def PM.twinAt{vd:Nat->Int}(h:PM pb base P R E l nv nr vd rw_ sk tk vs ls X w0 w){ta:Option Addr}{n c3:Nat}(H:vs 3=.slice ta n c3){i:Nat}(z:i<256):∃a3,ta=some (a_ a3 0)/\w.cell? (a_ a3 i)=some (I6 (least E i:Nat)):=by
 let⟨ad,cap,e,a⟩:=(h.q.o 3 Qo).form;rw[H]at e;rw[h.l3]at a;let⟨g,b,e2⟩:=a i (Vo (least E i)) (by simp[z]);cases e;exact⟨g,b,e2⟩
structure Ob (es:Nat->Rx) (R P:Nat) (E:Nat->Nat->Bool) (s n:Nat) (l:List (Nat->Bool)) (t:List Int):Prop where
 ln:n=l.length
 su:∀g∈l,G9 P R g
 ex:WU (Wh es R) (X6 es R) (reps E 256) s 0 l t
structure Ib (es:Nat->Rx) (R P:Nat) (E:Nat->Nat->Bool) (s:Nat) (t0:List Int) (b n:Nat) (l:List (Nat->Bool)) (g:Nat->Bool) (to:Nat->Int):Prop where
 ln:n=l.length
 mx:n<=201+b
 su:∀g∈l,G9 P R g
 lt:s<n
 at_:l[s]?=some g
 gh:Gh (Wh es R) (X6 es R) E s t0 b l to
def Mm(es:Nat->Rx)(R:Nat)(w:World)(e:Ending)(w':World):Prop:=
 Below w.heap.size w w' /\
 ((e=.returned (.tuple #[.pointer none,.bool false])/\∃s k l t f b,WU (Wh es R) (X6 es R) (UE es R) s k l t/\l[s]?=some f/\(UE es R)[k]?=some b/\200<=Xp l (Wh es R f b)) \/
  ∃l t pb,e=.returned (.tuple #[.pointer (some ⟨pb,0,none⟩),.bool true])/\WU (Wh es R) (X6 es R) (UE es R) l.length 0 l t/\FB pb l.length (XO l t (UE es R).length).vd (λi b=>t.getD (i*(UE es R).length+idx (Kq (XV es R) (Y4 es R)) b) (-1)) (UE es R) w')
def Bh{f:N_}(h:TC b (bl f n) w):BR (some (a_ b 0)) f n w:=λi a=>⟨b,0,rfl,by rw[Zn];exact(h i _ (YO f a)).1⟩
def CC(X0:Nat->Prop)(gb R:Nat)(tr ad cp:Nat->Nat)(ms:Nat->Pl)(Ts:Nat->Nat->Nd)(Ns:Nat->Nat)(es:Nat->Rx)(ti nd:Nat->Nat)(hGm:Gm R Ts Ns es ti nd)(h8:R<=8)(hP96:Y4 es R<=96)(hNs:∀r,r<R->Ns r<=20000)(w:World)(hG:GX X0 gb (Y4 es R) R tr ad cp ms Ts Ns es w)(hGR:GR gb (Y4 es R) R tr Ts Ns ti nd w)(hNX:NX gb (Y4 es R) R (Am es Ts Ns ti nd (Y4 es R)) w):
  Cp 28 #[pT gb] w (Mm es R w):=by
 have hz:=EB;obtain⟨P,hPe⟩:∃P,P=Y4 es R:=⟨_,rfl⟩;obtain⟨E,hEe⟩:∃E,E=Kq (XV es R) (Y4 es R):=⟨_,rfl⟩;have HTw:Hid (∀(b:Nat) (w':World),b<256->Bl w w'->Cp 54 #[pT gb,I6 b] w' λe w''=>e=.returned (I6 (least E b))/\Bl w' w''):=λb w' hb hW=>by
  rw[hEe,<-EO hGm hb];exact De gb _ R tr Ts Ns ti nd b w' Qo Qo (λr hr=>by have:=hNs r hr;omega) (hGR.below hW) hb
 have HAt:Hid (∀w',Bl w w'->Cp 55 #[pT gb] w' λe w''=>e=.returned (.slice (some (a_ w'.heap.size 0)) (P+R) (P+R))/\TC w'.heap.size (bl (em P (X6 es R)) (P+R)) w''/\Bl w' w''/\w'.heap.size+1<=w''.heap.size):=λw' hW=>by
  rw[hPe];apply(zW X0 gb R tr ad cp ms Ts Ns es ti nd hGm Qo Qo hNs w' (hG.below hW)).mono;rintro e w'' ⟨h1,h2,h3⟩;refine⟨h1,?_,h3⟩;rw[YW (g:=em (Y4 es R) (X6 es R)) (λq hq=>yf hGm hq hP96)]at h2;exact h2
 have HNo:Hid (∀w',Bl w w'->Cp 52 #[pT gb] w' λe w''=>e=.returned (.slice (some (a_ w'.heap.size 0)) (P+R) (P+R))/\TC w'.heap.size (bl (em P Ve) (P+R)) w''/\Bl w' w''/\w'.heap.size+1<=w''.heap.size):=λw' hW=>by
  rw[hPe];exact RZ gb _ R w' Qo Qo (hGR.below hW).gl
 have HMv:Hid (∀(w':World) (sa:Option Addr) (sc:Nat) (g:N_) (b:Nat),Bl w w'->b<256->BR sa (em P g) (P+R) w'->Cp 58 #[pT gb,.slice sa (P+R) sc,I6 b] w' λe w''=>e=.returned (.slice (some (a_ w'.heap.size 0)) (P+R) (P+R))/\TC w'.heap.size (bl (em P (Wh es R g b)) (P+R)) w''/\Bl w' w''/\w'.heap.size+1<=w''.heap.size):=λw' sa sc g b hW hb hS=>by
  rw[hPe]at hS ⊢;refine(D0 gb _ R tr Ts Ns ti nd _ sa sc _ b w' Qo Qo (λr hr=>by have:=hNs r hr;omega) (hGR.below hW) (hNX.below hW) hS hb).mono ?_;rintro e w'' ⟨h1,h2,h3⟩;refine⟨h1,?_,h3⟩;rw[YW (λq hq=>zO hGm hP96 g hb hq)]at h2;exact h2
 have HVd:Hid (∀(w':World) (sa:Option Addr) (sc:Nat) (g:N_),Bl w w'->G9 P R g->BR sa (em P g) (P+R) w'->Cp 57 #[pT gb,.slice sa (P+R) sc] w' λe w''=>e=.returned (I6 (UY (λr=>g (96+r)) 8 0))/\w''=w'):=λw' sa sc g hW hg hS=>by
  rw[hPe]at hS hg ⊢;rw[<-AH hP96 h8 hg];exact JY gb _ R sa sc _ w' Qo Qo (hGR.below hW).gl hS
 have HSn:Hid (∀g b,G9 P R (Wh es R g b)):=λg b=>by rw[hPe];exact Jn es R hP96 g b
 have HS0:Hid (G9 P R (X6 es R)):=by rw[hPe];exact Lx es R hP96
 have HEv:Hid (Eqv E 256/\UE es R=reps E 256):=⟨by rw[hEe];exact Vi _ _ _,by rw[hEe];rfl⟩;have hP':(P:Int)<=96:=Qo
 have hR':(R:Int)<=8:=Qo
 have HPl:Hid (Mm es R w=Mm es R w):=rfl;have Hee:Hid (E=Kq (XV es R) (Y4 es R)/\P<=96):=⟨hEe,Qo⟩;obtain⟨pb,hpb⟩:∃pb,pb=w.heap.size:=⟨_,rfl⟩;have HP0:Hid (P1 pb E 0 (λ_=>sN) (λ_=>[]) w (w.alloc (.cells #[sN,sN,sN] 77))):=by rw[hpb];exact P1.first w E _
 have Hpb:Hid (pb=w.heap.size):=hpb;clear hG hGR hNX hGm hNs hPe hEe hpb;go_enter func28,ntmps28;go_wp2_with fail;rw[<-Hpb.o];clear hz
 go_loopw [5,6] (λtv x w'=>∃(b:Nat) (ta:Option Addr) (tc:Nat) (vs:Nat->Value) (ls:Nat->List Value),b<=256/\x=I6 b/\tv=.slice ta b tc/\Hid (vs 3=.slice ta b tc)/\P1 pb E b vs ls w w') (λ_ x _=>256-(intOf x).toNat)
 .exact⟨0,none,0,(λ_=>sN),(λ_=>[]),Qo,rfl,rfl,(show _=_ from rfl),HP0⟩
 clear HP0;obtain⟨b,ta,tc,vs,ls,hb,rfl,rfl,H3,P1b⟩:=hrel;by_cases hlt:b<256
 .have hlt':(b:Int)<256:=Qo
  have HC:Hid (Cp 54 #[pT gb,I6 b] wr λe w''=>e=.returned (I6 (least E b))/\Bl wr w''):=HTw.o b wr hlt P1b.b;have HP1:Hid (P1 pb E b vs ls w wr):=P1b;obtain⟨tw,htw⟩:∃tw,tw=least E b:=⟨_,rfl⟩;have Htw:Hid (tw=least E b):=htw;rw[<-htw]at HC;clear P1b htw;go_wp2_with fail;apply HC.o.mono;rintro e w1 ⟨rfl,B1⟩;have P2:=HP1.o.below B1;have hx1:=box_bel w1 (.cells #[I6 (tw:Int)] 3);have Q2:=P2.q.below Qo hx1;have hO3:=Q2.o 3 Qo;rw[H3.o,P2.l3]at hO3;have hnw:(w1.alloc (.cells #[I6 (tw:Int)] 3)).cell? (a_ w1.heap.size 0)=some (I6 (tw:Int)):=by rw[Zm];rfl
  have hbs:pb+1<=(w1.alloc (.cells #[I6 (tw:Int)] 3)).heap.size:=by have:=hx1.size;have:=P2.q.lt Qo;omega
  have Hl3:Hid (((List.range b).map λa=>Vo (least E a)).length=b):=by show _=_;simp
  have HQ2:Hid (L6 pb (pb+1) 3 6 Ds vs ls (λ_=>False) (w1.alloc (.cells #[I6 (tw:Int)] 3))/\P1 pb E b vs ls w w1):=⟨Q2,P2⟩;clear P2 Q2 hx1 B1 HC;go_wp2_with (first|(with_reducible show wpList _ _ _ (⟨_,Op.call { callee:=Callee.builtin Builtin.append,args:=_,argTypes:=_ },_,_,_,_⟩::_) _ _;refine Ya.out ?_));refine⟨?_⟩;refine YK 23 3 u_e WP rfl Qo Qr _ _ Qr (pb+1) (.slice ta b tc) _ Qr hO3 (by rw[Hl3.o];omega) w1.heap.size (I6 (tw:Int)) rfl Qr hnw hbs _ rfl ?_;rw[Hl3.o];intro g3 cap3 w5 hO5 hgrow hgb5 _;obtain⟨Q6,A6,s6,k6⟩:=HQ2.o.1.appN (i:=3) Qo Qo Qo (t:=I6 (tw:Int)) (g:=g3) (len:=b+1) (cap:=cap3) (by rw[H3.o];exact hgrow) (by rw[HQ2.o.2.l3];exact hO5) (by rw[H3.o];exact hgb5);have B5:Bl w w5:=by
   have x1:=HQ2.o.2.b;have x2:=x1.trans ((box_bel w1 (.cells #[I6 (tw:Int)] 3)).mono x1.size);exact x2.grown hgrow x2.size (λq hq=>by have:=((HQ2.o.1.o 3 Qo).lt q (by rw[H3.o];exact hq)).1;have:=Hpb.o;omega)
  have Hl3n:Hid ((List.range b).map (λa=>Vo (least E a))++[I6 (tw:Int)]=(List.range (b+1)).map λa=>Vo (least E a)):=by
   show _=_;rw[ZT,eK,Htw.o];rfl
  by_cases hq:tw=b
  .have q1:((tw:Int)==(b:Int))=true:=by simp[hq]
   have hl2:Yj ls 3 (ls 3++[Value.int .i64 (tw:Int)]) 2=(reps E b).map Vo:=by rw[Y5 _ _ Qo];exact HQ2.o.2.l2
   obtain⟨a2,c2,e2,_⟩:=(Q6.o 2 Qo).form;rw[hl2,Zy]at e2;have hc2:=(Q6.cell (i:=2) Qo).1;rw[e2]at hc2;obtain⟨n2,hn2⟩:∃n2,n2=(reps E b).length:=⟨_,rfl⟩;have hn2b:n2<=256:=by rw[hn2];have:=cnt_le E b;unfold cnt at this;omega
   rw[<-hn2]at e2 hc2;have hx5:=box_bel w5 (.cells #[I6 (b:Int)] 3);have Q7:=Q6.below Qo hx5;have hO2:=Q7.o 2 Qo;rw[e2,hl2]at hO2;have hnw5:(w5.alloc (.cells #[I6 (b:Int)] 3)).cell? (a_ w5.heap.size 0)=some (I6 (b:Int)):=by rw[Zm];rfl
   have hbs5:pb+1<=(w5.alloc (.cells #[I6 (b:Int)] 3)).heap.size:=by have:=hx5.size;have:=Q6.lt Qo;omega
   have He2:Hid (Yj vs 3 (sL g3 (b+1) cap3) 2=.slice a2 n2 c2):=e2;have Hn2:Hid (((reps E b).map Vo).length=n2):=by show _=_;rw[Zy,hn2]
   have HQ7:Hid (L6 pb (pb+1) 3 6 Ds (Yj vs 3 (sL g3 (b+1) cap3)) (Yj ls 3 (ls 3++[I6 (tw:Int)])) (λ_=>False) (w5.alloc (.cells #[I6 (b:Int)] 3))/\Bl w w5):=⟨Q7,B5⟩;have Hq:Hid (tw=b/\tw=least E b):=⟨hq,Htw.o⟩;clear Q6 Q7 A6 s6 k6 B5 hx5 e2 hn2 hO3 hnw hbs hO5 hgrow hgb5 hl2 hq;go_wp2_with (first|(with_reducible show wpList _ _ _ (⟨_,Op.call { callee:=Callee.builtin Builtin.append,args:=_,argTypes:=_ },_,_,_,_⟩::_) _ _;refine Ya.out ?_));refine⟨?_⟩;refine YK 23 3 u_e WP rfl Qo Qr _ _ Qr (pb+1) (.slice a2 n2 c2) _ Qr hO2 (by rw[Hn2.o];omega) w5.heap.size (I6 (b:Int)) rfl Qr hnw5 hbs5 _ rfl ?_;rw[Hn2.o];intro g2 cap2 w8 hO8 hgrow8 hgb8 _;have hc8:w8.cell? (a_ pb 2)=some (.slice a2 n2 c2)/\w8.frozen? (a_ pb 2)=false:=by
    have:=(HQ7.o.1.c.block (hgrow8.block pb (HQ7.o.1.lt Qo) (λe=>by have:=((HQ7.o.1.o 2 Qo).lt pb (by rw[He2.o];exact e.symm)).1;omega))) 2 _ rfl;rw[He2.o]at this;exact this
   obtain⟨hc8a,hc8b⟩:=hc8;have hl2:Yj ls 3 (ls 3++[Value.int .i64 (tw:Int)]) 2=(reps E b).map Vo:=by rw[Y5 _ _ Qo];exact HQ2.o.2.l2
   obtain⟨Q9,_,_,_⟩:=HQ7.o.1.app (i:=2) Qo (t:=I6 (b:Int)) (g:=g2) (len:=n2+1) (cap:=cap2) (by rw[He2.o];exact hgrow8) (by rw[hl2];exact hO8) (by rw[He2.o];exact hgb8);have HPn:Hid (P1 pb E (b+1) (Yj (Yj vs 3 (sL g3 (b+1) cap3)) 2 (sL g2 (n2+1) cap2)) (Yj (Yj ls 3 (ls 3++[I6 (tw:Int)])) 2 (Yj ls 3 (ls 3++[I6 (tw:Int)]) 2++[I6 (b:Int)])) w (w8.setCell (a_ pb 2) (sL g2 (n2+1) cap2))):=by
    obtain⟨P1w⟩:Nonempty (P1 pb E b vs ls w w1):=⟨HQ2.o.2⟩;have x5:=HQ7.o.2;have x6:=x5.trans ((box_bel w5 (.cells #[I6 (b:Int)] 3)).mono x5.size);have x8:Bl w w8:=x6.grown hgrow8 x6.size (λq hq=>by have:=((HQ7.o.1.o 2 Qo).lt q (by rw[He2.o];exact hq)).1;have:=Hpb.o;omega);refine⟨Q9,?_,?_,?_,?_,?_,?_,?_,?_,x8.setCell (p:=(a_ pb 2)) (by have:=Hpb.o;show _<=pb;omega) _,P1w.s⟩
    .rw[Y5 _ _ Qo,Y5 _ _ Qo];exact P1w.l0
    .rw[Y5 _ _ Qo,Y5 _ _ Qo];exact P1w.l1
    .rw[Y1,hl2,reps_succ,dF (by rw[<-Hq.o.2];exact Hq.o.1),eK];rfl
    .rw[Y5 _ _ Qo,Y1,P1w.l3];exact Hl3n.o
    .rw[Y5 _ _ Qo,Y5 _ _ Qo];exact P1w.l4
    .rw[Y5 _ _ Qo,Y5 _ _ Qo];exact P1w.l5
    .rw[Y5 _ _ Qo,Y5 _ _ Qo];exact P1w.v4
    rw[Y5 _ _ Qo,Y5 _ _ Qo];exact P1w.v5
   clear Q9 hO8 hgrow8 hgb8 hO2 hnw5 hbs5 HQ7 hc2;go_wp2_with fail;go_roundw
   .exact⟨b+1,some (a_ g3 0),cap3,_,_,Qo,Qg,rfl,by show Yj _ _ _ 3=_;rw[Y5 _ _ Qo,Y1],HPn⟩
   simp[intOf];omega
  have q1:((tw:Int)==(b:Int))=false:=Qp
  have HPn:Hid (P1 pb E (b+1) (Yj vs 3 (sL g3 (b+1) cap3)) (Yj ls 3 (ls 3++[I6 (tw:Int)])) w w5):=by
   obtain⟨P1w⟩:Nonempty (P1 pb E b vs ls w w1):=⟨HQ2.o.2⟩;refine⟨Q6,?_,?_,?_,?_,?_,?_,?_,?_,B5,P1w.s⟩
   .rw[Y5 _ _ Qo];exact P1w.l0
   .rw[Y5 _ _ Qo];exact P1w.l1
   .rw[Y5 _ _ Qo,P1w.l2,reps_succ,dG (by rw[<-Htw.o];exact hq),dv]
   .rw[Y1,P1w.l3];exact Hl3n.o
   .rw[Y5 _ _ Qo];exact P1w.l4
   .rw[Y5 _ _ Qo];exact P1w.l5
   .rw[Y5 _ _ Qo];exact P1w.v4
   rw[Y5 _ _ Qo];exact P1w.v5
  clear Q6 A6 s6 k6 B5 hO3 hnw hbs hO5 hgrow hgb5;go_wp2_with fail;go_roundw
  .exact⟨b+1,some (a_ g3 0),cap3,_,_,Qo,Qg,rfl,by show Yj _ _ _ 3=_;rw[Y1],HPn⟩
  simp[intOf];omega
 have hge:¬(b:Int)<256:=Qo
 have hb256:b=256:=Qo
 subst hb256;have HP:Hid (P1 pb E 256 vs ls w wr):=P1b;have HC:Hid (Cp 55 #[pT gb] wr λe w''=>e=.returned (.slice (some (a_ wr.heap.size 0)) (P+R) (P+R))/\TC wr.heap.size (bl (em P (X6 es R)) (P+R)) w''/\Bl wr w''/\wr.heap.size+1<=w''.heap.size):=HAt.o wr P1b.b;clear P1b HTw HAt;go_wp2_with fail;apply HC.o.mono;rintro e w1 ⟨rfl,T1,B1,s1⟩;have P2:=HP.o.below B1;obtain⟨sb,hsb⟩:∃sb,sb=wr.heap.size:=⟨_,rfl⟩;rw[<-hsb]at T1 s1 ⊢;have hbx:=box_bel w1 (.cells #[sL sb (P+R) (P+R)] 78);obtain⟨w2,hw2⟩:∃w2,w2=w1.alloc (.cells #[sL sb (P+R) (P+R)] 78):=⟨_,rfl⟩;have Hw2:Hid (w2=w1.alloc (.cells #[sL sb (P+R) (P+R)] 78)):=hw2;rw[<-hw2]at hbx;have T2:=T1.block (hbx.block sb Qo);have HK:Hid (Cp 56 #[sL sb (P+R) (P+R)] w2 λe w'=>e=.returned (.string (Wi (em P (X6 es R)) (P+R)))/\Bl w2 w'):=J0 _ (P+R) _ _ w2 Qo (Bh T2);have H1:Hid (P1 pb E 256 vs ls w w1/\TC sb (bl (em P (X6 es R)) (P+R)) w1/\sb<w1.heap.size/\sb=wr.heap.size/\Bl w1 w2):=⟨P2,T1,Qo,hsb,hbx⟩;clear P2 T1 T2 B1 hsb hbx HC hw2;go_wp2_with fail;rw[<-Hw2.o];apply HK.o.mono;rintro e w3 ⟨rfl,B3⟩;obtain⟨KF,hKF⟩:∃KF,KF=Wi (em P (X6 es R)) (P+R):=⟨_,rfl⟩;rw[<-hKF];obtain⟨w4,hw4⟩:∃w4,w4=w3.alloc (.cells #[.string KF] 9):=⟨_,rfl⟩;have Hw4:Hid (w4=w3.alloc (.cells #[.string KF] 9)):=hw4;have HPM:Hid (PM pb (pb+1) P R E [X6 es R] 0 0 (QV [X6 es R]) (Mg E []) (Yj (λ_=>0) 0 sb) (λ_=>0) (Yj (Yj vs 4 (.slice (some (a_ w1.heap.size 0)) 1 1)) 5 (.slice (some (a_ w3.heap.size 0)) 1 1)) (Yj (Yj ls 4 ([]++[sL sb (P+R) (P+R)])) 5 ([]++[.string KF])) (λk=>False\/k=sb) w w4):=by
  obtain⟨p1,p2,p3,p4,p5⟩:=H1.o;have hl:=p1.q.lt Qo;have hbs3:pb+1<=w3.heap.size:=by have:=B3.size;have:=p5.size;omega
  have:=(p1.pm P R (QV [X6 es R]) (Mg E []) (λ_=>0) (λ_=>0)).addS (m:=X6 es R) p2 p3 ⟨by have:=HP.o.q.lt Qo;omega,λj hj e=>by have:=((HP.o.q.o j hj).lt sb e).2;omega⟩ (w2:=w2) (g1:=w1.heap.size) (len1:=1) (cap1:=1) (by rw[Hw2.o];exact OJ _ _ _) (by rw[p1.l4,Hw2.o];exact Fe w1 (pb+1) _ _ Qo) (Or.inr rfl) B3 (w5:=w4) (g2:=w3.heap.size) (len2:=1) (cap2:=1) (by rw[hw4];exact OJ _ _ _) (by rw[p1.l5,hw4,hKF];exact Fe w3 (pb+1) _ _ hbs3) (Or.inr rfl);have h1:=this.1;rw[p1.l4,p1.l5,<-hKF]at h1;exact h1
 have B4:Bl w w4:=HPM.o.b;have HN:Hid (Cp 52 #[pT gb] w4 λe w''=>e=.returned (.slice (some (a_ w4.heap.size 0)) (P+R) (P+R))/\TC w4.heap.size (bl (em P Ve) (P+R)) w''/\Bl w4 w''/\w4.heap.size+1<=w''.heap.size):=HNo.o w4 B4;clear HK B3 hKF hw4 B4 HNo H1;go_wp2_with fail;rw[<-Hw4.o];apply HN.o.mono;rintro e w5 ⟨rfl,T5,B5,s5⟩;have HK5:Hid (Cp 56 #[.slice (some (a_ w4.heap.size 0)) (P+R) (P+R)] w5 λe w'=>e=.returned (.string (Wi (em P Ve) (P+R)))/\Bl w5 w'):=J0 _ (P+R) _ _ w5 Qo (Bh T5);have HPM5:Hid (PM pb (pb+1) P R E [X6 es R] 0 0 (QV [X6 es R]) (Mg E []) (Yj (λ_=>0) 0 sb) (λ_=>0) (Yj (Yj vs 4 (.slice (some (a_ w1.heap.size 0)) 1 1)) 5 (.slice (some (a_ w3.heap.size 0)) 1 1)) (Yj (Yj ls 4 ([]++[sL sb (P+R) (P+R)])) 5 ([]++[.string KF])) (λk=>False\/k=sb) w w5):=HPM.o.below B5;clear HN T5 B5 HPM s5;go_wp2_with fail;apply HK5.o.mono;rintro e w6 ⟨rfl,B6⟩;obtain⟨KE,hKE⟩:∃KE,KE=Wi (em P Ve) (P+R):=⟨_,rfl⟩;rw[<-hKE];have HKE:Hid (KE=Wi (em P Ve) (P+R)):=hKE;have HPM6:Hid (PM pb (pb+1) P R E [X6 es R] 0 0 (QV [X6 es R]) (Mg E []) (Yj (λ_=>0) 0 sb) (λ_=>0) (Yj (Yj vs 4 (.slice (some (a_ w1.heap.size 0)) 1 1)) 5 (.slice (some (a_ w3.heap.size 0)) 1 1)) (Yj (Yj ls 4 ([]++[sL sb (P+R) (P+R)])) 5 ([]++[.string KF])) (λk=>False\/k=sb) w w6):=HPM5.o.below B6;clear HK5 B6 HPM5 hKE;go_wp2_with fail
 go_loopw [9,11,13] (λav kv x w'=>∃(s n:Nat) (l:List (N_)) (t:List Int) (vs:Nat->Value) (ls:Nat->List Value) (X:Nat->Prop) (sk tk:Nat->Nat) (a4 c4 k5 c5:Nat),s<=n/\n<=200/\x=I6 s/\av=sL a4 n c4/\kv=sL k5 n c5/\Hid (vs 4=sL a4 n c4/\vs 5=sL k5 n c5/\vs 3=.slice ta 256 tc)/\Ob es R P E s n l t/\PM pb (pb+1) P R E l s s (QV l) (Mg E t) sk tk vs ls X w w') (λ_ _ x _=>201-(intOf x).toNat)
 .exact⟨0,1,[X6 es R],[],_,_,_,_,_,w1.heap.size,1,w3.heap.size,1,Qo,Qo,rfl,rfl,rfl,⟨by rw[Y5 _ _ Qo,Y1],by rw[Y1],by rw[Y5 _ _ Qo,Y5 _ _ Qo];exact H3⟩,⟨rfl,λg hg=>by rw[ZC.1 hg];exact HS0,WU.first⟩,HPM6⟩
 clear HPM6;obtain⟨s,n,l,t,vs,ls,X,sk,tk,a4,c4,k5,c5,hs,hn,rfl,rfl,rfl,Hv,OB,PMs⟩:=hrel;by_cases hlt2:s<n
 .have hlt2':(s:Int)<n:=Qo
  have hsl:s<l.length:=by rw[<-OB.ln];exact hlt2
  obtain⟨g,hg⟩:∃g,l[s]?=some g:=⟨_,Zd hsl⟩;have hgd:l.getD s Ve=g:=by rw[Zf,hg];rfl
  have ca:=PMs.allAt Hv.o.1 hsl;have hbr:=PMs.st s hsl wr (Wk.refl _ _) (Zg _);rw[hgd]at hbr;have HV:Hid (Cp 57 #[pT gb,.slice (some (a_ (sk s) 0)) (P+R) (P+R)] wr λe w''=>e=.returned (I6 (QV l s))/\w''=wr):=by
   have:=HVd.o wr _ (P+R) g PMs.b (OB.su g (dI hg)) hbr;unfold QV;rw[hgd];exact this
  obtain⟨sks,hsks⟩:∃sks,sks=sk s:=⟨_,rfl⟩;rw[<-hsks]at ca HV;obtain⟨vv,hvv⟩:∃vv,vv=QV l s:=⟨_,rfl⟩;rw[<-hvv]at HV;obtain⟨a0,c0,e0,_⟩:=(PMs.q.o 0 Qo).form;rw[PMs.l0,Zy,gj]at e0;have hc0:=(PMs.q.cell (i:=0) Qo).1;rw[e0]at hc0;have hx0:=box_bel wr (.cells #[I6 vv] 3);have PM0:=PMs.below hx0;have hO0:=PM0.q.o 0 Qo;rw[e0,PM0.l0]at hO0;have hnw:(wr.alloc (.cells #[I6 vv] 3)).cell? (a_ wr.heap.size 0)=some (I6 vv):=by rw[Zm];rfl
  have hbs:pb+1<=(wr.alloc (.cells #[I6 vv] 3)).heap.size:=by have:=hx0.size;have:=PMs.q.lt Qo;omega
  have Hl0:Hid (((List.range s).map λi=>Value.int .i64 (QV l i)).length=s):=by show _=_;simp
  have He0:Hid (vs 0=.slice a0 s c0):=e0;have HPM0:Hid (PM pb (pb+1) P R E l s s (QV l) (Mg E t) sk tk vs ls X w (wr.alloc (.cells #[I6 vv] 3))):=PM0;have HOB:Hid (Ob es R P E s n l t/\l[s]?=some g/\vv=QV l s):=⟨OB,hg,hvv⟩;have hs200:s<200:=Qo
  have HtL:Hid (t.length=s*(reps E 256).length):=by show _=_;have:=OB.ex.size.2.2.1;omega
  clear PMs PM0 hx0 e0 OB hg hgd hbr hvv hsks;go_wp2_with fail;apply HV.o.mono;rintro e w1 ⟨rfl,rfl⟩;clear HV ca;go_wp2_with (first|(with_reducible show wpList _ _ _ (⟨_,Op.call { callee:=Callee.builtin Builtin.append,args:=_,argTypes:=_ },_,_,_,_⟩::_) _ _;refine Ya.out ?_));refine⟨?_⟩;refine YK 23 3 u_e WP rfl Qo Qr _ _ Qr (pb+1) (.slice a0 s c0) _ Qr hO0 (by rw[Hl0.o];omega) w1.heap.size (I6 vv) rfl Qr hnw hbs _ rfl ?_;rw[Hl0.o];intro g0 cap0 w5 hO5 hgrow hgb5 _;have hc5:w5.cell? (a_ pb 0)=some (.slice a0 s c0)/\w5.frozen? (a_ pb 0)=false:=by
   have:=(HPM0.o.q.c.block (hgrow.block pb (HPM0.o.q.lt Qo) (λe=>by have:=((HPM0.o.q.o 0 Qo).lt pb (by rw[He0.o];exact e.symm)).1;omega))) 0 (vs 0) rfl;rw[He0.o]at this;exact this
  obtain⟨hc5a,hc5b⟩:=hc5;have PM6:=HPM0.o.addV (g:=g0) (len:=s+1) (cap:=cap0) (x:=vv) (by rw[He0.o];exact hgrow) (by rw[HPM0.o.l0];exact hO5) (by rw[He0.o];exact hgb5) HOB.o.2.2.symm;obtain⟨w6,h6⟩:∃w6,w6=w5.setCell (a_ pb 0) (sL g0 (s+1) cap0):=⟨_,rfl⟩;have H6:Hid (w6=w5.setCell (a_ pb 0) (sL g0 (s+1) cap0)):=h6;rw[<-h6]at PM6;have hmk:(Instr.makeSlice 23 (I6 256) (I6 256)).run prog w6=.ok (.slice (some (a_ w6.heap.size 0)) 256 256) (w6.alloc (.cells (XF 256).toArray 3)):=Vw w6 256 Qo;have hb7:=box_bel w6 (.cells (XF 256).toArray 3);obtain⟨tob,htob⟩:∃tob,tob=w6.heap.size:=⟨_,rfl⟩;have PM7:=PM6.below hb7;have TO7:TO pb tob (inl (λ_=>0) 256) (Yj vs 0 (sL g0 (s+1) cap0)) X w (w6.alloc (.cells (XF 256).toArray 3)):=by
   refine⟨?_,by rw[htob];simp,λj hj e=>?_,⟨λe=>?_,?_⟩,by rw[htob];exact PM6.b.size⟩
   .rw[htob];exact TC.boxed w6 (XF 256) 3
   .have:=((PM6.q.o j hj).lt tob e).2;omega
   .have:=(PM6.q.x tob e).1;omega
   have:=PM6.q.lt Qo;omega
  have H7:Hid (PM pb (pb+1) P R E l (s+1) s (QV l) (Mg E t) sk tk (Yj vs 0 (sL g0 (s+1) cap0)) (Yj ls 0 (ls 0++[I6 vv])) X w (w6.alloc (.cells (XF 256).toArray 3))/\TO pb tob (inl (λ_=>0) 256) (Yj vs 0 (sL g0 (s+1) cap0)) X w (w6.alloc (.cells (XF 256).toArray 3))):=⟨PM7,TO7⟩;have Hto:Hid (tob=w6.heap.size):=htob;clear PM6 PM7 TO7 hb7 h6 hO5 hgrow hgb5 hO0 hnw hbs htob HPM0;go_wp2_with (first|(with_reducible show wpList _ _ _ (⟨_,Op.makeSlice 23 _ _,_,_,_,_⟩::_) _ _;refine Ya.out ?_));refine⟨?_⟩;rw[<-H6.o];clear hc5a hc5b hc0;go_wp2_with fail;clear hmk;rw[<-Hto.o]
  go_loopw [9,11,16] (λav kv x w'=>∃(b n:Nat) (l:List (N_)) (vs:Nat->Value) (ls:Nat->List Value) (X:Nat->Prop) (sk:Nat->Nat) (a4 c4 k5 c5:Nat) (to:Nat->Int),b<=256/\n<=1000/\x=I6 b/\av=sL a4 n c4/\kv=sL k5 n c5/\Hid (vs 4=sL a4 n c4/\vs 5=sL k5 n c5/\vs 3=.slice ta 256 tc)/\Ib es R P E s t b n l g to/\PM pb (pb+1) P R E l (s+1) s (QV l) (Mg E t) sk tk vs ls X w w'/\TO pb tob (inl to 256) vs X w w') (λ_ _ x _=>256-(intOf x).toNat)
  .exact⟨0,n,l,_,_,X,sk,a4,c4,k5,c5,_,Qo,Qo,rfl,rfl,rfl,⟨by rw[Y5 _ _ Qo];exact Hv.o.1,by rw[Y5 _ _ Qo];exact Hv.o.2.1,by rw[Y5 _ _ Qo];exact Hv.o.2.2⟩,⟨HOB.o.1.ln,Qo,HOB.o.1.su,hlt2,HOB.o.2.1,Gh.first HOB.o.1.ex _⟩,H7.o.1,H7.o.2⟩
  clear H7 Hv HOB hlt2 hlt2' hsl;obtain⟨b,n,l,vs,ls,X,sk,a4,c4,k5,c5,to,hb,hn,rfl,rfl,rfl,Hv,IB,PMi,TOi⟩:=hrel;by_cases hbl:b<256
  .have hbl':(b:Int)<256:=Qo
   obtain⟨a3,ea3,ct⟩:=PMi.twinAt Hv.o.2.2 hbl;subst ea3;obtain⟨tw,htw⟩:∃tw,tw=least E b:=⟨_,rfl⟩;rw[<-htw]at ct;have htwb:tw<=b:=by rw[htw];exact least_le E b
   obtain⟨tbc,tbf⟩:=TOi.x b _ (Xf _ hbl);by_cases htl:tw<b
   .have htl':(tw:Int)<b:=Qo
    obtain⟨ttc,_⟩:=TOi.x tw _ (Xf _ (show tw<256 by omega));obtain⟨tv,htv⟩:∃tv,tv=to tw:=⟨_,rfl⟩;rw[<-htv]at ttc;have HG:Hid (Ib es R P E s t (b+1) n l g (λc=>if c=b then to (least E b) else to c)):=⟨IB.ln,by have:=IB.mx;omega,IB.su,IB.lt,IB.at_,Gh.copy HEv.o.1 IB.gh hbl (by rw[<-htw];exact htl)⟩;have TO8:=TOi.put (k:=b) (by rw[Xr];exact hbl) (I6 tv);rw[WA,htv,htw]at TO8;have HT8:Hid (PM pb (pb+1) P R E l (s+1) s (QV l) (Mg E t) sk tk vs ls X w (wr.setCell (a_ tob b) (I6 tv))/\TO pb tob (inl (λc=>if c=b then to (least E b) else to c) 256) vs X w (wr.setCell (a_ tob b) (I6 tv))):=⟨PMi.put TOi b _,by rw[htv,htw];exact TO8⟩;clear PMi TOi TO8 IB htw htv;go_wp2_with fail;go_roundw
    .exact⟨b+1,n,l,vs,ls,X,sk,a4,c4,k5,c5,_,Qo,hn,Qg,rfl,rfl,Hv,HG,HT8.o.1,HT8.o.2⟩
    simp[intOf];omega
   have htl':¬(tw:Int)<b:=Qo
   have htb:tw=b:=Qo
   have hlb:least E b=b:=by rw[<-htw];exact htb
   have hsl:s<l.length:=by rw[<-IB.ln];exact IB.lt
   have ca:=PMi.allAt Hv.o.1 hsl;have hgd:l.getD s Ve=g:=by rw[Zf,IB.at_];rfl
   have hbr:=PMi.st s hsl wr (Wk.refl _ _) (Zg _);rw[hgd]at hbr;have hsn':(s:Int)<n:=by have:=IB.lt;omega
   obtain⟨sks,hsks⟩:∃sks,sks=sk s:=⟨_,rfl⟩;rw[<-hsks]at ca hbr;obtain⟨m,hm⟩:∃m,m=Wh es R g b:=⟨_,rfl⟩;have HM:Hid (Cp 58 #[pT gb,sL sks (P+R) (P+R),I6 b] wr λe w''=>e=.returned (.slice (some (a_ wr.heap.size 0)) (P+R) (P+R))/\TC wr.heap.size (bl (em P m) (P+R)) w''/\Bl wr w''/\wr.heap.size+1<=w''.heap.size):=by rw[hm];exact HMv wr _ (P+R) g b PMi.b hbl hbr
   have Hm:Hid (m=Wh es R g b/\G9 P R m):=⟨hm,by rw[hm];exact HSn g b⟩;have HGh:Hid (Gh (Wh es R) (X6 es R) E s t (b+1) (WK l m) (λc=>if c=b then Xp l m else to c)):=by rw[hm];exact Gh.step HEv.o.1 IB.gh hbl hlb IB.at_
   have HIB:Hid (Ib es R P E s t b n l g to):=IB;have HPT:Hid (PM pb (pb+1) P R E l (s+1) s (QV l) (Mg E t) sk tk vs ls X w wr/\TO pb tob (inl to 256) vs X w wr):=⟨PMi,TOi⟩;clear PMi TOi IB hgd hbr hsks hm htw hsl;go_wp2_with fail;apply HM.o.mono;rintro e w1 ⟨rfl,T1,B1,s1⟩;obtain⟨mb,hmb⟩:∃mb,mb=wr.heap.size:=⟨_,rfl⟩;rw[<-hmb]at T1 s1 ⊢;obtain⟨km,hkm⟩:∃km,km=Wi (em P m) (P+R):=⟨_,rfl⟩;have HK:Hid (Cp 56 #[sL mb (P+R) (P+R)] w1 λe w'=>e=.returned (.string km)/\Bl w1 w'):=by rw[hkm];exact J0 _ (P+R) _ _ w1 Qo (Bh T1)
   have H1:Hid (PM pb (pb+1) P R E l (s+1) s (QV l) (Mg E t) sk tk vs ls X w w1/\TO pb tob (inl to 256) vs X w w1/\TC mb (bl (em P m) (P+R)) w1/\mb<w1.heap.size/\(mb≠pb/\∀j,j<6->(vs j).ownBlock≠some mb)/\mb≠tob):=by
    obtain⟨x1,x2⟩:=HPT.o;refine⟨x1.below B1,x2.below B1,T1,Qo,⟨by have:=x1.q.lt Qo;omega,λj hj e=>by have:=((x1.q.o j hj).lt mb e).2;omega⟩,by have:=x2.l;omega⟩
   have Hkm:Hid (km=Wi (em P m) (P+R)):=hkm;clear HM T1 B1 hmb hkm ca HPT tbc tbf ct;go_wp2_with fail;apply HK.o.mono;rintro e w2 ⟨rfl,B2⟩;have H2:Hid (PM pb (pb+1) P R E l (s+1) s (QV l) (Mg E t) sk tk vs ls X w w2/\TO pb tob (inl to 256) vs X w w2/\TC mb (bl (em P m) (P+R)) w2/\mb<w2.heap.size/\(mb≠pb/\∀j,j<6->(vs j).ownBlock≠some mb)/\mb≠tob):=by
    obtain⟨x1,x2,x3,x4,x5,x6⟩:=H1.o;exact⟨x1.below B2,x2.below B2,x3.block (B2.block mb x4),by have:=B2.size;omega,x5,x6⟩
   clear HK B2 H1;obtain⟨tbc,tbf⟩:=H2.o.2.1.x b _ (Xf _ hbl);obtain⟨w3,hw3⟩:∃w3,w3=w2.setCell (a_ tob b) (I6 (-1)):=⟨_,rfl⟩;have Hw3:Hid (w3=w2.setCell (a_ tob b) (I6 (-1))):=hw3;have H3':Hid (PM pb (pb+1) P R E l (s+1) s (QV l) (Mg E t) sk tk vs ls X w w3/\TO pb tob (inl (λc=>if c=b then -1 else to c) 256) vs X w w3/\TC mb (bl (em P m) (P+R)) w3/\mb<w3.heap.size/\(mb≠pb/\∀j,j<6->(vs j).ownBlock≠some mb)/\mb≠tob):=by
    obtain⟨x1,x2,x3,x4,x5,x6⟩:=H2.o;rw[hw3];refine⟨x1.put x2 b _,?_,x3.block (Zq w2 (a_ tob b) _ mb (λe=>x6 e)),by rw[Zz];exact x4,x5,x6⟩;have:=x2.put (k:=b) (by rw[Xr];exact hbl) (I6 (-1));rw[WA]at this;exact this
   clear H2 hw3;by_cases hsame:Yq m Ve 104=true
   .have hkk:km=KE:=by rw[Hkm.o,HKE.o];exact(Qn Hee.o.2 h8 Hm.o.2 (NK P R)).2 hsame
    have qk:(km.toList==KE.toList)=true:=by rw[hkk];simp
    have hnr:Xp l m=-1:=by unfold Xp;rw[dF hsame]
    have hnl:WK l m=l:=by unfold WK;rw[dF hsame]
    rw[hnr,hnl]at HGh;have HG:Hid (Ib es R P E s t (b+1) n l g (λc=>if c=b then -1 else to c)):=⟨HIB.o.ln,by have:=HIB.o.mx;omega,HIB.o.su,HIB.o.lt,HIB.o.at_,HGh.o⟩;clear hkk hnr hnl hsame;go_wp2_with fail;rw[<-Hw3.o];go_roundw
    .exact⟨b+1,n,l,vs,ls,X,sk,a4,c4,k5,c5,_,Qo,hn,Qg,rfl,rfl,Hv,HG,H3'.o.1,H3'.o.2.1⟩
    simp[intOf];omega
   have hsf:Yq m Ve 104=false:=by simpa using hsame
   have hkk:¬km.toList=KE.toList:=λe=>hsame (by
    rw[fS,fS]at e;have e2:km=KE:=ByteArray.ext (Array.toList_inj.1 e);rw[Hkm.o,HKE.o]at e2;exact(Qn Hee.o.2 h8 Hm.o.2 (NK P R)).1 e2)
   have qk:(km.toList==KE.toList)=false:=dU.2 hkk;obtain⟨fv,hfv⟩:∃fv,fv=JX (λi=>Wi (em P (l.getD i Ve)) (P+R)) km l.length:=⟨_,rfl⟩;have HF:Hid (Cp 59 #[sL k5 n c5,.string km] w3 λe w'=>e=.returned (I6 fv)/\w'=w3):=by
    have:=Bx k5 0 c5 l.length (λi=>Wi (em P (l.getD i Ve)) (P+R)) km w3 (by have:=HIB.o.ln;omega) (H3'.o.1.keysAt Hv.o.2.1);rw[hfv];rw[HIB.o.ln];exact this
   have hfn:=By Hee.o.2 h8 Hm.o.2 HIB.o.su hsf;rw[<-Hkm.o,<-hfv]at hfn;obtain⟨tbc3,tbf3⟩:=H3'.o.2.1.x b _ (Xf _ hbl);clear hsame hsf hkk hfv;rcases hfn with ⟨f1,f2,f3⟩|⟨f1,f2,f3⟩
   .have hge0:¬fv<0:=by
     rw[f2];have hne:-1<=Xp l m:=Kb l m;intro hlt0;have he1:Xp l m=-1:=Qo
     rw[he1]at f2;unfold Xp at he1;split at he1
     .rename_i hh;have:Yq m Ve 104=true:=hh;exact absurd qk (by
       have e2:km=KE:=by rw[Hkm.o,HKE.o];exact(Qn Hee.o.2 h8 Hm.o.2 (NK P R)).2 this
       rw[e2];simp)
     omega
    rw[f3]at HGh;rw[<-f2]at HGh;have HG:Hid (Ib es R P E s t (b+1) n l g (λc=>if c=b then fv else to c)):=⟨HIB.o.ln,by have:=HIB.o.mx;omega,HIB.o.su,HIB.o.lt,HIB.o.at_,HGh⟩;have H4:Hid (PM pb (pb+1) P R E l (s+1) s (QV l) (Mg E t) sk tk vs ls X w (w3.setCell (a_ tob b) (I6 fv))/\TO pb tob (inl (λc=>if c=b then fv else to c) 256) vs X w (w3.setCell (a_ tob b) (I6 fv))):=by
     refine⟨H3'.o.1.put H3'.o.2.1 b _,?_⟩;have:=H3'.o.2.1.put (k:=b) (by rw[Xr];exact hbl) (I6 fv);rw[WA,Yn (g:=λc=>if c=b then fv else to c) (λc _=>by by_cases e:c=b<;>simp[e])]at this;exact this
    clear f1 f2 f3 HGh;go_wp2_with fail;rw[<-Hw3.o];apply HF.o.mono;rintro e w4 ⟨rfl,rfl⟩;go_wp2_with fail;go_roundw
    .exact⟨b+1,n,l,vs,ls,X,sk,a4,c4,k5,c5,_,Qo,hn,Qg,rfl,rfl,Hv,HG,H4.o.1,H4.o.2⟩
    simp[intOf];omega
   subst f2;have hlt0:(-1:Int)<0:=Qo
   rw[f3,f1,<-HIB.o.ln]at HGh;have HG:Hid (Ib es R P E s t (b+1) (n+1) (l++[m]) g (λc=>if c=b then (n:Int) else to c)):=⟨by rw[Zl,HIB.o.ln];rfl,by have:=HIB.o.mx;omega,λh hh=>by
    rcases ZU.1 hh with hh|hh
    .exact HIB.o.su h hh
    rw[ZC.1 hh];exact Hm.o.2,by have:=HIB.o.lt;omega,by rw[Zv (by have:=HIB.o.lt;have:=HIB.o.ln;omega)];exact HIB.o.at_,HGh.o⟩
   obtain⟨w5,hw5⟩:∃w5,w5=(w3.setCell (a_ tob b) (I6 (-1))).setCell (a_ tob b) (I6 (n:Int)):=⟨_,rfl⟩;have Hw5:Hid (w5=(w3.setCell (a_ tob b) (I6 (-1))).setCell (a_ tob b) (I6 (n:Int))):=hw5;have H5:Hid (PM pb (pb+1) P R E l (s+1) s (QV l) (Mg E t) sk tk vs ls X w w5/\TO pb tob (inl (λc=>if c=b then (n:Int) else to c) 256) vs X w w5/\TC mb (bl (em P m) (P+R)) w5/\mb<w5.heap.size/\(mb≠pb/\∀j,j<6->(vs j).ownBlock≠some mb)/\mb≠tob):=by
    obtain⟨x1,x2,x3,x4,x5,x6⟩:=H3'.o;have y1:=x1.put x2 b (I6 (-1));have y2:=x2.put (k:=b) (by rw[Xr];exact hbl) (I6 (-1));have z1:=y1.put y2 b (I6 (n:Int));have z2:=y2.put (k:=b) (by rw[List.length_set,Xr];exact hbl) (I6 (n:Int));rw[<-hw5]at z1 z2;rw[WA,WA,Yn (g:=λc=>if c=b then (n:Int) else to c) (λc _=>by by_cases e:c=b<;>simp[e])]at z2;have hbk:w5.heap[mb]?=w3.heap[mb]?:=by
     rw[hw5,Zq _ (a_ tob b) _ mb (λe=>x6 e),Zq w3 (a_ tob b) _ mb (λe=>x6 e)]
    exact⟨z1,z2,x3.block hbk,by rw[hw5,Zz,Zz];exact x4,x5,x6⟩
   have hx5:=box_bel w5 (.cells #[sL mb (P+R) (P+R)] 78);have PM5:=H5.o.1.below hx5;have hO4:=PM5.q.o 4 Qo;rw[Hv.o.1,PM5.l4]at hO4;have hnw:(w5.alloc (.cells #[sL mb (P+R) (P+R)] 78)).cell? (a_ w5.heap.size 0)=some (sL mb (P+R) (P+R)):=by rw[Zm];rfl
   have hbs:pb+1<=(w5.alloc (.cells #[sL mb (P+R) (P+R)] 78)).heap.size:=by have:=hx5.size;have:=H5.o.1.q.lt Qo;omega
   have Hl4:Hid (((List.range l.length).map λi=>Value.slice (some (a_ (sk i) 0)) (P+R) (P+R)).length=n):=by show _=_;rw[HIB.o.ln];simp
   have Hl5:Hid (((List.range l.length).map λi=>Value.string (Wi (em P (l.getD i Ve)) (P+R))).length=n):=by show _=_;rw[HIB.o.ln];simp
   have HPM5:Hid (PM pb (pb+1) P R E l (s+1) s (QV l) (Mg E t) sk tk vs ls X w (w5.alloc (.cells #[sL mb (P+R) (P+R)] 78))/\TO pb tob (inl (λc=>if c=b then (n:Int) else to c) 256) vs X w (w5.alloc (.cells #[sL mb (P+R) (P+R)] 78))/\TC mb (bl (em P m) (P+R)) (w5.alloc (.cells #[sL mb (P+R) (P+R)] 78))/\mb<(w5.alloc (.cells #[sL mb (P+R) (P+R)] 78)).heap.size):=⟨PM5,H5.o.2.1.below hx5,H5.o.2.2.1.block (hx5.block mb H5.o.2.2.2.1),by have:=hx5.size;have:=H5.o.2.2.2.1;omega⟩;have hn':(n:Int)<=1000:=Qo
   clear PM5 hx5 f1 f3 HGh hw5;go_wp2_with fail;rw[<-Hw3.o];apply HF.o.mono;rintro e w4 ⟨rfl,rfl⟩;clear HF;have hsz5:w5.heap.size=w4.heap.size:=by rw[Hw5.o,Zz,Zz]
   rw[hsz5]at hnw;go_wp2_with (first|(with_reducible show wpList _ _ _ (⟨_,Op.call { callee:=Callee.builtin Builtin.append,args:=_,argTypes:=_ },_,_,_,_⟩::_) _ _;refine Ya.out ?_));refine⟨?_⟩;rw[<-Hw5.o];refine YK 74 78 u_r PA rfl Qo Qr _ _ Qr (pb+1) (sL a4 n c4) _ Qr hO4 (by rw[Hl4.o];omega) w4.heap.size (sL mb (P+R) (P+R)) rfl Qr hnw hbs _ rfl ?_;rw[Hl4.o];intro g4 cap4 w8 hO8 hgrow8 hgb8 _;have hO8':WO (pb+1) (Ds 4) (sL g4 (n+1) cap4) (ls 4++[sL mb (P+R) (P+R)]) w8:=by rw[HPM5.o.1.l4];exact hO8
   obtain⟨Q8,_,s8,_⟩:=HPM5.o.1.q.appN (i:=4) Qo Qo Qo (by rw[Hv.o.1];exact hgrow8) hO8' (by rw[Hv.o.1];exact hgb8);have hx8:=box_bel w8 (.cells #[.string km] 9);have Q9:=Q8.below Qo hx8;have hO5:=Q9.o 5 Qo;rw[Y5 _ _ Qo,Y5 _ _ Qo,Hv.o.2.1,HPM5.o.1.l5]at hO5;have hnw8:(w8.alloc (.cells #[.string km] 9)).cell? (a_ w8.heap.size 0)=some (.string km):=by rw[Zm];rfl
   have hbs8:pb+1<=(w8.alloc (.cells #[.string km] 9)).heap.size:=by have:=hx8.size;have:=Q8.lt Qo;omega
   have H8:Hid ((w5.alloc (.cells #[sL mb (P+R) (P+R)] 78)).grownBy w8 (sL a4 n c4).ownBlock/\WO (pb+1) (Ds 4) (sL g4 (n+1) cap4) (ls 4++[sL mb (P+R) (P+R)]) w8/\((sL a4 n c4).ownBlock=some g4\/g4=(w5.alloc (.cells #[sL mb (P+R) (P+R)] 78)).heap.size)/\Bl w8 (w8.alloc (.cells #[.string km] 9))):=⟨hgrow8,hO8',hgb8,hx8⟩;clear Q8 Q9 s8 hO8 hO8' hgrow8 hgb8 hO4 hnw hbs hx8;go_wp2_with (first|(with_reducible show wpList _ _ _ (⟨_,Op.call { callee:=Callee.builtin Builtin.append,args:=_,argTypes:=_ },_,_,_,_⟩::_) _ _;refine Ya.out ?_));refine⟨?_⟩;refine YK 22 9 u_p D3 rfl Qo Qr _ _ Qr (pb+1) (sL k5 n c5) _ Qr hO5 (by rw[Hl5.o];omega) w8.heap.size (.string km) rfl Qr hnw8 hbs8 _ rfl ?_;rw[Hl5.o];intro g5 cap5 w10 hO10 hgrow10 hgb10 _;have HX:Hid (PM pb (pb+1) P R E (l++[m]) (s+1) s (QV (l++[m])) (Mg E t) (Yj sk l.length mb) tk (Yj (Yj vs 4 (sL g4 (n+1) cap4)) 5 (sL g5 (n+1) cap5)) (Yj (Yj ls 4 (ls 4++[sL mb (P+R) (P+R)])) 5 (ls 5++[.string (Wi (em P m) (P+R))])) (λk=>X k\/k=mb) w w10/\TO pb tob (inl (λc=>if c=b then (n:Int) else to c) 256) (Yj (Yj vs 4 (sL g4 (n+1) cap4)) 5 (sL g5 (n+1) cap5)) (λk=>X k\/k=mb) w w10):=by
    obtain⟨y1,y2,y3,y4⟩:=HPM5.o;obtain⟨z1,z2,z3,z4⟩:=H8.o;obtain⟨p1,p2,p3,p4⟩:=y1.addS (m:=m) (mb:=mb) y3 y4 H5.o.2.2.2.2.1 (by rw[Hv.o.1];exact z1) z2 (by rw[Hv.o.1];exact z3) z4 (by rw[Hv.o.2.1];exact hgrow10) (by rw[y1.l5,<-Hkm.o];exact hO10) (by rw[Hv.o.2.1];exact hgb10);refine⟨p1.congr (λi hi=>(AG (by have:=HIB.o.lt;have:=HIB.o.ln;omega) m).symm) (λ_ _ _ _=>rfl),?_⟩;refine⟨y2.x.block (p2 tob y2.l y2.n.2 (y2.d 4 Qo) (y2.d 5 Qo)),by have:=y2.l;omega,p4 tob y2.l y2.d,⟨λe=>?_,y2.n.2⟩,y2.s⟩;rcases e with e|e
    .exact y2.n.1 e
    exact H5.o.2.2.2.2.2 e.symm
   clear hO10 hgrow10 hgb10 hO5 hnw8 hbs8 H8 HPM5 H5 H3';go_wp2_with fail;go_roundw
   .exact⟨b+1,n+1,l++[m],_,_,_,_,g4,cap4,g5,cap5,_,Qo,by have:=HG.o.mx;omega,Qg,rfl,rfl,⟨by rw[Y5 _ _ Qo,Y1],by rw[Y1],by rw[Y5 _ _ Qo,Y5 _ _ Qo];exact Hv.o.2.2⟩,HG,HX.o.1,HX.o.2⟩
   simp[intOf];omega
  have hge3:¬(b:Int)<256:=Qo
  have hb2:b=256:=Qo
  subst hb2;obtain⟨a1,c1,e1,_⟩:=(PMi.q.o 1 Qo).form;rw[PMi.l1,Zy,gj]at e1;have hc1:=(PMi.q.cell (i:=1) Qo).1;rw[e1]at hc1;have hx1:=box_bel wr (.cells #[sL tob 256 256] 23);have PM1:=(PMi.congr (vd':=QV l) (rw':=λi c=>if i=s then to c else Mg E t i c) (λ_ _=>rfl) (λi c hi _=>by rw[g_])).below hx1;have TO1:=TOi.below hx1;have hO1:=PM1.q.o 1 Qo;rw[e1,PM1.l1]at hO1;have hnw:(wr.alloc (.cells #[sL tob 256 256] 23)).cell? (a_ wr.heap.size 0)=some (sL tob 256 256):=by rw[Zm];rfl
  have hbs:pb+1<=(wr.alloc (.cells #[sL tob 256 256] 23)).heap.size:=by have:=hx1.size;have:=PMi.q.lt Qo;omega
  have Hl1:Hid (((List.range s).map λi=>Value.slice (some (a_ (tk i) 0)) 256 256).length=s):=by show _=_;simp
  have He1:Hid (vs 1=.slice a1 s c1):=e1;have HPM1:Hid (PM pb (pb+1) P R E l (s+1) s (QV l) (λi c=>if i=s then to c else Mg E t i c) sk tk vs ls X w (wr.alloc (.cells #[sL tob 256 256] 23))/\TO pb tob (inl to 256) vs X w (wr.alloc (.cells #[sL tob 256 256] 23))):=⟨PM1,TO1⟩;have HIB:Hid (Ib es R P E s t 256 n l g to):=IB;have hn':(n:Int)<=1000:=Qo
  clear PMi TOi PM1 TO1 hx1 e1 IB;go_wp2_with (first|(with_reducible show wpList _ _ _ (⟨_,Op.call { callee:=Callee.builtin Builtin.append,args:=_,argTypes:=_ },_,_,_,_⟩::_) _ _;refine Ya.out ?_));refine⟨?_⟩;refine YK 53 23 u_t PB rfl Qo Qr _ _ Qr (pb+1) (.slice a1 s c1) _ Qr hO1 (by rw[Hl1.o];omega) wr.heap.size (sL tob 256 256) rfl Qr hnw hbs _ rfl ?_;rw[Hl1.o];intro g1 cap1 w5 hO5 hgrow hgb5 _;have hc5:w5.cell? (a_ pb 1)=some (.slice a1 s c1)/\w5.frozen? (a_ pb 1)=false:=by
   have:=(HPM1.o.1.q.c.block (hgrow.block pb (HPM1.o.1.q.lt Qo) (λe=>by have:=((HPM1.o.1.q.o 1 Qo).lt pb (by rw[He1.o];exact e.symm)).1;omega))) 1 (vs 1) rfl;rw[He1.o]at this;exact this
  obtain⟨hc5a,hc5b⟩:=hc5;have PM6:=HPM1.o.1.addR (tob:=tob) (f:=to) HPM1.o.2 (g:=g1) (len:=s+1) (cap:=cap1) (by rw[He1.o];exact hgrow) (by rw[HPM1.o.1.l1];exact hO5) (by rw[He1.o];exact hgb5) (λc _=>by rw[dF rfl]);have HPM6:Hid (PM pb (pb+1) P R E l (s+1) (s+1) (QV l) (λi c=>if i=s then to c else Mg E t i c) sk (Yj tk s tob) (Yj vs 1 (sL g1 (s+1) cap1)) (Yj ls 1 (ls 1++[sL tob 256 256])) (λk=>X k\/k=tob) w (w5.setCell (a_ pb 1) (sL g1 (s+1) cap1))):=PM6;clear PM6 hO5 hgrow hgb5 hO1 hnw hbs HPM1 hc1;rcases Gh.last HIB.o.gh (by have:=HIB.o.lt;have:=HIB.o.ln;omega)with ⟨g1',g2'⟩|⟨g1',t',g2',⟨u,g3'⟩,g4'⟩
  .have hbig:(200:Int)<n:=by have:=HIB.o.ln;omega
   have HR:Hid (Mm es R w (.returned (.tuple #[.pointer none,.bool false])) (w5.setCell (a_ pb 1) (sL g1 (s+1) cap1))):=by
    refine⟨HPM6.o.b,Or.inl ⟨rfl,?_⟩⟩;rw[HEv.o.2];exact g2'
   clear HPM6 g1' g2';go_wp2_with fail;go_ret2;exact HR.o
  have hsm:¬(200:Int)<n:=by have:=HIB.o.ln;omega
  have hn200:n<=200:=Qo
  have HOBn:Hid (Ob es R P E (s+1) n l t'):=⟨HIB.o.ln,HIB.o.su,g2'⟩;have HPM7:Hid (PM pb (pb+1) P R E l (s+1) (s+1) (QV l) (Mg E t') sk (Yj tk s tob) (Yj vs 1 (sL g1 (s+1) cap1)) (Yj ls 1 (ls 1++[sL tob 256 256])) (λk=>X k\/k=tob) w (w5.setCell (a_ pb 1) (sL g1 (s+1) cap1))):=by
   refine HPM6.o.congr (λ_ _=>rfl) (λi c hi hc=>?_);by_cases e:i=s
   .subst e;rw[dF rfl];exact g4' c hc
   rw[dG e];unfold Mg;have h1:=idx_lt HEv.o.1 hc;have h2:(i+1)*(reps E 256).length<=s*(reps E 256).length:=ZQ _ Qo;rw[du]at h2;have h3:=HtL.o;have h4:cnt E 256=(reps E 256).length:=rfl;rw[g3'];simp only[Zf];rw[Zv Qo]
  have hlt3:=HIB.o.lt;clear HPM6 g1' g2' g3' g4';go_wp2_with fail;go_roundw
  .exact⟨s+1,n,l,t',_,_,_,sk,_,a4,c4,k5,c5,Qo,hn200,Qg,rfl,rfl,⟨by rw[Y5 _ _ Qo];exact Hv.o.1,by rw[Y5 _ _ Qo];exact Hv.o.2.1,by rw[Y5 _ _ Qo];exact Hv.o.2.2⟩,HOBn,HPM7⟩
  simp[intOf];omega
 have hge2:¬(s:Int)<n:=Qo
 have hsn:s=n:=Qo
 subst hsn;have HR:Hid (Mm es R w (.returned (.tuple #[pT pb,.bool true])) wr):=by
  refine⟨PMs.b,Or.inr ⟨l,t,pb,rfl,?_,?_,?_,?_⟩⟩
  .rw[HEv.o.2,<-OB.ln];exact OB.ex
  .have o0:=PMs.q.o 0 Qo;obtain⟨ad,cap,e,hc⟩:=o0.form;rw[PMs.l0,Zy,gj]at e;rw[PMs.l0]at hc;refine⟨ad,cap,by rw[(PMs.q.cell (i:=0) Qo).1,e,OB.ln],λi hi=>?_⟩;obtain⟨g,e1,e2⟩:=hc i (I6 (QV l i)) (by rw[<-OB.ln]at hi;simp[hi]);exact⟨g,0,e1,by rw[Zn];exact e2⟩
  .have o1:=PMs.q.o 1 Qo;obtain⟨ad,cap,e,hc⟩:=o1.form;rw[PMs.l1,Zy,gj]at e;rw[PMs.l1]at hc;refine⟨ad,cap,by rw[(PMs.q.cell (i:=1) Qo).1,e,OB.ln],λi hi=>?_⟩;rw[<-OB.ln]at hi;obtain⟨g,e1,e2⟩:=hc i (.slice (some (a_ (tk i) 0)) 256 256) (by simp[hi]);refine⟨g,0,_,_,e1,by rw[Zn];exact e2,?_⟩;have:=PMs.rs i hi wr (Wk.refl _ _) (Zg _);rw[HEv.o.2,<-Hee.o.1];exact this
  have o2:=PMs.q.o 2 Qo;rw[PMs.l2]at o2;obtain⟨ad,cap,e,il⟩:=WO.il (l:=reps E 256) o2;rw[HEv.o.2];exact⟨ad,cap,by rw[(PMs.q.cell (i:=2) Qo).1,e],il⟩
 clear PMs OB;go_wp2_with fail;go_ret2;exact HR.o
def TB.below{t:Nat->N_}(h:TB ta N t w)(z:Bl w w'):TB ta N t w':=λi d=>by
 let⟨tb,a,ra,f,e,c,b⟩:=h i d;exact⟨tb,a,ra,f,e,by rw[z.cell (p:=(a_ tb (a+i))) (Ze w _ c)];exact c,b.below z⟩
def yo(rules:Nat)(O:List Nat)(rows:Nat->Nat->Int)(vd:Nat->Int)(B:Nat)(e:Ending)(w':World):Prop:=
 ∃ca cc la lc na nc,e=.returned (.agg #[.int .i64 rules,.slice ca 256 cc,.slice la O.length lc,.slice na (O.length*cnt (Cl rows O.length) 256) nc])/\((∀k o,ca=some ⟨k,o,none⟩->B<=k)/\(∀k o,la=some ⟨k,o,none⟩->B<=k)/\(∀k o,na=some ⟨k,o,none⟩->B<=k)) /\
  IL ca (λb=>idxI (Cl rows O.length) b) 256 w'/\IL la (λi=>vd (O.getD i 0)) O.length w'/\IL na (λj=>(Xq rows (reps (Cl rows O.length) 256) O.length).getD j 0) (O.length*cnt (Cl rows O.length) 256) w'
def xT(rules:Nat)(O:List Nat)(rows:Nat->Nat->Int)(vd:Nat->Int)(w:World)(e:Ending)(w':World):Prop:=Below w.heap.size w w'/\yo rules O rows vd w.heap.size e w'
def yo.heap{vd:Nat->Int}{e:Ending}(h:yo rules O rows vd B e w)(z:∀k,B<=k->k<w.heap.size->w'.heap[k]?=w.heap[k]?):yo rules O rows vd B e w':=by
 let⟨d,f,l,lc,m,nc,h1,⟨h2,h3,c⟩,g,i,j⟩:=h;exact⟨d,f,l,lc,m,nc,h1,⟨h2,h3,c⟩,g.heap (λk b ⟨o,a⟩=>z k (h2 k o a) b),i.heap (λk b ⟨o,a⟩=>z k (h3 k o a) b),j.heap (λk b ⟨o,a⟩=>z k (c k o a) b)⟩
def yp(ra:Option Addr)(n:Nat)(rows:Nat->Nat->Int)(w:World):Prop:=∀i,i<n->∃b o xa xc,ra=some ⟨b,o,none⟩/\w.cell? ⟨b,o+i,none⟩=some (.slice xa 256 xc)/\IL xa (rows i) 256 w
noncomputable def QU(A:Aut)(nx:Nat->Nat->Int)(O:List Nat)(i b:Nat):Int:=Rp O (UD A (Tu A.N nx (O.getD i 0) b))
def Cq{x:Nat}(z:x ∉ O)(y:Nat):Rp (O++[x]) y=if y=x then (O.length:Int) else Rp O y:=by
 unfold Rp;by_cases e:y=x
 .subst e;rw[dF Qs,dF rfl,List.idxOf_append,dG z];simp
 rw[dG e];by_cases h:y∈O
 .rw[dF (by simp[h]),dF h,List.idxOf_append,dF h]
 rw[dG (by simp[h,e]),dG h]
def Aj(O:List Nat)(y:Nat):-1<=Rp O y/\(y∈O->0<=Rp O y)/\(y ∉ O->Rp O y=-1):=by
 unfold Rp;by_cases h:y∈O
 .rw[dF h];exact⟨Qo,λ_=>Qo,λa=>absurd h a⟩
 rw[dG h];exact⟨Qo,λa=>absurd a h,λ_=>rfl⟩
def Cb(w:World)(base:Nat)(t:Int)(z:base<=w.heap.size):OwnL base (.slice (some (a_ w.heap.size 0)) 1 1) [t] (w.alloc (.cells #[I6 t] 3)):=
 World.ownsRow_lit (base:=base) (e:=3) (size:=1) w #[I6 t] 1 z (by unfold maxLen;omega) rfl
structure BO (fb N B0:Nat) (A:Aut) (vo:Value) (O:List Nat) (W w:World):Prop where
 f:TC fb (inl (fun j=>(UD A j:Int)) (N+1)) w
 n:TC (fb+1) (inl (Rp O) (N+1)) w
 o:OwnL B0 vo (O.map fun x:Nat=>(x:Int)) w
 b:Below W.heap.size W w
 z:fb+2<=B0/\B0<=w.heap.size/\W.heap.size<=fb
variable {A:Aut}
def BO.below{fb:Nat}(h:BO fb N B0 A vo O W w)(H:Bl w w'):BO fb N B0 A vo O W w':=by
 have hz:=h.z;have:=H.size;exact⟨h.f.block (H.block _ Qo),h.n.block (H.block _ Qo),h.o.below H,h.b.trans (H.mono h.b.size),⟨hz.1,Qo,hz.2.2⟩⟩
def BO.app{fb:Nat}{x:Nat}(h:BO fb N B0 A vo O W w)(Z:x ∉ O)(J:x<N+1){ob:Obj}(H:((w.setCell (a_ (fb+1) x) (I6 (O.length:Int))).alloc ob).grownBy w5 vo.ownBlock)(Y:OwnL B0 (sL g len cap) ((O.map λx:Nat=>(x:Int))++[(x:Int)]) w5):BO fb N B0 A (sL g len cap) (O++[x]) W w5:=by
 have hz:=h.z;let⟨w1,a⟩:=nam (w.setCell (a_ (fb+1) x) (I6 (O.length:Int)));rw[<-a]at H;have t:w1.heap.size=w.heap.size:=by rw[a,Zz]
 have i:∀q,q≠fb+1->w1.heap[q]?=w.heap[q]?:=λq d=>by rw[a];exact Zq w (a_ (fb+1) x) _ q (λe=>d e)
 have r:=h.n.set x (by rw[Xr];exact J) (I6 (O.length:Int));rw[<-a,WA]at r;have c:=box_bel w1 ob;have hs:=H.size;have s:=c.size;have m:∀q,q<B0->w5.heap[q]?=w1.heap[q]?:=λq d=>by
  rw[H.block q Qo (λe=>by have:=(h.o.blk q e.symm).1;omega),c.block q Qo]
 have k:Bl W w1:=by rw[a];exact h.b.setCell (p:=(a_ (fb+1) x)) (by show _<=fb+1;omega) _
 have l:=k.trans (c.mono k.size);refine⟨(h.f.block (i fb Qo)).block (m fb Qo),?_,by rw[eK];exact Y,l.grown H l.size (λq d=>by have:=(h.o.blk q d).1;omega),⟨hz.1,Qo,hz.2.2⟩⟩;rw[Yn (λj _=>Cq Z j)];exact r.block (m (fb+1) Qo)
def Ji(w:World)(n:Nat)(z:n<=1000000):(Instr.makeSlice 53 (I6 (n:Int)) (I6 (n:Int))).run prog w=.ok (.slice (some (a_ w.heap.size 0)) n n) (w.alloc (.cells (Qv n).toArray 23)):=by
 let⟨i,b,hz,hs,a⟩:=PB;have h:=run_make (P:=prog) w 53 23 i (sN) u_t b hz .i64 .i64 n n Qo Qo (by rw[a];omega) Qo;rw[hs]at h;simp only[ZE,ff]at h;rw[show(Value.slice none 0 0).cells=#[sN] from rfl,SA]at h;exact h
def Dt(xb:Nat->Nat)(i n:Nat):List Value:=(List.range n).map λj=>if j<i then .slice (some ⟨xb j,0,none⟩) 256 256 else .slice none 0 0
def On(xb:Nat->Nat)(i n:Nat):(Dt xb i n).length=n:=by simp[Dt]
def Nx(xb:Nat->Nat)(i:Nat){n j:Nat}(h:j<n):(Dt xb i n)[j]?=some (if j<i then .slice (some (a_ (xb j) 0)) 256 256 else sN):=by simp[Dt,h]
def Az(xb:Nat->Nat){i n:Nat}(h:i<n)(x:Nat):(Dt xb i n).set i (sL x 256 256)=Dt (Yj xb i x) (i+1) n:=by
 refine fG (λj=>?_);by_cases a:j<n
 .rw[Nx _ _ a];by_cases e:j=i
  .subst e;rw[fx (by rw[On];exact a),p_,Y1]
  rw[fA (λq=>e q.symm),Nx _ _ a,Y5 _ _ e];by_cases e2:j<i
  .rw[dF e2,p_]
  rw[dG e2,g_]
 rw[ZB (by simp[On];omega),ZB (by rw[On];omega)]
structure RT (Wc:World) (xb:Nat->Nat) (i n:Nat) (rows:Nat->Nat->Int) (w:World):Prop where
 c:TC Wc.heap.size (Dt xb i n) w
 r:∀j,j<i->TC (xb j) (inl (rows j) 256) w/\Wc.heap.size<xb j/\xb j<w.heap.size
 b:Below Wc.heap.size Wc w
 z:Wc.heap.size<w.heap.size
def RT.rwb{z:World}(h:RT z xb n n rows w):yp (some (a_ z.heap.size 0)) n rows w:=λi a=>by
 refine⟨z.heap.size,0,_,256,rfl,?_,Da (h.r i a).1⟩;rw[Zn];have:=(h.c i _ (Nx xb n a)).1;rw[dF a]at this;exact this
def Po(es:Nat->Rx)(n:Nat)(w:World)(en:Ending)(w':World):Prop:=
 Below w.heap.size w w' /\
 ((en=.returned (.tuple #[.agg XD.toArray,.int .i64 8])/\Ov (Wh es n) (X6 es n) (UE es n)) \/
  ∃l t A nx O,A=XO l t (UE es n).length/\WU (Wh es n) (X6 es n) (UE es n) l.length 0 l t/\nx=(λi b=>t.getD (i*(UE es n).length+idx (Kq (XV es n) (Y4 es n)) b) (-1))/\O=reps (alB A) A.N /\
  ((96<O.length/\en=.returned (.tuple #[.agg XD.toArray,.int .i64 9])) \/
   (¬96<O.length/\∃m B,en=.returned (.tuple #[m,.int .i64 0])/\yo n O (QU A nx O) A.vd B (.returned m) w')))
def Es(b di cap n:Nat)(es:Nat->Rx)(w:World)(h8:n<=8)(dm:Y4 es n<=96)
  (dj:∀W,Bl w W->Cp 26 #[.slice (some (a_ b di)) n cap] W λe' w'=>(∃r a,e'=.returned (.tuple #[I6 0,I6 r,I6 a]))/\Bl W w')
  (dk:∀W,Bl w W->Cp 27 #[.slice (some (a_ b di)) n cap] W (Fx es n W))
  (dn:∀l t,WU (Wh es n) (X6 es n) (UE es n) l.length 0 l t->Pn (XO l t (UE es n).length) (Kq (XV es n) (Y4 es n)) (λi b=>t.getD (i*(UE es n).length+idx (Kq (XV es n) (Y4 es n)) b) (-1)))
  (dl:∀(W:World) (pb:Nat) (vd:Nat->Int) (nx:Nat->Nat->Int) (bs:List Nat) (N:Nat) (oa:Option Addr) (oc:Nat) (O:List Nat) (ra:Option Addr) (rc:Nat) (rows:Nat->Nat->Int),FB pb N vd nx bs W->IL oa (λi=>((O.getD i 0:Nat):Int)) O.length W->yp ra O.length rows W->O.length<=96->N<=200->(∀x∈O,x<N) ->
   Cp 31 #[pT pb,I6 n,.slice oa O.length oc,.slice ra O.length rc] W (xT n O rows vd W)):
  Cp 10 #[.slice (some (a_ b di)) n cap] w (Po es n w):=by
 have hz:=Wq;let⟨W0,ap⟩:=nam (w.alloc (.cells #[I6 0,sN,sN,sN] 25));have T0:TC w.heap.size XD W0:=by rw[ap];exact TC.boxed w XD _
 have B0:Bl w W0:=by rw[ap];exact box_bel _ _
 have cd:W0.heap.size=w.heap.size+1:=by rw[ap];simp
 have bA:=hyd (dj W0 B0);have bH:=hyd ap;have bB:=hyd dk;have bK:=hyd3 cd T0 B0;have cB:=hyd dn;have cz:Hid (∀(W:World) (pb:Nat) (vd:Nat->Int) (nx:Nat->Nat->Int) (bs:List Nat) (N:Nat) (oa:Option Addr) (oc:Nat) (O:List Nat) (ra:Option Addr) (rc:Nat) (rows:Nat->Nat->Int),FB pb N vd nx bs W->IL oa (λi=>((O.getD i 0:Nat):Int)) O.length W->yp ra O.length rows W->O.length<=96->N<=200->(∀x∈O,x<N) ->
   Cp 31 #[pT pb,I6 n,.slice oa O.length oc,.slice ra O.length rc] W (xT n O rows vd W)):=dl
 clear ap cd T0 B0 dj dk dn dl;go_enter func10,ntmps10;go_wp2_with fail;rw[<-bH.o];apply bA.o.mono;rintro e w1 ⟨⟨r,a,rfl⟩,B1⟩;let⟨s0,T0,B0⟩:=bK.o;have aS:Bl w w1:=B0.trans (B1.mono Qo);have T1:=T0.block (B1.block _ Qo);have cw:w.heap.size+1<=w1.heap.size:=by have:=B1.size;omega
 have aI:=hyd (bB w1 aS);have H1:=hyd3 T1 aS cw;clear bA bH s0 T0 B0 B1 aS T1 bB bK cw;go_wp2_with fail;apply aI.o.mono;rintro e w2 ⟨X,tr,ad,cp,ms,Ts,Ns,ti,nd,rfl,bP,bQ,a2,a1,a5,B2,cR⟩;let⟨gb,bX⟩:=nam w1.heap.size;rw[<-bX]at a2 a1 a5 ⊢;have bF:=hyd (CC X gb n tr ad cp ms Ts Ns es ti nd bP h8 dm bQ w2 a2 a1 a5);have H2:Hid (TC w.heap.size XD w2/\Bl w w2/\w.heap.size+1<=w2.heap.size):=by
  let⟨x1,x2,x3⟩:=H1.o;exact⟨x1.block (B2.block _ Qo),x2.trans (B2.mono Qo),Qo⟩
 clear aI bP bQ a2 a1 a5 B2 cR bX H1;go_wp2_with fail;apply bF.o.mono;rintro e w3 ⟨B3,bc⟩;have H3:Hid (TC w.heap.size XD w3/\Bl w w3/\w.heap.size+1<=w3.heap.size):=by
  let⟨x1,x2,x3⟩:=H2.o;have:=B3.size;exact⟨x1.block (B3.block _ Qo),x2.trans (B3.mono Qo),Qo⟩
 clear H2 bF;rcases bc with ⟨rfl,b9⟩|⟨l,t,pb,rfl,R,aO⟩
 .let⟨T3,bt,cS⟩:=H3.o;let⟨tz,BX,y,_⟩:=WN (I6 0) (sN) (sN) (sN) T3 bt;obtain⟨WX,H⟩:∃W,W=w3.setCells w.heap.size 0 [I6 0,sN,sN,sN]:=⟨_,rfl⟩;rw[<-H]at BX y;have ao:Hid (WX=w3.setCells w.heap.size 0 [I6 0,sN,sN,sN]):=H;have Q:Hid ((loadVar 25 (a_ w.heap.size 0)).run prog WX=.ok (.agg #[I6 0,sN,sN,sN]) WX):=y;have HR:Hid (Po es n w (.returned (.tuple #[.agg XD.toArray,I6 8])) WX):=⟨BX,Or.inl ⟨rfl,b9⟩⟩;clear H y T3 bt cS B3 b9 BX;go_wp2_with (first|(with_reducible apply gst 25;refine Ya.out ?_));refine⟨?_⟩;apply Za rfl 25 _ _ rfl w.heap.size 0 #[I6 0,sN,sN,sN] rfl rfl tz Yg (by simp[Value.oneCell']);rw[Zc,<-ao.o];go_wp2_with fail;exact Zr (v:=.tuple #[.agg XD.toArray,I6 8]) (XG results10 rfl Q.o rfl) rfl HR.o
 have PN:=cB.o l t R;let⟨E,hE⟩:=nam (Kq (XV es n) (Y4 es n));let⟨A,hA⟩:=nam (XO l t (UE es n).length);obtain⟨nx,aE⟩:∃nx:Nat->Nat->Int,nx=(λi b=>t.getD (i*(UE es n).length+idx (Kq (XV es n) (Y4 es n)) b) (-1)):=⟨_,rfl⟩;rw[<-hA,<-hE]at PN;rw[hE,<-aE,<-hE]at PN;let⟨N,hN⟩:=nam A.N;have aB:N=l.length:=by rw[hN,hA];rfl
 have a4:N<=200:=by rw[aB];exact R.size.2.1
 have c8:0<N:=by rw[aB];exact R.size.1
 have aq:UE es n=reps E 256:=by rw[hE];rfl
 have aC:FB pb N A.vd nx (reps E 256) w3:=by
  rw[aB,hA,aE,<-aq];exact aO
 have bT:=DA pb N A.vd nx (reps E 256) w3 a4 aC (λk c hk=>(reps_mem hk).1) (cnt_le E 256) (λi c hi hc=>by rw[hN]at hi ⊢;exact PN.lt hi hc);have bw:=hyd bT;have HX:=hyd5 R hA aE hN PN;have bE:=hyd aC;have cI:∃va vc,w3.cell? (a_ pb 0)=some (.slice va N vc):=by
  let⟨va,vc,h1,_⟩:=aC.v;exact⟨va,vc,h1⟩
 clear R aO hA hE aE aB aq aC bT PN hN B3;go_wp2_with fail;apply bw.o.mono;rintro e P ⟨rk,tt,rfl,aP,B4,aL,aM⟩;let⟨va,vc,cv⟩:=cI;have cH:P.cell? (a_ pb 0)=some (.slice va N vc):=by rw[B4.cell (p:=(a_ pb 0)) (Ze w3 _ cv)];exact cv
 have bJ:Hid (∀w',(Instr.makeSlice 23 (I6 ((N:Int)+1)) (I6 ((N:Int)+1))).run prog w'=.ok (.slice (some (a_ w'.heap.size 0)) (N+1) (N+1)) (w'.alloc (.cells (XF (N+1)).toArray 3))):=λw'=>by
  have:=Vw w' (N+1) Qo;rw[show((N:Int)+1)=((N+1:Nat):Int) by omega];exact this
 have a7:=aP.tb;let⟨tb,ce⟩:=nam w3.heap.size;rw[<-ce]at a7 ⊢;have aV:=hyd a7;have aT:=hyd2 aL aM;have H4:Hid (TC w.heap.size XD P/\Bl w P/\w.heap.size+1<=P.heap.size/\FB pb N A.vd nx (reps E 256) P):=by
  let⟨x1,x2,x3⟩:=H3.o;have:=B4.size;exact⟨x1.block (B4.block _ Qo),x2.trans (B4.mono Qo),Qo,bE.o.below B4⟩
 have b6:=bJ.o P;let⟨w5,au⟩:=nam (P.alloc (.cells (XF (N+1)).toArray 3));have aQ:=bJ.o w5;let⟨w6,av⟩:=nam (w5.alloc (.cells (XF (N+1)).toArray 3));let⟨fb,aD⟩:=nam P.heap.size;have z5:w5.heap.size=fb+1:=by rw[au,aD];simp
 have z6:w6.heap.size=fb+2:=by rw[av];simp[z5]
 have x5:Bl P w5:=by rw[au];exact box_bel _ _
 have x6:Bl w5 w6:=by rw[av];exact box_bel _ _
 have Tf:TC fb (inl (λ_=>0) (N+1)) w6:=by
  have h1:TC fb (inl (λ_=>0) (N+1)) w5:=by rw[aD,au];exact TC.boxed P (XF (N+1)) 3
  exact h1.block (x6.block fb Qo)
 have Tn:TC (fb+1) (inl (λ_=>0) (N+1)) w6:=by rw[<-z5,av];exact TC.boxed w5 (XF (N+1)) 3
 have H6:Hid (TC fb (inl (λ_=>0) (N+1)) w6/\TC (fb+1) (inl (λ_=>0) (N+1)) w6/\Bl P w6/\w6.heap.size=fb+2):=⟨Tf,Tn,x5.trans (x6.mono Qo),z6⟩;have af:=hyd aD;have bL:=hyd au;have cE:=hyd av;clear bw aP a7 aL aM cv ce Tf Tn x5 x6 B4 H3 bE au av aD z5 z6;rw[bL.o]at aQ;go_wp2_with fail;rw[<-bL.o,<-cE.o,<-af.o];clear b6;clear aQ cH
 go_loopw [14] (λx w'=>∃i:Nat,i<=N+1/\x=I6 i/\TC fb (inl (λj=>if j<i then (UD A j:Int) else 0) (N+1)) w'/\TC (fb+1) (inl (λj=>if j<i then -1 else 0) (N+1)) w'/\Bl P w'/\fb+2<=w'.heap.size) (λx _=>N+1-(intOf x).toNat)
 .let⟨y1,y2,y3,y4⟩:=H6.o;exact⟨0,Qo,rfl,by rw[Yn (g:=λ_=>0) (λj _=>Qs)];exact y1,by rw[Yn (g:=λ_=>0) (λj _=>Qs)];exact y2,y3,Qo⟩
 clear H6;obtain⟨i,hi,rfl,Tf,Tn,Y,sz⟩:=hrel;by_cases b1:i<=N
 .have b3:(i:Int)<=N:=Qo
  have cV:(i:Int)<N+1:=Qo
  let⟨f1,f2⟩:=Tf i _ (Xf _ (show i<N+1 by omega));have ag:=Tf.set i (by rw[Xr];omega) (I6 (i:Int));have bU:∀q,q≠fb->(wr.setCell (a_ fb i) (I6 (i:Int))).heap[q]?=wr.heap[q]?:=λq hq=>Zq wr (a_ fb i) _ q (λe=>hq e)
  have aY:=Tn.block (bU (fb+1) Qo);let⟨n1,n2⟩:=aY i _ (Xf _ (show i<N+1 by omega));have az:=aY.set i (by rw[Xr];omega) (I6 (-1));let⟨w7,F⟩:=nam ((wr.setCell (a_ fb i) (I6 (i:Int))).setCell (a_ (fb+1) i) (I6 (-1)));have aX:TC fb ((inl (λj=>if j<i then (UD A j:Int) else 0) (N+1)).set i (I6 (i:Int))) w7:=by
   rw[F];exact ag.block (Zq _ (a_ (fb+1) i) _ fb (λe=>by have e':fb=fb+1:=e;omega))
  rw[<-F]at az;rw[WA]at aX az;have B7:Bl P w7:=by
   rw[F];exact(Y.setCell (p:=(a_ fb i)) (by have:=af.o;show _<=fb;omega) _).setCell (p:=(a_ (fb+1) i)) (by have:=af.o;show _<=fb+1;omega) _
  have z7:fb+2<=w7.heap.size:=by rw[F,Zz,Zz];exact sz
  have H7:Hid (TC fb (inl (λj=>if j=i then (i:Int) else if j<i then (UD A j:Int) else 0) (N+1)) w7/\TC (fb+1) (inl (λj=>if j<i+1 then -1 else 0) (N+1)) w7/\Bl P w7/\fb+2<=w7.heap.size):=by
   refine⟨aX,?_,B7,z7⟩;rw[Yn (g:=λj=>if j=i then -1 else if j<i then -1 else 0) (λj _=>?_)]
   .exact az
   by_cases e:j=i
   .simp[e]
   by_cases e2:j<i
   .simp[e,e2,show j<i+1 by omega]
   simp[e,e2,show ¬j<i+1 by omega]
  have aW:=hyd F;clear Tf Tn ag aX aY az B7 z7 F Y bU;go_wp2_with fail;rw[<-aW.o];clear f1 f2 n1 n2
  go_loopw [15] (λx w'=>∃(f:Nat) (jj:Int),x=I6 jj/\-1<=jj/\jj<=i/\f<=i/\Hid (tt i f=false/\∀c:Nat,jj<c->c<=i->tt i c=false->f<=c)/\TC fb (inl (λj=>if j=i then (f:Int) else if j<i then (UD A j:Int) else 0) (N+1)) w'/\TC (fb+1) (inl (λj=>if j<i+1 then -1 else 0) (N+1)) w'/\Bl P w'/\fb+2<=w'.heap.size) (λx _=>(intOf x+1).toNat)
  .let⟨y1,y2,y3,y4⟩:=H7.o;exact⟨i,i,rfl,Qo,Qo,Qo,⟨aT.o.1.irr i b1,λc h1 h2=>Qo⟩,y1,y2,y3,y4⟩
  clear H7;obtain⟨f,jj,rfl,c9,da,bW,HF,Tf,Tn,Y,sz⟩:=hrel;by_cases hj:0<=jj
  .obtain⟨j,rfl⟩:∃j:Nat,jj=j:=⟨jj.toNat,Qo⟩;have cL:(0:Int)<=j:=Qo
   have cM:j<=i:=Qo
   have db:(j:Int)<N+1:=Qo
   let⟨dg,dh,ra,rc,et,ct,br⟩:=(aV.o.below Y) i b1;cases et;let⟨b2,o2,e2,c2⟩:=br j Qo;subst e2;simp only[Zn]at ct;cases ht:tt i j
   .rw[ht]at c2;let⟨f1,f2⟩:=Tf i _ (Xf _ (show i<N+1 by omega));have ag:=Tf.set i (by rw[Xr];omega) (I6 (j:Int));rw[WA]at ag;have Hn:Hid (tt i j=false/\∀c:Nat,((j:Int)-1)<c->c<=i->tt i c=false->j<=c):=⟨ht,λc h1 _ _=>Qo⟩;have H8:Hid (TC fb (inl (λq=>if q=i then (j:Int) else if q<i then (UD A q:Int) else 0) (N+1)) (wr.setCell (a_ fb i) (I6 (j:Int)))/\TC (fb+1) (inl (λq=>if q<i+1 then -1 else 0) (N+1)) (wr.setCell (a_ fb i) (I6 (j:Int)))/\Bl P (wr.setCell (a_ fb i) (I6 (j:Int)))/\fb+2<=(wr.setCell (a_ fb i) (I6 (j:Int))).heap.size):=by
     refine⟨?_,Tn.block (Zq wr (a_ fb i) _ (fb+1) (λe=>by have e':fb+1=fb:=e;omega)),Y.setCell (p:=(a_ fb i)) (by have:=af.o;show _<=fb;omega) _,by rw[Zz];exact sz⟩;rw[Yn (g:=λq=>if q=i then (j:Int) else if q=i then (f:Int) else if q<i then (UD A q:Int) else 0) (λq _=>by by_cases e:q=i<;>simp[e])];exact ag
    clear Tf ag Tn ht HF br;go_wp2_with fail;go_roundw
    .exact⟨j,(j:Int)-1,Qg,Qo,Qo,cM,Hn,H8⟩
    simp[intOf]
   rw[ht]at c2;have Hn:Hid (tt i f=false/\∀c:Nat,((j:Int)-1)<c->c<=i->tt i c=false->f<=c):=⟨HF.o.1,λc h1 h2 h3=>by
    by_cases e:c=j
    .subst e;rw[ht]at h3;cases h3
    exact HF.o.2 c Qo h2 h3⟩
   clear ht HF br;go_wp2_with fail;go_roundw
   .exact⟨f,(j:Int)-1,Qg,Qo,Qo,bW,Hn,Tf,Tn,Y,sz⟩
   simp[intOf]
  have cL:¬(0:Int)<=jj:=Qo
  have cN:jj=-1:=Qo
  subst cN;have Hf:Hid ((f:Int)=(UD A i:Nat)):=by
   show _=_;let⟨_,_,_,x4,x5⟩:=HX.o;have:=yE x5 (t:=tt) (by rw[<-x4];exact aT.o.1) (by rw[<-x4];exact aT.o.2) (i:=i) (f:=f) Qo bW HF.o.1 (λj hj=>by
    cases hx:tt i j
    .have:=HF.o.2 j Qo Qo hx;omega
    rfl)
   rw[this]
  have H8:Hid (TC fb (inl (λj=>if j<i+1 then (UD A j:Int) else 0) (N+1)) wr):=by
   show TC _ _ _;rw[Yn (g:=λj=>if j=i then (f:Int) else if j<i then (UD A j:Int) else 0) (λj _=>?_)]
   .exact Tf
   by_cases e:j=i
   .subst e;simp[Hf.o]
   by_cases e2:j<i
   .simp[e,e2,show j<i+1 by omega]
   simp[e,e2,show ¬j<i+1 by omega]
  clear Tf HF;go_wp2_with fail;go_roundw
  .exact⟨i+1,Qo,Qg,H8,Tn,Y,sz⟩
  simp[intOf];omega
 have b3:¬(i:Int)<=N:=Qo
 have cK:i=N+1:=Qo
 subst cK;have c7:(0:Int)<N+1:=Qo
 let⟨B0,a0⟩:=nam wr.heap.size;have aw:=box_bel wr (.cells #[I6 0] 3);have aZ:=Tn.block (aw.block (fb+1) Qo);let⟨n1,n2⟩:=aZ 0 _ (Xf _ (show 0<N+1 by omega));have aA:=aZ.set 0 (by rw[Xr];omega) (I6 0);rw[WA]at aA;let⟨w9,I⟩:=nam ((wr.alloc (.cells #[I6 0] 3)).setCell (a_ (fb+1) 0) (I6 0));rw[<-I]at aA;have bb:∀q,q≠fb+1->w9.heap[q]?=(wr.alloc (.cells #[I6 0] 3)).heap[q]?:=λq hq=>by rw[I];exact Zq _ (a_ (fb+1) 0) _ q (λe=>hq e)
 have bz:Hid (BO fb N B0 A (sL B0 1 1) [0] P w9):=by
  refine⟨?_,?_,?_,?_,⟨Qo,?_,by have:=af.o;omega⟩⟩
  .have:=(Tf.block (aw.block fb Qo)).block (bb fb Qo);rw[Yn (g:=λj=>if j<N+1 then (UD A j:Int) else 0) (λj hj=>by rw[dF hj])];exact this
  .rw[Yn (g:=λj=>if j=0 then 0 else if j<N+1 then -1 else 0) (λj hj=>?_)]
   .exact aA
   unfold Rp;by_cases e:j=0
   .simp[e]
   simp[e,hj]
  .have:=Cb wr B0 0 Qo;rw[<-a0]at this;exact this.keep (λk hk=>bb k (by
     have dc:B0=k:=Zh hk;omega))
  .rw[I];exact(Y.trans (aw.mono Y.size)).setCell (p:=(a_ (fb+1) 0)) (by have:=af.o;show _<=fb+1;omega) _
  rw[I,Zz];have:=aw.size;omega
 have ay:=hyd I;have bC:=hyd (Or.first HX.o.2.2.2.2);clear Tf Tn aZ aA I bb aw Y sz;go_wp2_with fail;rw[<-a0,<-ay.o];clear n1 n2 a0
 go_loopw [16,17] (λov x w'=>∃(i d:Nat) (O:List Nat) (oa:Nat) (oc:Nat),i<=d/\d<=200/\x=I6 i/\ov=sL oa d oc/\Hid (d=O.length)/\Hid ((∃r,Or A E O i r 0)\/(i=O.length/\O=reps (alB A) A.N))/\BO fb N B0 A (sL oa d oc) O P w') (λ_ x _=>201-(intOf x).toNat)
 .exact⟨0,1,[0],B0,1,Qo,Qo,rfl,rfl,rfl,Or.inl ⟨0,bC⟩,bz⟩
 clear bz bC;obtain⟨i,d,O,oa,oc,hi,ah,rfl,rfl,C,J,s⟩:=hrel;by_cases b4:i<d
 .have b5:(i:Int)<d:=Qo
  have aF:∃r,Or A E O i r 0:=by
   rcases J with h|⟨h,_⟩
   .exact h
   have:=C.o;omega
  let⟨r,aF⟩:=aF;have bD:=hyd aF;have aH:=hyd s;clear aF J s;go_wp2_with fail
  go_loopw [16,18] (λov x w'=>∃(b d:Nat) (O:List Nat) (oa:Nat) (oc:Nat),b<=256/\i<d/\d<=200/\x=I6 b/\ov=sL oa d oc/\Hid (d=O.length)/\Hid (Or A E O i r b)/\BO fb N B0 A (sL oa d oc) O P w') (λ_ x _=>256-(intOf x).toNat)
  .exact⟨0,d,O,oa,oc,Qo,b4,ah,rfl,rfl,C,bD,aH⟩
  clear aH bD C ah b4 b5;obtain⟨b,d,O,oa,oc,hb,V,ah,rfl,rfl,C,J,s⟩:=hrel;have bZ:(i:Int)<d:=Qo
  by_cases T:b<256
  .have bV:(b:Int)<256:=Qo
   let⟨x1,x2,x3,x4,x5⟩:=HX.o;have cO:r<N:=by rw[x4];exact J.o.r
   have co:wr.cell? (a_ oa i)=some (I6 (r:Int)):=by
    let⟨ad,cap,e,il⟩:=s.o.il;cases e;let⟨g,o,e1,e2⟩:=il i (by rw[Zy,<-C.o];exact V);cases e1;rw[Zn]at e2;rw[e2];simp only[R0];rw[Zf,J.o.i];rfl
   have aa:=hyd (Nk pb N A.vd nx (reps E 256) r b wr Qo (H4.o.2.2.2.below s.b) Qo T);have bi:=Or.step x5 J T;rw[<-x4]at bi;let⟨to,M⟩:=nam (Tu N nx r b);rw[<-M]at aa bi;have ch:to<=N:=by rw[M,x4];exact(x5.to Qo T).1
   have cg:(to:Int)<N+1:=Qo
   let⟨cf,_⟩:=s.f to _ (Xf _ (show to<N+1 by omega));let⟨B,G⟩:=nam (UD A to);rw[<-G]at cf;have al:=hyd s;rcases bi with ⟨s1,s2⟩|⟨m,s1,s2,s3⟩
   .have cj:B=N:=by rw[G,s1,x4];exact MO A
    have q1:¬(B:Int)<N:=Qo
    have am:=hyd s2;clear s G M s1 s2 x1 x2 x3 x4 x5;go_wp2_with fail;apply aa.o.mono;rintro e w8 ⟨rfl,rfl⟩;go_wp2_with fail;go_roundw
    .exact⟨b+1,d,O,oa,oc,Qo,V,ah,Qg,rfl,C,am,al⟩
    simp[intOf];omega
   subst s1;have bo:B=least (alB A) to:=by rw[G];unfold UD;rw[g_]
   have cj:B<N:=by rw[G,x4];exact BE Qo
   have cq:(B:Int)<N:=Qo
   have cY:(B:Int)<N+1:=Qo
   rw[<-bo]at s3;let⟨cn,c6⟩:=s.n B _ (Xf _ (show B<N+1 by omega));let⟨cr,bp,bq⟩:=Aj O B;rcases s3 with ⟨s4,s5⟩|⟨s4,s5⟩
   .let⟨nv,ac⟩:=nam (Rp O B);rw[<-ac]at cn;have cW:0<=nv:=by rw[ac];exact bp s4
    have q1:(nv==-1)=false:=Qp
    have am:=hyd s5;clear s G M s2 s4 s5 bo x1 x2 x3 x4 x5 ac cr bp bq;go_wp2_with fail;apply aa.o.mono;rintro e w8 ⟨rfl,rfl⟩;go_wp2_with fail;go_roundw
    .exact⟨b+1,d,O,oa,oc,Qo,V,ah,Qg,rfl,C,am,al⟩
    simp[intOf];omega
   rw[bq s4]at cn;have q1:((-1:Int)==-1)=true:=rfl;have am:=hyd s5;have cD:=hyd s4;have b8:d+1<=200:=by
    have h1:=s5.o;have h2:(O++[B]).length=cnt (alB A) (kn A (r*A.K+cnt E (b+1))):=by rw[h1];rfl
    have h3:=cnt_le (alB A) (kn A (r*A.K+cnt E (b+1)));have h5:r*A.K+cnt E (b+1)<=A.N*A.K:=by
     have h6:=cnt_mono E (show b+1<=256 by omega);have h7:cnt E 256=A.K:=by rw[x5.k];rfl
     have h8:(r+1)*A.K<=A.N*A.K:=ZQ _ Qo;rw[du]at h8;omega
    have h4:=kn_le x5.b h5;rw[Zl,dN,<-C.o]at h2;omega
   let⟨w9,I⟩:=nam (wr.setCell (a_ (fb+1) B) (I6 (d:Int)));have ay:=hyd I;have z9:w9.heap.size=wr.heap.size:=by rw[I,Zz]
   have bm:=box_bel w9 (.cells #[I6 (B:Int)] 3);have bR:OwnL B0 (sL oa d oc) (O.map λx:Nat=>(x:Int)) (w9.alloc (.cells #[I6 (B:Int)] 3)):=by
    have h1:OwnL B0 (sL oa d oc) (O.map λx:Nat=>(x:Int)) w9:=s.o.keep (λk hk=>by
     rw[I];exact Zq wr (a_ (fb+1) B) _ k (λe=>by
      have e':k=fb+1:=e;have:=(s.o.blk k hk).1;have:=s.z;omega))
    exact h1.below bm
   have b7:(w9.alloc (.cells #[I6 (B:Int)] 3)).cell? (a_ wr.heap.size 0)=some (I6 (B:Int)):=by rw[<-z9,Zm];rfl
   have aq:B0<=(w9.alloc (.cells #[I6 (B:Int)] 3)).heap.size:=by have:=bm.size;have:=s.z;omega
   have aJ:Hid ((O.map λx:Nat=>(x:Int)).length=d):=by show _=_;rw[Zy,C.o]
   have Hn:Hid (∀g cap w5,(w9.alloc (.cells #[I6 (B:Int)] 3)).grownBy w5 (sL oa d oc).ownBlock->OwnL B0 (sL g (d+1) cap) ((O.map λx:Nat=>(x:Int))++[(B:Int)]) w5->BO fb N B0 A (sL g (d+1) cap) (O++[B]) P w5):=λg cap w5 h1 h2=>by
    rw[ay.o,C.o]at h1;rw[C.o]at h2 ⊢;exact(C.o▸al.o).app cD.o Qo h1 h2
   clear s G M s2 s4 s5 bo x1 x2 x3 x4 x5 cr bp bq bm I z9;go_wp2_with fail;apply aa.o.mono;rintro e w8 ⟨rfl,rfl⟩;go_wp2_with (first|(with_reducible show wpList _ _ _ (⟨_,Op.call { callee:=Callee.builtin Builtin.append,args:=_,argTypes:=_ },_,_,_,_⟩::_) _ _;refine Ya.out ?_));refine⟨?_⟩;rw[<-ay.o];refine Bm.wpList_append_int Qr _ _ Qr B0 (sL oa d oc) _ Qr bR (by rw[aJ.o];omega) w8.heap.size (B:Int) Qr b7 aq _ rfl ?_;rw[aJ.o];intro g5 aK cT aN U bd _;have cx:=Hn.o g5 aK cT U aN;clear aN U bd bR b7 aq Hn;go_wp2_with fail;go_roundw
   .exact⟨b+1,d+1,O++[B],g5,aK,Qo,Qo,b8,Qg,rfl,by show _=_;rw[Zl,C.o];rfl,am,cx⟩
   simp[intOf];omega
  have cJ:¬(b:Int)<256:=Qo
  have a9:b=256:=Qo
  subst a9;have cA:Hid ((∃r,Or A E O (i+1) r 0)\/(i+1=O.length/\O=reps (alB A) A.N)):=by
   rcases Or.next HX.o.2.2.2.2 J with ⟨r',_,h2⟩|⟨h1,h2⟩
   .exact Or.inl ⟨r',h2⟩
   exact Or.inr ⟨h1.symm,h2⟩
  go_wp2_with fail;go_roundw
  .exact⟨i+1,d,O,oa,oc,Qo,ah,Qg,rfl,C,cA,s⟩
  simp[intOf];omega
 have cJ:¬(i:Int)<d:=Qo
 have hO:O=reps (alB A) A.N:=by
  rcases J with ⟨r,h⟩|⟨_,h⟩
  .have:=(Zi.1 h.i).1;have:=C.o;omega
  exact h
 have a3:=HX.o.2.2.2.1;have a6:∀x∈O,x<N:=λx hx=>by rw[hO,SB]at hx;rw[a3];exact hx.1
 by_cases bN:96<d
 .have bO:(96:Int)<d:=Qo
  have T8:TC w.heap.size XD wr:=H4.o.1.block (s.b.block _ (by have:=H4.o.2.2.1;omega));have bu:Bl w wr:=H4.o.2.1.trans (s.b.mono (by have:=H4.o.2.2.1;omega));let⟨tz,BX,y,_⟩:=WN (I6 0) (sN) (sN) (sN) T8 bu;obtain⟨WX,H⟩:∃W,W=wr.setCells w.heap.size 0 [I6 0,sN,sN,sN]:=⟨_,rfl⟩;rw[<-H]at BX y;have ao:Hid (WX=wr.setCells w.heap.size 0 [I6 0,sN,sN,sN]):=H;have Q:Hid ((loadVar 25 (a_ w.heap.size 0)).run prog WX=.ok (.agg #[I6 0,sN,sN,sN]) WX):=y;have HR:Hid (Po es n w (.returned (.tuple #[.agg XD.toArray,I6 9])) WX):=⟨BX,Or.inr ⟨l,t,A,nx,O,HX.o.2.1,HX.o.1,HX.o.2.2.1,hO,Or.inl ⟨by rw[<-C.o];exact bN,rfl⟩⟩⟩;clear H y T8 bu BX s hO J a6;go_wp2_with (first|(with_reducible apply gst 25;refine Ya.out ?_));refine⟨?_⟩;apply Za rfl 25 _ _ rfl w.heap.size 0 #[I6 0,sN,sN,sN] rfl rfl tz Yg (by simp[Value.oneCell']);rw[Zc,<-ao.o];go_wp2_with fail;exact Zr (v:=.tuple #[.agg XD.toArray,I6 9]) (XG results10 rfl Q.o rfl) rfl HR.o
 have bO:¬(96:Int)<d:=Qo
 have be:(Instr.makeSlice 53 (I6 (d:Int)) (I6 (d:Int))).run prog wr=.ok (.slice (some (a_ wr.heap.size 0)) d d) (wr.alloc (.cells (Qv d).toArray 23)):=Ji wr d Qo;have ci:=box_bel wr (.cells (Qv d).toArray 23);have an:Hid (RT wr (λ_=>0) 0 d (QU A nx O) (wr.alloc (.cells (Qv d).toArray 23))):=by
  refine⟨?_,λj hj=>Qo,ci,Qs⟩;have:=TC.boxed wr (Qv d) 23;have e:Dt (λ_=>0) 0 d=Qv d:=by unfold Dt Qv;exact ZO (λj _=>by rw[g_])
  rw[e];exact this
 have Z:=hyd s;have aU:=hyd3 hO a6 C.o;let⟨D,a8⟩:=nam wr;rw[<-a8]at an Z;have bI:=hyd a8;clear s hO J a6 ci a8;go_wp2_with fail;clear be;rw[<-bI.o];clear bI
 go_loopw [21] (λx w'=>∃(i:Nat) (xb:Nat->Nat),i<=d/\x=I6 i/\RT D xb i d (QU A nx O) w') (λx _=>d-(intOf x).toNat)
 .exact⟨0,_,Qo,rfl,an⟩
 clear an;obtain⟨i,xb,hi,rfl,L⟩:=hrel;by_cases V:i<d
 .have bZ:(i:Int)<d:=Qo
  let⟨u,bn⟩:=nam wr.heap.size;have be:(Instr.makeSlice 23 (I6 256) (I6 256)).run prog wr=.ok (.slice (some (a_ wr.heap.size 0)) 256 256) (wr.alloc (.cells (XF 256).toArray 3)):=Vw wr 256 Qo;have aG:=box_bel wr (.cells (XF 256).toArray 3);have cQ:=L.z;have c1:=L.c.block (aG.block D.heap.size Qo);let⟨k1,k2⟩:=c1 i _ (Nx xb i V);have c2:=c1.set i (by rw[On];exact V) (sL u 256 256);rw[Az xb V u]at c2;have ab:∀q,q≠D.heap.size->((wr.alloc (.cells (XF 256).toArray 3)).setCell (a_ D.heap.size i) (sL u 256 256)).heap[q]?=(wr.alloc (.cells (XF 256).toArray 3)).heap[q]?:=λq hq=>Zq _ (a_ D.heap.size i) _ q (λe=>hq e)
  let⟨w7,F⟩:=nam ((wr.alloc (.cells (XF 256).toArray 3)).setCell (a_ D.heap.size i) (sL u 256 256));have H7:Hid (TC D.heap.size (Dt (Yj xb i u) (i+1) d) w7/\TC u (inl (λc=>if c<0 then QU A nx O i c else 0) 256) w7/\(∀j,j<i->TC (xb j) (inl (QU A nx O j) 256) w7/\D.heap.size<xb j/\xb j<u)/\Bl D w7/\u<w7.heap.size/\D.heap.size<u):=by
   rw[<-F]at c2 ab;have z7:w7.heap.size=(wr.alloc (.cells (XF 256).toArray 3)).heap.size:=by rw[F,Zz]
   have z8:(wr.alloc (.cells (XF 256).toArray 3)).heap.size=wr.heap.size+1:=Qs
   refine⟨c2,?_,λj hj=>?_,?_,Qo,Qo⟩
   .have:=TC.boxed wr (XF 256) 3;rw[<-bn]at this;rw[Yn (g:=λ_=>0) (λc _=>by rw[g_])];exact this.block (ab u Qo)
   .let⟨r1,r2,r3⟩:=L.r j hj;exact⟨(r1.block (aG.block _ r3)).block (ab _ Qo),r2,Qo⟩
   rw[F];exact(L.b.trans (aG.mono Qo)).setCell (p:=(a_ D.heap.size i)) (Zg _) _
  have aW:=hyd F;have cF:=hyd bn;let⟨ax,ar⟩:=nam D.heap.size;have ae:=hyd ar;rw[<-ar]at k1 k2;rw[g_]at k1;clear L c1 c2 ab F bn aG ar cQ;rw[<-ae.o];go_wp2_with fail;rw[<-cF.o];clear be k1 k2;have bM:Hid (w7=(wr.alloc (.cells (XF 256).toArray 3)).setCell (a_ ax i) (sL u 256 256)):=by show _=_;rw[ae.o];exact aW.o
  rw[<-bM.o]
  go_loopw [22] (λx w'=>∃b:Nat,b<=256/\x=I6 b/\TC D.heap.size (Dt (Yj xb i u) (i+1) d) w'/\TC u (inl (λc=>if c<b then QU A nx O i c else 0) 256) w'/\(∀j,j<i->TC (xb j) (inl (QU A nx O j) 256) w'/\D.heap.size<xb j/\xb j<u)/\Bl D w'/\u<w'.heap.size/\D.heap.size<u) (λx _=>256-(intOf x).toNat)
  .exact⟨0,Qo,rfl,H7⟩
  clear H7;obtain⟨b,hb,rfl,c1,c2,c3,Y,z1,z2⟩:=hrel;by_cases T:b<256
  .have bV:(b:Int)<256:=Qo
   have aj:=Z.o.below Y;let⟨o1,o2,o3⟩:=aU.o;obtain⟨r,hr⟩:∃r,O[i]?=some r:=⟨_,Zd Qo⟩;have bf:O.getD i 0=r:=by rw[Zf,hr];rfl
   have cO:=o2 r (dI hr);have co:wr.cell? (a_ oa i)=some (I6 (r:Int)):=by
    let⟨ad,cap,e,il⟩:=aj.o.il;cases e;let⟨g,o,e1,e2⟩:=il i (by rw[Zy];omega);cases e1;rw[Zn]at e2;rw[e2];simp only[R0];rw[bf]
   let⟨ct,_⟩:=c1 i _ (Nx _ _ V);rw[p_,Y1,<-ae.o]at ct;have aa:=hyd (Nk pb N A.vd nx (reps E 256) r b wr.drew Qo (H4.o.2.2.2.below aj.b.drew) Qo T);let⟨to,M⟩:=nam (Tu N nx r b);rw[<-M]at aa;have ch:to<=N:=by rw[M,a3];exact(HX.o.2.2.2.2.to Qo T).1
   have cg:(to:Int)<N+1:=Qo
   let⟨cf,_⟩:=aj.f to _ (Xf _ (show to<N+1 by omega));let⟨B,G⟩:=nam (UD A to);rw[<-G]at cf;have cj:B<=N:=by
    rw[G];by_cases e:to=A.N
    .rw[e,MO];omega
    have:=BE (A:=A) (i:=to) Qo;omega
   have cq:(B:Int)<N+1:=Qo
   have cX:(to:Int)<(A.N:Int)+1:=Qo
   have cZ:(B:Int)<(A.N:Int)+1:=Qo
   let⟨cn,_⟩:=aj.n B _ (Xf _ (show B<N+1 by omega));let⟨nv,ac⟩:=nam (Rp O B);rw[<-ac]at cn;have aR:nv=QU A nx O i b:=by unfold QU;rw[ac,G,M,bf,a3]
   let⟨dd,de⟩:=c2 b _ (Xf _ T);have Hn:Hid (TC D.heap.size (Dt (Yj xb i u) (i+1) d) (wr.setCell (a_ u b) (I6 nv))/\TC u (inl (λc=>if c<b+1 then QU A nx O i c else 0) 256) (wr.setCell (a_ u b) (I6 nv))/\(∀j,j<i->TC (xb j) (inl (QU A nx O j) 256) (wr.setCell (a_ u b) (I6 nv))/\D.heap.size<xb j/\xb j<u)/\Bl D (wr.setCell (a_ u b) (I6 nv))/\u<(wr.setCell (a_ u b) (I6 nv)).heap.size/\D.heap.size<u):=by
    have ab:∀q,q≠u->(wr.setCell (a_ u b) (I6 nv)).heap[q]?=wr.heap[q]?:=λq hq=>Zq wr (a_ u b) _ q (λe=>hq e)
    refine⟨c1.block (ab _ Qo),?_,λj hj=>?_,Y.setCell (p:=(a_ u b)) (by show _<=u;omega) _,by rw[Zz];exact z1,z2⟩
    .have h1:=c2.set b (by rw[Xr];exact T) (I6 nv);rw[WA]at h1;rw[Yn (g:=λc=>if c=b then nv else if c<b then QU A nx O i c else 0) (λc _=>?_)]
     .exact h1
     by_cases e:c=b
     .subst e;simp[aR]
     by_cases e2:c<b
     .simp[e,e2,show c<b+1 by omega]
     simp[e,e2,show ¬c<b+1 by omega]
    let⟨r1,r2,r3⟩:=c3 j hj;exact⟨r1.block (ab _ Qo),r2,r3⟩
   have cC:Hid ((λw'=>w'.cell? (a_ ax i)=some (sL u 256 256)/\w'.cell? (a_ oa i)=some (I6 (r:Int))/\w'.cell? (a_ fb to)=some (I6 (B:Int))/\w'.cell? (a_ (fb+1) B)=some (I6 nv)) (wr.setCell (a_ u b) (I6 nv))):=by
    have q1:oa<D.heap.size:=by
     let⟨ad,cap,e,il⟩:=Z.o.o.il;cases e;let⟨g,o,e1,e2⟩:=il i (by rw[Zy];omega);cases e1;exact Ze _ _ e2
    have q2:=Z.o.z;have q3:=ae.o;refine⟨?_,?_,?_,?_⟩
    .rw[gq _ _ _ _ (by show u≠ax;omega)];exact ct
    .rw[gq _ _ _ _ (by show u≠oa;omega)];exact co
    .rw[gq _ _ _ _ (by show u≠fb;omega)];exact cf
    rw[gq _ _ _ _ (by show u≠fb+1;omega)];exact cn
   clear c1 c2 c3 Y aj o1 o2 o3 hr bf M G ac aR;go_wp2_with fail;have bS:(λw'=>w'.cell? (a_ ax i)=some (sL u 256 256)/\w'.cell? (a_ oa i)=some (I6 (r:Int))/\w'.cell? (a_ fb to)=some (I6 (B:Int))/\w'.cell? (a_ (fb+1) B)=some (I6 nv)) wr.drew:=⟨ct,co,cf,cn⟩;refine fK (S:=λw'=>w'.cell? (a_ ax i)=some (sL u 256 256)/\w'.cell? (a_ oa i)=some (I6 (r:Int))/\w'.cell? (a_ fb to)=some (I6 (B:Int))/\w'.cell? (a_ (fb+1) B)=some (I6 nv)) Qk bS (λhHeld=>?_);apply tQ 0
   apply tQ 1
   apply tQ 2
   apply tQ 3
   apply tQ 4
   apply tQ 5
   apply tQ 6
   apply tQ 7
   apply tQ 8
   apply tQ 9
   apply tQ 10
   apply tQ 11
   apply tQ 12
   apply fL (rs:=[13]) Qk Qs;refine fM (o:=?oQ13) ?hiQ13 (λK hK=>?_) fN
   case hiQ13=>simp only[gel];rfl
   go_simp;apply ft aa;rintro e w8 ⟨rfl,rfl⟩;go_wp2_with fail;refine hK.out _ _ bS (λhHeld=>?_);clear hK K
   (try simp only[psm])
   apply tQ 14
   apply tQ 15
   apply tQ 16
   apply tQ 17
   apply tQ 18
   apply fL (rs:=[19]) Qk Qs;refine fM (o:=?oQ19) ?hiQ19 (λK hK=>?_) fN
   case hiQ19=>simp only[gel];rfl
   go_simp;refine hK.out _ _ cC (λhHeld=>?_);clear hK K
   (try simp only[psm])
   refine fO Qk ?_ _;go_wp2_with fail
   (try simp only[Act.put])
   go_roundw
   .exact⟨b+1,Qo,Qg,Hn.o.1,Hn.o.2.1,Hn.o.2.2.1,Hn.o.2.2.2.1.drew,Hn.o.2.2.2.2.1,Hn.o.2.2.2.2.2⟩
   simp[intOf];omega
  have cU:¬(b:Int)<256:=Qo
  have a9:b=256:=Qo
  subst a9;have bG:Hid (RT D (Yj xb i u) (i+1) d (QU A nx O) wr):=by
   refine⟨c1,λj hj=>?_,Y,Qo⟩;by_cases e:j=i
   .subst e;rw[Y1];refine⟨?_,z2,z1⟩;rw[Yn (g:=λc=>if c<256 then QU A nx O j c else 0) (λc hc=>by rw[dF hc])];exact c2
   rw[Y5 _ _ e];let⟨r1,r2,r3⟩:=c3 j Qo;exact⟨r1,r2,Qo⟩
  clear c1 c2 c3 Y;go_wp2_with fail;go_roundw
  .exact⟨i+1,_,Qo,Qg,bG⟩
  simp[intOf];omega
 have bY:¬(i:Int)<d:=Qo
 have b0:i=d:=Qo
 rw[b0]at L bY ⊢;clear b0;let⟨o1,o2,o3⟩:=aU.o;have cP:=H4.o.2.2.1;have cu:=Z.o.b.size;have ak:=Z.o.b.trans (L.b.mono cu);have P5:=H4.o.2.2.2.below ak;have I5:IL (some (a_ oa 0)) (λi=>((O.getD i 0:Nat):Int)) O.length wr:=by
  let⟨ad,cap,e,il⟩:=(Z.o.below L.b).o.il;cases e;rw[Zy]at il;intro i hi;let⟨g,o,e1,e2⟩:=il i hi;exact⟨g,o,e1,by rw[e2];simp only[R0]⟩
 have R5:yp (some (a_ D.heap.size 0)) O.length (QU A nx O) wr:=by rw[<-o3];exact L.rwb
 have cy:Hid (Cp 31 #[pT pb,I6 n,sL oa d oc,.slice (some (a_ D.heap.size 0)) d d] wr (xT n O (QU A nx O) A.vd wr)):=by
  have:=cz.o wr pb A.vd nx (reps E 256) N (some (a_ oa 0)) oc O (some (a_ D.heap.size 0)) d (QU A nx O) P5 I5 R5 Qo Qo o2;rw[<-o3]at this;exact this
 have T5:TC w.heap.size XD wr:=H4.o.1.block (ak.block _ Qo);have ai:Bl w wr:=H4.o.2.1.trans (ak.mono Qo);have aV:Hid (TC w.heap.size XD wr/\Bl w wr/\w.heap.size<wr.heap.size):=⟨T5,ai,by have:=ak.size;omega⟩;clear L cP cu ak P5 I5 R5 T5 ai o1 o2 o3;go_wp2_with fail
 with_reducible apply cy.o.mono
 rintro e w9 ⟨B9,MI⟩;have cG:=MI;obtain⟨ca,cc,la,lc,na,nc,rfl,_⟩:=cG;let⟨T5,ai,z5⟩:=aV.o;let⟨o1,o2,o3⟩:=aU.o;have T9:TC w.heap.size XD w9:=T5.block (B9.block _ z5);have bv:Bl w w9:=ai.trans (B9.mono Qo);let⟨tz,BX,y,hG⟩:=WN (I6 n) (.slice ca 256 cc) (.slice la O.length lc) (.slice na (O.length*cnt (Cl (QU A nx O) O.length) 256) nc) T9 bv;have HR:Hid (Po es n w (.returned (.tuple #[.agg #[I6 n,.slice ca 256 cc,.slice la O.length lc,.slice na (O.length*cnt (Cl (QU A nx O) O.length) 256) nc],I6 0])) (w9.setCells w.heap.size 0 [I6 n,.slice ca 256 cc,.slice la O.length lc,.slice na (O.length*cnt (Cl (QU A nx O) O.length) 256) nc])):=by
  refine⟨BX,Or.inr ⟨l,t,A,nx,O,HX.o.2.1,HX.o.1,HX.o.2.2.1,o1,Or.inr ⟨by rw[<-o3];exact bN,_,wr.heap.size,rfl,MI.heap (λk hk hl=>?_)⟩⟩⟩;exact hG.block k hl (λe=>by have:=Zh e;omega)
 let⟨vn,bj⟩:=nam (O.length*cnt (Cl (QU A nx O) O.length) 256);rw[<-bj]at y HR;rw[<-bj];let⟨WX,H⟩:=nam (w9.setCells w.heap.size 0 [I6 n,.slice ca 256 cc,.slice la O.length lc,.slice na vn nc]);rw[<-H]at y HR;have ao:=hyd H;have Q:=hyd y;clear H y hG BX MI T5 ai T9 bv B9 o1 o2 o3 bj;go_wp2_with (first|(with_reducible apply gst 25;refine Ya.out ?_));refine⟨?_⟩;apply Za rfl 25 _ _ rfl w.heap.size 0 #[I6 n,.slice ca 256 cc,.slice la O.length lc,.slice na vn nc] rfl rfl tz Yg (by simp[Value.oneCell']);rw[Zc,<-ao.o];go_wp2_with fail;exact Zr (v:=.tuple #[.agg #[I6 n,.slice ca 256 cc,.slice la O.length lc,.slice na vn nc],I6 0]) (XG results10 rfl Q.o rfl) rfl HR.o
