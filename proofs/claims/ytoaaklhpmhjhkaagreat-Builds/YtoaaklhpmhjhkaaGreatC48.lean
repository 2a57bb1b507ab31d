import Derived.Test.YtoaaklhpmhjhkaaGreatC46
import Derived.Test.YtoaaklhpmhjhkaaGreatC47
set_option maxRecDepth 100000
set_option maxHeartbeats 4000000
set_option linter.all false
namespace Go.Proofs.YtoaaklhpmhjhkaaGreat
open Go.RowKit
open Bm
theorem q5l (v:Value) (e r a:Int) (w:World) (he:e≠0) (hC:∀W,Below w.heap.size w W->Calls Tryz.prog 26 #[v] W fun e' w'=>e'=.returned (.tuple #[.int .i64 e,.int .i64 r,.int .i64 a])/\Below W.heap.size W w'):
  Calls Tryz.prog 10 #[v] w fun en w'=>en=.returned (.tuple #[.agg macZ.toArray,.int .i64 e])/\Below w.heap.size w w':=by
 have hz:=q1i;have hq2:(e != 0)=true:=by simp[he]
 obtain⟨W0,hW0⟩:=nam (w.alloc (.cells #[.int .i64 0,.slice none 0 0,.slice none 0 0,.slice none 0 0] 25));have T0:TC w.heap.size macZ W0:=by rw[hW0];exact TC.boxed w macZ _
 have B0:Below w.heap.size w W0:=by rw[hW0];exact box_bel _ _
 have hs0:W0.heap.size=w.heap.size+1:=by rw[hW0];simp
 have HC:=hyd (hC W0 B0);have HW0:=hyd hW0;have Hs0:=hyd hs0;clear hW0 hs0 hC he;go_enter Tryz.func10,Tryz.ntmps10;go_wp2_with fail;rw[<-HW0.out];refine HC.out.mono ?_;rintro en w2 ⟨rfl,B2⟩;have T3:=T0.block (B2.block _ (by have:=Hs0.out;omega));have Bw3:Below w.heap.size w w2:=B0.trans (B2.mono (by have:=Hs0.out;omega));obtain⟨tz,BX,hfin,_⟩:=q1e (.int .i64 0) (.slice none 0 0) (.slice none 0 0) (.slice none 0 0) T3 Bw3;obtain⟨WX,hWX⟩:=nam (w2.setCells w.heap.size 0 [.int .i64 0,.slice none 0 0,.slice none 0 0,.slice none 0 0]);rw[<-hWX]at BX hfin;have HWX:=hyd hWX;have Hfin:=hyd hfin;clear hWX hfin T3 Bw3 B2 B0 T0 HC HW0;go_wp2_with (first|(with_reducible refine gst 25 ?_;refine Stop.out ?_));refine⟨?_⟩;refine wpList_store_mid rfl 25 _ _ rfl w.heap.size 0 #[.int .i64 0,.slice none 0 0,.slice none 0 0,.slice none 0 0] rfl rfl tz q0D (by simp[Value.oneCell']) ?_;rw[List.toList_toArray,<-HWX.out];go_wp2_with fail;refine bodyPost_ret (v:=.tuple #[.agg #[.int .i64 0,.slice none 0 0,.slice none 0 0,.slice none 0 0],.int .i64 e]) (q0L Tryz.results10 rfl Hfin.out rfl) rfl ?_;exact⟨rfl,BX⟩
theorem y3t (es:Nat->Rx) (n:Nat) (h1:1<=n) (h8:n<=8) (hP:netN es n<=96) (hf:∀k,k<n->(es k).Full) {l:List (Nat->Bool)}{t:List Int} (h:Exp (aftN es n) (netF es n) (kdN es n) l.length 0 l t):
  Pn (autOf l t (kdN es n).length) (Kq (netH es n) (netN es n)) (fun i b=>t.getD (i*(kdN es n).length+idx (Kq (netH es n) (netN es n)) b) (-1)):=
 ⟨q3D _ _ _,rfl,fun _ _ _ _=>rfl,q5C (q8H es n h1 h8 hP hf) (q8I es n h8 hP) (q8N _ _) h,y0Z (q3M _ _).1 h⟩
theorem y1A (es:Nat->Rx) {k n:Nat} (hk:k<n):(es k).sz<=netN es n:=by
 have:=q0M es (show k+1<=n from hk);simp only[netN]at this;omega
theorem q7M (b off cap n:Nat) (f:Nat->ByteArray) (w:World) (h1:1<=n) (h8:n<=8) (hb:b<w.heap.size) (hm:∀i,i<n->(f i).size<=maxLen) (hr:SRow b off f n w) (hok:∀j,j<n->(Pg.wrong (bat (f j)) (f j).size).1=0) (hsum:¬96<sumTo (fun j=>placesP (f j)) n):
  Calls Tryz.prog 10 #[.slice (some ⟨b,off,none⟩) n cap] w (RBPost (fun j=>rxOf (f j)) n w):=by
 obtain⟨es,hes⟩:∃es:Nat->Rx,es=fun j=>rxOf (f j):=⟨_,rfl⟩
 have hrd:∀j,j<n->(Pg.readParts (bat (f j)) (f j).size).ok=true:=fun j hj=>((q0N (f j)).2 (hok j hj)).2.2
 have h40:∀j,j<n->(f j).size<=40:=fun j hj=>((q0N (f j)).2 (hok j hj)).2.1
 have hP96:=(q6i es (fun j=>placesP (f j)) n (fun i hi=>by rw[hes];exact q3i (f i) (hrd i hi)) hsum).2;have hfu:∀k,k<n->(es k).Full:=fun k hk=>by rw[hes];exact q7H (f k) (hok k hk)
 have hck:CheckIs f n 0 0 0:=by
  obtain⟨e,r,a,hp,hc⟩:=agree f n;rcases hp with ⟨i,hi,_,h2,h3,_⟩|⟨_,rfl,rfl,h4⟩
  ·exfalso;have:=hok i hi;rw[h2]at this;exact h3 this
  ·rw[if_neg hsum]at h4;rw[h4]at hc;exact hc
 rw[<-hes];refine y0h b off cap n es w h8 hP96 (fun W hW=>?_) (fun W hW=>?_) (fun l t h=>y3t es n h1 h8 hP96 hfu h) (fun W pb vd nx bs N oa oc O ra rc rows hP hO hR h96 hN hON=>q8c pb N vd nx bs oa oc O ra rc rows n W hP hO hR h96 hN hON h8)
 ·refine(q4w b off cap n f 0 0 0 W h1 h8 (Nat.lt_of_lt_of_le hb hW.size) hm (hr.below hb hW) hck).mono ?_;rintro e' w' ⟨rfl,hB⟩;exact⟨⟨0,0,rfl⟩,hB⟩
 ·refine q8m b off cap n f es W h8 (Nat.lt_of_lt_of_le hb hW.size) (hr.below hb hW) (fun i hi w'=>?_) hP96;obtain⟨qs,g,q1,_,_,q4⟩:=q3g (f i) (hrd i hi);have he:es i=rxOf (f i):=by rw[hes]
  rw[he];refine y1K q4 (f i) q1.symm (h40 i hi) ?_ w';rw[<-he];have:=y1A es hi;omega
end Go.Proofs.YtoaaklhpmhjhkaaGreat
namespace Go.Proofs.YtoaaklhpmhjhkaaGreat
open Go.RowKit
open Bm Bu
def tri {α:Type} (a b c:α) (i:Nat):α:=match i with|1=>a|2=>b|_=>c
theorem q2l {P:Nat->Prop} (h1:P 1) (h2:P 2) (h3:P 3):∀i,1<=i->i<=3->P i:=fun i a b=>by
 have:i=1\/i=2\/i=3:=by omega
 rcases this with rfl|rfl|rfl<;>assumption
def PAns (e:Int) (r:Nat) (L:Nat->List Int) (w:World) (en:Ending) (w':World):Prop:=
 Below w.heap.size w w'/\∃vv:Nat->Value,en=.returned (.tuple #[.agg (triC r vv),.int .i64 e])/\(∀i,1<=i->i<=3->OwnL w.heap.size (vv i) (L i) w')/\∀i j,1<=i->i<=3->1<=j->j<=3->i≠j->∀k,(vv i).ownBlock=some k->(vv j).ownBlock≠some k
def RAns (e:Int) (r:Nat) (L:Nat->List Int) (w:World) (en:Ending) (w':World):Prop:=
 Below w.heap.size w w'/\∃(a:Nat->Option Addr) (c:Nat->Nat),en=.returned (.tuple #[.agg (triC r (fun i=>.slice (a i) (L i).length (c i))),.int .i64 e])/\∀i,1<=i->i<=3->IL (a i) (fun j=>(L i).getD j 0) (L i).length w'
def Had (ad:Option Addr) (n:Nat) (f:Nat->ByteArray) (w:World):Prop:=1<=n->∃b off,ad=some ⟨b,off,none⟩/\b<w.heap.size/\SRow b off f n w
variable {B b n off : Nat}{f' : Nat → ByteArray}{kf : Nat → Int}{E : Nat → Nat → Bool}{nx : Nat → Nat → Int}{vv : Nat → Value}{ad : Option Addr}{vc vl vn : Value}{w w' : World}
theorem Had.below {f:Nat->ByteArray} (h:Had ad n f w) (hW:Below w.heap.size w w'):Had ad n f w':=fun h1=>by
 obtain⟨b,off,h2,h3,h4⟩:=h h1;exact⟨b,off,h2,Nat.lt_of_lt_of_le h3 hW.size,h4.below h3 hW⟩
variable {en : Ending}
theorem q4b {e:Int} (he:en=.returned (.tuple #[.agg macZ.toArray,.int .i64 e])) (hB:Below w.heap.size w w'):PAns e 0 (fun _=>[]) w en w':=
 ⟨hB,fun _=>.slice none 0 0,he,fun _ _ _=>OwnL.nil _ _,fun _ _ _ _ _ _ _ _ hk=>by cases hk⟩
theorem q4a {e:Int} (he:en=.returned (.tuple #[.agg macZ.toArray,.int .i64 e])) (hB:Below w.heap.size w w'):RAns e 0 (fun _=>[]) w en w':=
 ⟨hB,fun _=>none,fun _=>0,he,fun _ _ _ j hj=>absurd hj (Nat.not_lt_zero j)⟩
def OneAns (n:Nat) (f:Nat->ByteArray) (e:Int) (r:Nat) (L:Nat->List Int):Prop:=
 (∀i,(L i).length<=1000000)/\r<=8 /\
 (∀F,F=22\/F=34->∀ad cap w,Had ad n f w->Calls Tryz.prog F #[.slice ad n cap] w (PAns e r L w)) /\
 (∀ad cap w,Had ad n f w->Calls Tryz.prog 10 #[.slice ad n cap] w (RAns e r L w))
theorem q9K {kg:Nat->Int} (h:∀b,b<n->kf b=kg b):clsL E kf n=clsL E kg n:=by
 unfold clsL;exact List.map_congr_left (fun b hb=>by rw[h b (List.mem_range.1 hb)])
noncomputable def mcL (es:Nat->Rx) (n:Nat) (A:Aut):Nat->List Int:=tri (clsL (Cl (rwOf A (alB A)) (cnt (alB A) A.N)) (kdF es n) 256) (labL A (alB A) (cnt (alB A) A.N)) (nxtL (rwOf A (alB A)) (reps (Cl (rwOf A (alB A)) (cnt (alB A) A.N)) A.K) (cnt (alB A) A.N))
theorem y2K (es:Nat->Rx) (n:Nat) (A:Aut) (hK:A.K<=256) (h96:¬96<cnt (alB A) A.N) (i:Nat):(mcL es n A i).length<=1000000:=by
 unfold mcL tri;split
 ·rw[q3z];omega
 ·rw[q3o];omega
 ·rw[q3k];have h1:(reps (Cl (rwOf A (alB A)) (cnt (alB A) A.N)) A.K).length<=256:=Nat.le_trans (cnt_le _ _) hK;have h2:cnt (alB A) A.N*(reps (Cl (rwOf A (alB A)) (cnt (alB A) A.N)) A.K).length<=96*256:=Nat.mul_le_mul (by omega) h1;omega
variable {A : Aut}{es : Nat → Rx}
theorem y2F (hB:Below w.heap.size w w') (hk:∀b,b<256->kf b=kdF es n b) (o1:OwnL w.heap.size vc (clsL (Cl (rwOf A (alB A)) (cnt (alB A) A.N)) kf 256) w') (o2:OwnL w.heap.size vl (labL A (alB A) (cnt (alB A) A.N)) w') (o3:OwnL w.heap.size vn (nxtL (rwOf A (alB A)) (reps (Cl (rwOf A (alB A)) (cnt (alB A) A.N)) A.K) (cnt (alB A) A.N)) w')
  (n1:∀k,vc.ownBlock=some k->vl.ownBlock≠some k) (n2:∀k,vc.ownBlock=some k->vn.ownBlock≠some k) (n3:∀k,vl.ownBlock=some k->vn.ownBlock≠some k):PAns 0 n (mcL es n A) w (.returned (.tuple #[.agg #[.int .i64 n,vc,vl,vn],.int .i64 0])) w':=by
 rw[q9K hk]at o1;refine⟨hB,tri vc vl vn,rfl,q2l o1 o2 o3,?_⟩;refine q2l (P:=fun i=>∀j,1<=i->i<=3->1<=j->j<=3->i≠j->∀k,(tri vc vl vn i).ownBlock=some k->(tri vc vl vn j).ownBlock≠some k) ?_ ?_ ?_ |> fun h i j i1 i2 j1 j2=>h i i1 i2 j i1 i2 j1 j2
 ·intro j _ _ j1 j2;exact q2l (P:=fun j=>1≠j->∀k,vc.ownBlock=some k->(tri vc vl vn j).ownBlock≠some k) (fun h=>absurd rfl h) (fun _=>n1) (fun _=>n2) j j1 j2
 ·intro j _ _ j1 j2;exact q2l (P:=fun j=>2≠j->∀k,vl.ownBlock=some k->(tri vc vl vn j).ownBlock≠some k) (fun _ k h e=>n1 k e h) (fun h=>absurd rfl h) (fun _=>n3) j j1 j2
 ·intro j _ _ j1 j2;exact q2l (P:=fun j=>3≠j->∀k,vn.ownBlock=some k->(tri vc vl vn j).ownBlock≠some k) (fun _ k h e=>n2 k e h) (fun _ k h e=>n3 k e h) (fun h=>absurd rfl h) j j1 j2
theorem y2C {m:Value} (hB:Below w.heap.size w w') (hP:Pn A (Kq (netH es n) (netN es n)) nx) (hM:MaI n (reps (alB A) A.N) (rwB A nx (reps (alB A) A.N)) A.vd B (.returned m) w'):RAns 0 n (mcL es n A) w (.returned (.tuple #[m,.int .i64 0])) w':=by
 obtain⟨ca,cc,la,lc,na,nc,h1,_,h5,h6,h7⟩:=hM;cases h1;obtain⟨q1,q2,q3⟩:=q9z hP (kdF es n) (fun _ _=>rfl);have hO:(reps (alB A) A.N).length=cnt (alB A) A.N:=rfl;rw[hO]at h5 h6 h7 ⊢;rw[q2]at h7 ⊢;rw[q3]at h7;have l3:(mcL es n A 3).length=cnt (alB A) A.N*cnt (Cl (rwOf A (alB A)) (cnt (alB A) A.N)) A.K:=by show(nxtL _ _ _).length=_;rw[q3k];rfl
 have l2:(mcL es n A 2).length=cnt (alB A) A.N:=q3o _ _ _;have l1:(mcL es n A 1).length=256:=q3z _ _ _;refine⟨hB,tri ca la na,tri cc lc nc,?_,?_⟩
 ·show _=Ending.returned (.tuple #[.agg #[.int .i64 n,.slice ca (mcL es n A 1).length cc,.slice la (mcL es n A 2).length lc,.slice na (mcL es n A 3).length nc],.int .i64 0]);rw[l1,l2,l3]
 ·refine q2l ?_ ?_ ?_
  ·rw[l1];exact h5.congr (fun b hb=>(q1 b hb).symm)
  ·rw[l2];refine h6.congr (fun i hi=>?_);show _=(labL A (alB A) (cnt (alB A) A.N)).getD i 0;simp[labL,List.getD_eq_getElem?_getD,hi]
  ·rw[l3];exact h7
def Got (n r:Nat) (L:Nat->List Int):Prop:=r=n/\1<=n/\n<=8/\∃(es:Nat->Rx) (l:List (Nat->Bool)) (t:List Int) (A:Aut),(∀k,k<n->(es k).Full)/\netN es n<=96/\Exp (aftN es n) (netF es n) (kdN es n) l.length 0 l t/\A=autOf l t (kdN es n).length/\¬96<cnt (alB A) A.N/\L=mcL es n A
theorem y3H (n:Nat) (f:Nat->ByteArray) (hn:n<=maxLen) (hm:∀i,i<n->(f i).size<=maxLen):∃e r L,OneAns n f e r L/\(e=0->Got n r L):=by
 by_cases hin:1<=n/\n<=8
 ·obtain⟨e,r,a,hP,hC⟩:=agree f n;by_cases he:e=0
  ·subst he;have hok:(∀j,j<n->(Pg.wrong (bat (f j)) (f j).size).1=0)/\¬96<sumTo (fun j=>placesP (f j)) n:=by
    rcases hP with ⟨i,_,_,_,h3,_⟩|⟨h1,_,_,h4⟩
    ·exact absurd rfl h3
    ·refine⟨h1,fun h=>?_⟩;rw[if_pos h]at h4;cases h4
   obtain⟨hok,hsum⟩:=hok;have MB:∀F,F=22\/F=34->∀ad cap w,Had ad n f w->Calls Tryz.prog F #[.slice ad n cap] w (MBPost (fun j=>rxOf (f j)) n w):=fun F hF ad cap w h=>by
    obtain⟨b,off,rfl,hb,hS⟩:=h hin.1;rcases hF with rfl|rfl
    ·exact q6k b off cap n f w hin.1 hin.2 hb hm hS hok hsum
    ·exact q7l b off cap n f w hin.1 hin.2 hb hm hS hok hsum
   have RB:∀ad cap w,Had ad n f w->Calls Tryz.prog 10 #[.slice ad n cap] w (RBPost (fun j=>rxOf (f j)) n w):=fun ad cap w h=>by
    obtain⟨b,off,rfl,hb,hS⟩:=h hin.1;exact q7M b off cap n f w hin.1 hin.2 hb hm hS hok hsum
   have hrd:∀j,j<n->(Pg.readParts (bat (f j)) (f j).size).ok=true:=fun j hj=>((q0N (f j)).2 (hok j hj)).2.2
   obtain⟨es,hes⟩:∃es:Nat->Rx,es=fun j=>rxOf (f j):=⟨_,rfl⟩
   have hP96:=(q6i es (fun j=>placesP (f j)) n (fun i hi=>by rw[hes];exact q3i (f i) (hrd i hi)) hsum).2;have hfu:∀k,k<n->(es k).Full:=fun k hk=>by rw[hes];exact q7H (f k) (hok k hk)
   rw[<-hes]at MB RB;have hK:=q3M (netH es n) (netN es n);by_cases hov:Ov (aftN es n) (netF es n) (kdN es n)
   ·refine⟨8,0,fun _=>[],⟨fun _=>by simp,by omega,fun F hF ad cap w h=>(MB F hF ad cap w h).mono ?_,fun ad cap w h=>(RB ad cap w h).mono ?_⟩,fun h=>by cases h⟩
    ·rintro en w' ⟨hB,hp⟩;rcases hp with ⟨rfl,_⟩|⟨l,t,A,_,hE,_⟩
     ·exact q4b rfl hB
     ·obtain⟨s,k,l2,t2,f2,b2,x1,x2,x3,x4⟩:=hov;exact(Exp.not_both hK.1 hE x1 x2 x3 x4).elim
    ·rintro en w' ⟨hB,hp⟩;rcases hp with ⟨rfl,_⟩|⟨l,t,A,nx,O,_,hE,_⟩
     ·exact q4a rfl hB
     ·obtain⟨s,k,l2,t2,f2,b2,x1,x2,x3,x4⟩:=hov;exact(Exp.not_both hK.1 hE x1 x2 x3 x4).elim
   ·by_cases hend:∃l t,Exp (aftN es n) (netF es n) (kdN es n) l.length 0 l t
    ·obtain⟨l,t,hE⟩:=hend;obtain⟨A,hA⟩:=nam (autOf l t (kdN es n).length);have hPn:=y3t es n hin.1 hin.2 hP96 hfu hE;rw[<-hA]at hPn;have hAK:A.K<=256:=by rw[hA];exact hK.2
     by_cases h96:96<cnt (alB A) A.N
     ·refine⟨9,0,fun _=>[],⟨fun _=>by simp,by omega,fun F hF ad cap w h=>(MB F hF ad cap w h).mono ?_,fun ad cap w h=>(RB ad cap w h).mono ?_⟩,fun h=>by cases h⟩
      ·rintro en w' ⟨hB,hp⟩;rcases hp with ⟨_,hx⟩|⟨l2,t2,A2,hA2,hE2,hc⟩
       ·exact absurd hx hov
       ·obtain⟨rfl,rfl⟩:=Exp.one_end hK.1 hE hE2;rw[<-hA]at hA2;subst hA2;rcases hc with ⟨_,rfl⟩|⟨hc,_⟩
        ·exact q4b rfl hB
        ·exact absurd h96 hc
      ·rintro en w' ⟨hB,hp⟩;rcases hp with ⟨_,hx⟩|⟨l2,t2,A2,nx,O,hA2,hE2,_,hO,hc⟩
       ·exact absurd hx hov
       ·obtain⟨rfl,rfl⟩:=Exp.one_end hK.1 hE hE2;rw[<-hA]at hA2;subst hA2;rcases hc with ⟨_,rfl⟩|⟨hc,_⟩
        ·exact q4a rfl hB
        ·exact absurd h96 (by rw[hO]at hc;exact hc)
     ·refine⟨0,n,mcL es n A,⟨y2K es n A hAK h96,hin.2,fun F hF ad cap w h=>(MB F hF ad cap w h).mono ?_,fun ad cap w h=>(RB ad cap w h).mono ?_⟩,fun _=>⟨rfl,hin.1,hin.2,es,l,t,A,hfu,hP96,hE,hA,h96,rfl⟩⟩
      ·rintro en w' ⟨hB,hp⟩;rcases hp with ⟨_,hx⟩|⟨l2,t2,A2,hA2,hE2,hc⟩
       ·exact absurd hx hov
       ·obtain⟨rfl,rfl⟩:=Exp.one_end hK.1 hE hE2;rw[<-hA]at hA2;subst hA2;rcases hc with ⟨hc,_⟩|⟨_,vc,vl,vn,kf,rfl,hk,o1,o2,o3,n1,n2,n3⟩
        ·exact absurd hc h96
        ·exact y2F hB hk o1 o2 o3 n1 n2 n3
      ·rintro en w' ⟨hB,hp⟩;rcases hp with ⟨_,hx⟩|⟨l2,t2,A2,nx,O,hA2,hE2,hnx,hO,hc⟩
       ·exact absurd hx hov
       ·obtain⟨rfl,rfl⟩:=Exp.one_end hK.1 hE hE2;rw[<-hA]at hA2;subst hA2;subst hO;rcases hc with ⟨hc,_⟩|⟨_,m,B,rfl,hM⟩
        ·exact absurd hc h96
        ·exact y2C hB (by rw[hnx];exact hPn) hM
    ·refine⟨8,0,fun _=>[],⟨fun _=>by simp,by omega,fun F hF ad cap w h=>(MB F hF ad cap w h).mono ?_,fun ad cap w h=>(RB ad cap w h).mono ?_⟩,fun h=>by cases h⟩
     ·rintro en w' ⟨hB,hp⟩;rcases hp with ⟨_,hx⟩|⟨l2,t2,A2,hA2,hE2,hc⟩
      ·exact absurd hx hov
      ·exact absurd ⟨l2,t2,hE2⟩ hend
     ·rintro en w' ⟨hB,hp⟩;rcases hp with ⟨_,hx⟩|⟨l2,t2,A2,nx,O,hA2,hE2,hnx,hO,hc⟩
      ·exact absurd hx hov
      ·exact absurd ⟨l2,t2,hE2⟩ hend
  ·refine⟨e,0,fun _=>[],⟨fun _=>by simp,by omega,fun F hF ad cap w h=>?_,fun ad cap w h=>?_⟩,fun h=>absurd h he⟩
   ·obtain⟨b,off,rfl,hb,hS⟩:=h hin.1;have hC:∀W,Below w.heap.size w W->_:=fun W hW=>q4z b off cap n f e r a W hin.1 hin.2 (Nat.lt_of_lt_of_le hb hW.size) hm (hS.below hb hW) hP
    have h3:Calls Tryz.prog F #[.slice (some ⟨b,off,none⟩) n cap] w fun en w'=>en=.returned (.tuple #[.agg macZ.toArray,.int .i64 e])/\Below w.heap.size w w':=by
     rcases hF with rfl|rfl
     ·exact q2N _ e r a w he hC
     ·exact q3L _ e r a w he hC
    refine h3.mono ?_;rintro en w' ⟨h1,h2⟩;exact q4b h1 h2
   ·obtain⟨b,off,rfl,hb,hS⟩:=h hin.1;refine(q5l _ e r a w he (fun W hW=>q4w b off cap n f e r a W hin.1 hin.2 (Nat.lt_of_lt_of_le hb hW.size) hm (hS.below hb hW) hC)).mono ?_;rintro en w' ⟨h1,h2⟩;exact q4a h1 h2
 ·have hout:n=0\/8<n:=by omega
  refine⟨1,0,fun _=>[],⟨fun _=>by simp,by omega,fun F hF ad cap w h=>?_,fun ad cap w h=>?_⟩,fun h=>by cases h⟩
  ·have hC:∀W,Below w.heap.size w W->Calls Tryz.prog 124 #[.slice ad n cap] W fun e' w'=>e'=.returned (.tuple #[.int .i64 1,.int .i64 0,.int .i64 0])/\Below W.heap.size W w':=fun W hW=>(q7e ad n cap W hn hout).mono (by rintro e' w' ⟨rfl,rfl⟩;exact⟨rfl,Below.refl _ _⟩)
   have h3:Calls Tryz.prog F #[.slice ad n cap] w fun en w'=>en=.returned (.tuple #[.agg macZ.toArray,.int .i64 1])/\Below w.heap.size w w':=by
    rcases hF with rfl|rfl
    ·exact q2N _ 1 0 0 w (by omega) hC
    ·exact q3L _ 1 0 0 w (by omega) hC
   refine h3.mono ?_;rintro en w' ⟨h1,h2⟩;exact q4b h1 h2
  ·refine(q5l _ 1 0 0 w (by omega) (fun W hW=>(q6Z ad n cap W hn hout).mono ?_)).mono ?_
   ·rintro e' w' ⟨rfl,rfl⟩;exact⟨rfl,Below.refl _ _⟩
   ·rintro en w' ⟨h1,h2⟩;exact q4a h1 h2
theorem SRow.congr {f:Nat->ByteArray} (h:SRow b off f n w) (e:∀i,i<n->f i=f' i):SRow b off f' n w:=fun i hi=>by
 rw[h i hi,e i hi]
def BtPost (r:Nat) (L:Nat->List Int) (w:World) (en:Ending) (w':World):Prop:=
 Below w.heap.size w w'/\∃vv:Nat->Value,en=.returned (.tuple #[.agg (triC r vv),.bool true])/\(∀i,1<=i->i<=3->OwnL w.heap.size (vv i) (L i) w')/\∀i j,1<=i->i<=3->1<=j->j<=3->i≠j->∀k,(vv i).ownBlock=some k->(vv j).ownBlock≠some k
theorem q2s (r:Int) (a:Nat->Option Addr) (m c:Nat->Nat):triC r (fun i=>.slice (a i) (m i) (c i))=#[.int .i64 r,.slice (a 1) (m 1) (c 1),.slice (a 2) (m 2) (c 2),.slice (a 3) (m 3) (c 3)]:=rfl
theorem y0n {L:Nat->List Int} (h:∀i,1<=i->i<=3->OwnL B (vv i) (L i) w):∃(a:Nat->Option Addr) (c:Nat->Nat),(∀r:Int,triC r vv=triC r (fun i=>.slice (a i) (L i).length (c i)))/\(∀i,1<=i->i<=3->vv i=.slice (a i) (L i).length (c i))/\∀i,1<=i->i<=3->IL (a i) (fun j=>(L i).getD j 0) (L i).length w:=by
 obtain⟨a1,c1,e1,i1⟩:=(h 1 (by omega) (by omega)).il;obtain⟨a2,c2,e2,i2⟩:=(h 2 (by omega) (by omega)).il;obtain⟨a3,c3,e3,i3⟩:=(h 3 (by omega) (by omega)).il;refine⟨tri a1 a2 a3,tri c1 c2 c3,fun r=>?_,q2l e1 e2 e3,q2l i1 i2 i3⟩;unfold triC;rw[e1,e2,e3];rfl
theorem y0Q (ad:Option Addr) (n cap:Nat) (f:Nat->ByteArray) (e:Int) (r:Nat) (L:Nat->List Int) (w:World) (hn:n+3<=17592186044416) (hO:OneAns n f e r L) (had:Had ad n f w):
  Calls Tryz.prog 7 #[.slice ad n cap] w (BtPost r L w):=by
 have hz:=q1i;obtain⟨W0,hW0⟩:=nam (w.alloc (.cells #[.int .i64 0,.slice none 0 0,.slice none 0 0,.slice none 0 0] 25));have T0:TC w.heap.size macZ W0:=by rw[hW0];exact TC.boxed w macZ _
 have B0:Below w.heap.size w W0:=by rw[hW0];exact box_bel _ _
 have hs0:W0.heap.size=w.heap.size+1:=by rw[hW0];simp
 have HH:Hid (Calls Tryz.prog 21 #[.slice ad n cap] W0 fun e w'=>e=.returned (.slice (some ⟨W0.heap.size,0,none⟩) n (n+3))/\WRow W0.heap.size (handed f n) (n+3) w'/\Below W0.heap.size W0 w'):=by
  show Calls _ _ _ _ _;by_cases h1:1<=n
  ·obtain⟨b,off,rfl,hb,hS⟩:=had.below B0 h1;exact q8j b off n cap f W0 hn hb hS
  ·have:n=0:=by omega
   subst this;exact q8k ad cap f W0
 have HO:=hyd hO;have Had0:=hyd (had.below B0);have H0:=hyd3 T0 B0 hs0;have HW0:=hyd hW0;have hee:(e==e)=true:=by simp
 clear hW0 T0 B0 hs0 hO had;go_enter Tryz.func7,Tryz.ntmps7;go_wp2_with fail;rw[<-HW0.out];clear HW0;refine HH.out.mono ?_;rintro en w1 ⟨rfl,hR,hW1⟩;have hg:W0.heap.size<w1.heap.size:=World.block_lt_of_cell? w1 _ (hR 0 (by omega)).1;have Had1:=hyd (Had0.out.below hW1);have HadH:Had (some ⟨W0.heap.size,0,none⟩) n f w1:=fun _=>⟨_,0,rfl,hg,(hR.srow (by omega)).congr (fun i hi=>by simp[handed,hi])⟩
 have HP:Hid (Calls Tryz.prog 22 #[.slice (some ⟨W0.heap.size,0,none⟩) n (n+3)] w1 (PAns e r L w1)):=HO.out.2.2.1 _ (Or.inl rfl) _ _ w1 HadH;have HR:Hid (WRow W0.heap.size (handed f n) (n+3) w1/\Below W0.heap.size W0 w1):=⟨hR,hW1⟩;clear hR hW1 HH HadH;go_wp2_with fail;refine HP.out.mono ?_;rintro en w2 ⟨hW2,vv,rfl,hO2,hD2⟩;obtain⟨a,c,e1,e2,il2⟩:=y0n hO2;rw[e1];have HV:Hid ((∀i,1<=i->i<=3->vv i=.slice (a i) (L i).length (c i))/\(∀i,1<=i->i<=3->OwnL w1.heap.size (vv i) (L i) w2)/\(∀i j,1<=i->i<=3->1<=j->j<=3->i≠j->∀k,(vv i).ownBlock=some k->(vv j).ownBlock≠some k)/\(∀i,1<=i->i<=3->IL (a i) (fun j=>(L i).getD j 0) (L i).length w2)/\(∀r:Int,triC r vv=triC r (fun i=>.slice (a i) (L i).length (c i)))):=⟨e2,hO2,hD2,il2,e1⟩;have HB2:Hid (Below w1.heap.size w1 w2):=hW2;clear e1 e2 il2 hO2 hD2 hW2 HP;rw[q2s r a (fun i=>(L i).length) c];obtain⟨n1,hn1⟩:∃n1,n1=(L 1).length:=⟨_,rfl⟩;obtain⟨n2,hn2⟩:∃n2,n2=(L 2).length:=⟨_,rfl⟩;obtain⟨n3,hn3⟩:∃n3,n3=(L 3).length:=⟨_,rfl⟩;obtain⟨a1,ha1⟩:∃a1,a1=a 1:=⟨_,rfl⟩;obtain⟨a2,ha2⟩:∃a2,a2=a 2:=⟨_,rfl⟩;obtain⟨a3,ha3⟩:∃a3,a3=a 3:=⟨_,rfl⟩;obtain⟨c1,hc1⟩:∃c1,c1=c 1:=⟨_,rfl⟩;obtain⟨c2,hc2⟩:∃c2,c2=c 2:=⟨_,rfl⟩;obtain⟨c3,hc3⟩:∃c3,c3=c 3:=⟨_,rfl⟩;rw[<-hn1,<-hn2,<-hn3,<-ha1,<-ha2,<-ha3,<-hc1,<-hc2,<-hc3];have Hnm:Hid (n1=(L 1).length/\n2=(L 2).length/\n3=(L 3).length/\a1=a 1/\a2=a 2/\a3=a 3/\c1=c 1/\c2=c 2/\c3=c 3):=⟨hn1,hn2,hn3,ha1,ha2,ha3,hc1,hc2,hc3⟩;clear hn1 hn2 hn3 ha1 ha2 ha3 hc1 hc2 hc3;obtain⟨w3,hw3⟩:∃W,W=w2.alloc (.cells #[.int .i64 r,.slice a1 n1 c1,.slice a2 n2 c2,.slice a3 n3 c3] 25):=⟨_,rfl⟩;have B3:Below w2.heap.size w2 w3:=by rw[hw3];exact box_bel _ _
 have T3:TC w2.heap.size [.int .i64 r,.slice a1 n1 c1,.slice a2 n2 c2,.slice a3 n3 c3] w3:=by rw[hw3];exact TC.boxed w2 _ _
 have hs3:w3.heap.size=w2.heap.size+1:=by rw[hw3];simp
 have B13:Below w1.heap.size w1 w3:=HB2.out.trans (B3.mono HB2.out.size);have HRf:Hid (Calls Tryz.prog 10 #[.slice ad n cap] w3 (RAns e r L w3)):=HO.out.2.2.2 _ _ w3 (Had1.out.below B13);have Hw3:Hid (w3=w2.alloc (.cells #[.int .i64 r,.slice a1 n1 c1,.slice a2 n2 c2,.slice a3 n3 c3] 25)):=hw3;have H3:Hid (Below w2.heap.size w2 w3/\TC w2.heap.size [.int .i64 r,.slice a1 n1 c1,.slice a2 n2 c2,.slice a3 n3 c3] w3/\w3.heap.size=w2.heap.size+1/\Below w1.heap.size w1 w3):=⟨B3,T3,hs3,B13⟩;clear hw3 B3 T3 hs3 B13;go_wp2_with fail;rw[<-Hw3.out];refine HRf.out.mono ?_;rintro en w4 ⟨B4,a',c',rfl,il4⟩;rw[q2s r a' (fun i=>(L i).length) c'];obtain⟨b1,hb1⟩:∃b1,b1=a' 1:=⟨_,rfl⟩;obtain⟨b2,hb2⟩:∃b2,b2=a' 2:=⟨_,rfl⟩;obtain⟨b3,hb3⟩:∃b3,b3=a' 3:=⟨_,rfl⟩;obtain⟨d1,hd1⟩:∃d1,d1=c' 1:=⟨_,rfl⟩;obtain⟨d2,hd2⟩:∃d2,d2=c' 2:=⟨_,rfl⟩;obtain⟨d3,hd3⟩:∃d3,d3=c' 3:=⟨_,rfl⟩;rw[<-Hnm.out.1,<-Hnm.out.2.1,<-Hnm.out.2.2.1,<-hb1,<-hb2,<-hb3,<-hd1,<-hd2,<-hd3];obtain⟨w5,hw5⟩:∃W,W=w4.alloc (.cells #[.int .i64 r,.slice b1 n1 d1,.slice b2 n2 d2,.slice b3 n3 d3] 25):=⟨_,rfl⟩;have B5:Below w4.heap.size w4 w5:=by rw[hw5];exact box_bel _ _
 have T5:TC w4.heap.size [.int .i64 r,.slice b1 n1 d1,.slice b2 n2 d2,.slice b3 n3 d3] w5:=by rw[hw5];exact TC.boxed w4 _ _
 obtain⟨B3,T3,hs3,B13⟩:=H3.out;have B35:=B4.trans (B5.mono B4.size);have z35:=B35.size;have T3':TC w2.heap.size [.int .i64 r,.slice a1 n1 c1,.slice a2 n2 c2,.slice a3 n3 c3] w5:=T3.block (B35.block _ (by omega));have B15:=B13.trans (B35.mono B13.size);have HSt:Hid (Calls Tryz.prog 23 #[.slice (some ⟨W0.heap.size,0,none⟩) n (n+3),.slice ad n cap] w5 fun e w'=>e=.returned (.bool true)/\w'=w5):=by
  refine q9U W0.heap.size n cap ad f w5 hn (HR.out.1.below hg B15) (fun i hi=>?_);obtain⟨b,off,h1,h2,h3⟩:=(Had1.out.below B15) (by omega);exact⟨b,off,h1,h3 i hi⟩
 have HSm:Hid (Calls Tryz.prog 11 #[.agg #[.int .i64 r,.slice a1 n1 c1,.slice a2 n2 c2,.slice a3 n3 c3],.agg #[.int .i64 r,.slice b1 n1 d1,.slice b2 n2 d2,.slice b3 n3 d3]] w5 fun e w'=>e=.returned (.bool true)/\Below w5.heap.size w5 w'):=by
  show Calls _ _ _ _ _;have:=Bu.sameMachine_any r a a' (fun i=>(L i).length) c c' (fun i j=>(L i).getD j 0) w5 (fun i _ _=>by have:=HO.out.1 i;omega) (fun i i1 i2=>((HV.out.2.2.2.1 i i1 i2).below B3).below B35) (fun i i1 i2=>(il4 i i1 i2).below B5);rw[q2s r a (fun i=>(L i).length) c,q2s r a' (fun i=>(L i).length) c']at this;obtain⟨q1,q2,q3,q4,q5,q6,q7,q8,q9⟩:=Hnm.out;rw[q1,q2,q3,q4,q5,q6,q7,q8,q9,hb1,hb2,hb3,hd1,hd2,hd3];exact this
 have Hw5:=hyd hw5;have p0:=(T3' 0 _ rfl).1;have q0:=(T5 0 _ rfl).1;have p1:=(T3' 1 _ rfl).1;have q1:=(T5 1 _ rfl).1;have p2:=(T3' 2 _ rfl).1;have q2:=(T5 2 _ rfl).1;have p3:=(T3' 3 _ rfl).1;have q3:=(T5 3 _ rfl).1;have H5:=hyd3 B15 B35 T3';clear hw5 B5 T5 B3 T3 hs3 B13 B35 z35 T3' B15 B4 il4 hb1 hb2 hb3 hd1 hd2 hd3;go_wp2_with fail;rw[<-Hw5.out];refine HSt.out.mono ?_;rintro en w5' ⟨rfl,rfl⟩;go_wp2_with fail;clear p0 p1 p2 p3 q0 q1 q2 q3;refine HSm.out.mono ?_;rintro en w6 ⟨rfl,B6⟩;obtain⟨B15,B35,T3'⟩:=H5.out;obtain⟨B3,T3,hs3,B13⟩:=H3.out;obtain⟨T0,B0,hs0⟩:=H0.out;have z35:=B35.size;have z2:=HB2.out.size;have z1:=HR.out.2.size;have T6:TC w2.heap.size [.int .i64 r,.slice a1 n1 c1,.slice a2 n2 c2,.slice a3 n3 c3] w6:=T3'.block (B6.block _ (by omega));have p0:=(T6 0 _ rfl).1;have p1:=(T6 1 _ rfl).1;have p2:=(T6 2 _ rfl).1;have p3:=(T6 3 _ rfl).1;have B06:Below W0.heap.size W0 w6:=HR.out.2.trans ((B15.trans (B6.mono (by omega))).mono (by omega));have TZ:TC w.heap.size macZ w6:=T0.block (B06.block _ (by omega));have BB:Below w.heap.size w w6:=B0.trans (B06.mono (by omega));obtain⟨tz,BX,hfin,hG⟩:=q1e (.int .i64 r) (.slice a1 n1 c1) (.slice a2 n2 c2) (.slice a3 n3 c3) TZ BB;obtain⟨WX,hWX⟩:=nam (w6.setCells w.heap.size 0 [.int .i64 r,.slice a1 n1 c1,.slice a2 n2 c2,.slice a3 n3 c3]);rw[<-hWX]at BX hfin hG;have HX:Hid (BtPost r L w (.returned (.tuple #[.agg #[.int .i64 r,.slice a1 n1 c1,.slice a2 n2 c2,.slice a3 n3 c3],.bool true])) WX):=by
  obtain⟨v1,v2,v3,v4,v5⟩:=HV.out;refine⟨BX,vv,?_,fun i i1 i2=>?_,v3⟩
  ·obtain⟨q1,q2,q3,q4,q5,q6,q7,q8,q9⟩:=Hnm.out;rw[v5,q2s r a (fun i=>(L i).length) c,q1,q2,q3,q4,q5,q6,q7,q8,q9]
  ·have o:=v2 i i1 i2;have ob:=o.blk;have o2:=((o.below B3).below B35).below B6;exact(o2.grown hG (fun k hk e=>by have:=Option.some.inj e;have:=(ob k hk).1;omega)).mono (by omega)
 have HWX:=hyd hWX;have Hfin:=hyd hfin;clear hWX hfin hG BX B15 B35 T3' B3 T3 hs3 B13 T0 B0 hs0 z35 z2 z1 T6 B06 TZ BB B6;go_wp2_with (first|(with_reducible refine gst 25 ?_;refine Stop.out ?_));refine⟨?_⟩;refine wpList_store_mid rfl 25 _ _ rfl w.heap.size 0 #[.int .i64 r,.slice a1 n1 c1,.slice a2 n2 c2,.slice a3 n3 c3] rfl rfl tz q0D (by simp[Value.oneCell']) ?_;rw[List.toList_toArray,<-HWX.out];go_wp2_with fail;exact bodyPost_ret (v:=.tuple #[.agg #[.int .i64 r,.slice a1 n1 c1,.slice a2 n2 c2,.slice a3 n3 c3],.bool true]) (q0L Tryz.results7 rfl Hfin.out rfl) rfl HX.out
theorem y3k {L:Nat->List Int} (h:∀i,1<=i->i<=3->OwnL B (vv i) (L i) w) (hD:∀i j,1<=i->i<=3->1<=j->j<=3->i≠j->∀k,(vv i).ownBlock=some k->(vv j).ownBlock≠some k):
  ∃G C,ThR vv G C w/\∀i,1<=i->i<=3->0<C i->B<=G i/\G i<w.heap.size:=by
 have hx:∀i:Nat,∃g c,1<=i->i<=3->Rm (vv i) g c w/\(0<c->(vv i).ownBlock=some g):=fun i=>by
  by_cases hi:1<=i/\i<=3
  ·obtain⟨g,c,h1,h2⟩:=own_rm (h i hi.1 hi.2);exact⟨g,c,fun _ _=>⟨h1,h2⟩⟩
  ·exact⟨0,0,fun a b=>absurd ⟨a,b⟩ hi⟩
 obtain⟨G,hG⟩:=Classical.axiomOfChoice hx;obtain⟨C,hC⟩:=Classical.axiomOfChoice hG;refine⟨G,C,⟨fun i i1 i2=>(hC i i1 i2).1,fun i j i1 i2 j1 j2 hij ci cj e=>?_⟩,fun i i1 i2 ci=>(h i i1 i2).blk _ ((hC i i1 i2).2 ci)⟩;have h1:=(hC i i1 i2).2 ci;have h2:=(hC j j1 j2).2 cj;rw[<-e]at h2;exact hD i j i1 i2 j1 j2 hij _ h1 h2
theorem BtPost.flat {r:Nat}{L:Nat->List Int} (h:BtPost r L w en w'):∃(vv:Nat->Value) (a1 a2 a3:Option Addr) (n1 n2 n3 c1 c2 c3:Nat),
  en=.returned (.tuple #[.agg #[.int .i64 r,.slice a1 n1 c1,.slice a2 n2 c2,.slice a3 n3 c3],.bool true])/\Hid (Below w.heap.size w w'/\triC r vv=#[.int .i64 r,.slice a1 n1 c1,.slice a2 n2 c2,.slice a3 n3 c3]/\n1=(L 1).length/\n2=(L 2).length/\n3=(L 3).length /\
   (∀i,1<=i->i<=3->OwnL w.heap.size (vv i) (L i) w')/\∀i j,1<=i->i<=3->1<=j->j<=3->i≠j->∀k,(vv i).ownBlock=some k->(vv j).ownBlock≠some k):=by
 obtain⟨hB,vv,rfl,h1,h2⟩:=h;obtain⟨a,c,e1,e2,il⟩:=y0n h1;refine⟨vv,a 1,a 2,a 3,(L 1).length,(L 2).length,(L 3).length,c 1,c 2,c 3,?_,hB,e1 r,rfl,rfl,rfl,h1,h2⟩;rw[e1];rfl
theorem y2G {L:Nat->List Int}{r:Int}{a1 a2 a3:Option Addr}{n1 n2 n3 c1 c2 c3:Nat} (h:∀i,1<=i->i<=3->OwnL B (vv i) (L i) w) (e:triC r vv=#[.int .i64 r,.slice a1 n1 c1,.slice a2 n2 c2,.slice a3 n3 c3]):∀i,1<=i->i<=3->IL (tri a1 a2 a3 i) (fun j=>(L i).getD j 0) (L i).length w:=by
 unfold triC at e;have e':=Array.mk.inj e;simp only[List.cons.injEq,and_true,true_and]at e';obtain⟨e1,e2,e3⟩:=e';have key:∀i,1<=i->i<=3->∀a n c,vv i=.slice a n c->IL a (fun j=>(L i).getD j 0) (L i).length w:=fun i i1 i2 a n c hv=>by
  obtain⟨a',c',h1,h2⟩:=(h i i1 i2).il;rw[hv]at h1;rw[(Value.slice.inj h1).1];exact h2
 exact q2l (key 1 (by omega) (by omega) _ _ _ e1) (key 2 (by omega) (by omega) _ _ _ e2) (key 3 (by omega) (by omega) _ _ _ e3)
theorem q5E (ad:Option Addr) (n cap:Nat) (f:Nat->ByteArray) (w:World) (hn:n+3<=17592186044416) (hm:∀i,i<n->(f i).size<=maxLen) (had:Had ad n f w):
  Calls Tryz.prog 3 #[.slice ad n cap] w fun e w'=>e=.returned (.bool true)/\Below w.heap.size w w':=by
 have hz:=q1i;obtain⟨e,r,L,hO,_⟩:=y3H n f (by unfold maxLen;omega) hm;have HBt:Hid (∀w',Had ad n f w'->Calls Tryz.prog 7 #[.slice ad n cap] w' (BtPost r L w')):=fun w' h=>y0Q ad n cap f e r L w' hn hO h
 have HO:=hyd hO;have Had0:=hyd had;have HC1:=hyd (HBt.out w had);clear hO had hm;go_enter Tryz.func3,Tryz.ntmps3;go_wp2_with fail;refine HC1.out.mono ?_;intro en w1 hbt;obtain⟨vv,a1,a2,a3,n1,n2,n3,c1,c2,c3,rfl,H1⟩:=hbt.flat;clear hbt HC1;obtain⟨w2,hw2⟩:=nam (w1.alloc (.cells #[.int .i64 r,.slice a1 n1 c1,.slice a2 n2 c2,.slice a3 n3 c3] 25));have B2:Below w1.heap.size w1 w2:=by rw[hw2];exact box_bel _ _
 have T2:TC w1.heap.size [.int .i64 r,.slice a1 n1 c1,.slice a2 n2 c2,.slice a3 n3 c3] w2:=by rw[hw2];exact TC.boxed w1 _ _
 have s2:w2.heap.size=w1.heap.size+1:=by rw[hw2];simp
 obtain⟨G,C,hth,hGB⟩:=y3k H1.out.2.2.2.2.2.1 H1.out.2.2.2.2.2.2;have s1:=H1.out.1.size;have HFm:Hid (Calls Tryz.prog 8 #[.agg #[.int .i64 r,.slice a1 n1 c1,.slice a2 n2 c2,.slice a3 n3 c3]] w2 fun e w'=>e=.returned (.tuple #[])/\ThR vv G C w'/\(∀i,1<=i->i<=3->NRow (G i) (fun _=>7777776+(i:Int)) (C i) w')/\Below w.heap.size w2 w'/\(∀q,q<w2.heap.size->(∀i,1<=i->i<=3->0<C i->q≠G i)->w'.heap[q]?=w2.heap[q]?)/\w2.heap.size<=w'.heap.size):=by
  show Calls _ _ _ _ _;rw[<-H1.out.2.1];exact Bu.fullMachine_any r vv G C w.heap.size w2 (hth.below B2) (fun i i1 i2 ci=>(hGB i i1 i2 ci).1) (by omega)
 have Hw2:=hyd hw2;have p0:=(T2 0 _ rfl).1;have p1:=(T2 1 _ rfl).1;have p2:=(T2 2 _ rfl).1;have p3:=(T2 3 _ rfl).1;rw[hw2]at p0 p1 p2 p3;have H2:=hyd5 (H1.out.1.trans (B2.mono s1)) T2 s2 hGB s1;clear hw2 B2 T2 s2 hth hGB s1;go_wp2_with fail;rw[<-Hw2.out];clear p0 p1 p2 p3;refine HFm.out.mono ?_;rintro en w3 ⟨rfl,th3,nr3,B23,kp3,z3⟩;obtain⟨B02,T2,s2,hGB,s1⟩:=H2.out;have B03:=B02.trans B23;have T3:TC w1.heap.size [.int .i64 r,.slice a1 n1 c1,.slice a2 n2 c2,.slice a3 n3 c3] w3:=T2.block (kp3 _ (by omega) (fun i i1 i2 ci e=>by have:=(hGB i i1 i2 ci).2;omega));have Had3:=Had0.out.below B03;have HC3:=hyd (HBt.out w3 Had3);have H3:Hid (ThR vv G C w3/\(∀i,1<=i->i<=3->NRow (G i) (fun _=>7777776+(i:Int)) (C i) w3)/\Below w.heap.size w w3/\TC w1.heap.size [.int .i64 r,.slice a1 n1 c1,.slice a2 n2 c2,.slice a3 n3 c3] w3/\w1.heap.size<w3.heap.size/\(∀i,1<=i->i<=3->0<C i->w.heap.size<=G i/\G i<w1.heap.size)/\triC r vv=#[.int .i64 r,.slice a1 n1 c1,.slice a2 n2 c2,.slice a3 n3 c3]):=⟨th3,nr3,B03,T3,by omega,hGB,H1.out.2.1⟩;clear th3 nr3 B23 kp3 z3 B02 T2 s2 hGB s1 B03 T3 Had3 H2 HFm Hw2;go_wp2_with fail;refine HC3.out.mono ?_;intro en w4 hbt;obtain⟨uu,b1,b2,b3,m1,m2,m3,d1,d2,d3,rfl,H4⟩:=hbt.flat;clear hbt HC3;obtain⟨w5,hw5⟩:=nam (w4.alloc (.cells #[.int .i64 r,.slice b1 m1 d1,.slice b2 m2 d2,.slice b3 m3 d3] 25));have B5:Below w4.heap.size w4 w5:=by rw[hw5];exact box_bel _ _
 have T5:TC w4.heap.size [.int .i64 r,.slice b1 m1 d1,.slice b2 m2 d2,.slice b3 m3 d3] w5:=by rw[hw5];exact TC.boxed w4 _ _
 have s5:w5.heap.size=w4.heap.size+1:=by rw[hw5];simp
 obtain⟨th3,nr3,B03,T3,z3,hGB,ev⟩:=H3.out;have B34:=H4.out.1;have s34:=B34.size;have B35:=B34.trans (B5.mono s34);have T35:TC w1.heap.size [.int .i64 r,.slice a1 n1 c1,.slice a2 n2 c2,.slice a3 n3 c3] w5:=T3.block (B35.block _ z3);have th5:=th3.below B35;have nr5:∀i,1<=i->i<=3->NRow (G i) (fun _=>7777776+(i:Int)) (C i) w5:=fun i i1 i2=>(nr3 i i1 i2).below B35
 have HFl:Hid (Calls Tryz.prog 9 #[.agg #[.int .i64 r,.slice a1 n1 c1,.slice a2 n2 c2,.slice a3 n3 c3]] w5 fun e w'=>e=.returned (.bool true)/\Below w5.heap.size w5 w'):=by
  show Calls _ _ _ _ _;rw[<-ev];exact Bu.filledMachine_any r vv G C w5 th5 nr5
 have Hw5:=hyd hw5;have p0:=(T35 0 _ rfl).1;have p1:=(T35 1 _ rfl).1;have p2:=(T35 2 _ rfl).1;have p3:=(T35 3 _ rfl).1;rw[hw5]at p0 p1 p2 p3;have H5:Hid (ThR vv G C w5/\Below w.heap.size w w5/\TC w1.heap.size [.int .i64 r,.slice a1 n1 c1,.slice a2 n2 c2,.slice a3 n3 c3] w5/\TC w4.heap.size [.int .i64 r,.slice b1 m1 d1,.slice b2 m2 d2,.slice b3 m3 d3] w5/\w5.heap.size=w4.heap.size+1/\(∀i,1<=i->i<=3->OwnL w3.heap.size (uu i) (L i) w5)/\w3.heap.size<=w4.heap.size):=⟨th5,B03.trans (B35.mono B03.size),T35,T5,s5,fun i i1 i2=>(H4.out.2.2.2.2.2.1 i i1 i2).below B5,s34⟩;clear hw5 B5 T5 s5 th3 nr3 B03 T3 B34 s34 B35 T35 th5 nr5 ev z3 hGB;go_wp2_with fail;rw[<-Hw5.out];clear p0 p1 p2 p3;refine HFl.out.mono ?_;rintro en w6 ⟨rfl,B6⟩;obtain⟨th5,B05,T35,T5,s5,ow5,s34⟩:=H5.out;obtain⟨_,_,B03,_,z3,hGB,ev⟩:=H3.out;have s6:=B6.size;have T36:TC w1.heap.size [.int .i64 r,.slice a1 n1 c1,.slice a2 n2 c2,.slice a3 n3 c3] w6:=T35.block (B6.block _ (by omega));have T6:TC w4.heap.size [.int .i64 r,.slice b1 m1 d1,.slice b2 m2 d2,.slice b3 m3 d3] w6:=T5.block (B6.block _ (by omega));have HFm:Hid (Calls Tryz.prog 8 #[.agg #[.int .i64 r,.slice a1 n1 c1,.slice a2 n2 c2,.slice a3 n3 c3]] w6 fun e w'=>e=.returned (.tuple #[])/\ThR vv G C w'/\(∀i,1<=i->i<=3->NRow (G i) (fun _=>7777776+(i:Int)) (C i) w')/\Below w.heap.size w6 w'/\(∀q,q<w6.heap.size->(∀i,1<=i->i<=3->0<C i->q≠G i)->w'.heap[q]?=w6.heap[q]?)/\w6.heap.size<=w'.heap.size):=by
  show Calls _ _ _ _ _;rw[<-ev];exact Bu.fullMachine_any r vv G C w.heap.size w6 (th5.below B6) (fun i i1 i2 ci=>(hGB i i1 i2 ci).1) (by have:=B05.size;omega)
 have p0:=(T36 0 _ rfl).1;have p1:=(T36 1 _ rfl).1;have p2:=(T36 2 _ rfl).1;have p3:=(T36 3 _ rfl).1;have H6:Hid (Below w.heap.size w w6/\TC w4.heap.size [.int .i64 r,.slice b1 m1 d1,.slice b2 m2 d2,.slice b3 m3 d3] w6/\w4.heap.size<w6.heap.size/\w3.heap.size<=w4.heap.size/\w1.heap.size<w3.heap.size/\(∀i,1<=i->i<=3->OwnL w3.heap.size (uu i) (L i) w6)/\(∀i,1<=i->i<=3->0<C i->w.heap.size<=G i/\G i<w1.heap.size)):=⟨B05.trans (B6.mono B05.size),T6,by omega,s34,z3,fun i i1 i2=>(ow5 i i1 i2).below B6,hGB⟩;clear th5 B05 T35 T5 s5 ow5 s34 B03 z3 hGB ev s6 T36 T6 B6 H5 H3 HFl Hw5;go_wp2_with fail;clear p0 p1 p2 p3;refine HFm.out.mono ?_;rintro en w7 ⟨rfl,_,_,B67,kp7,z7⟩;obtain⟨B06,T6,z6,z34,z13,ow6,hGB⟩:=H6.out;have kp:∀q,w1.heap.size<=q->q<w6.heap.size->w7.heap[q]?=w6.heap[q]?:=fun q h1 h2=>kp7 q h2 (fun i i1 i2 ci e=>by have:=(hGB i i1 i2 ci).2;omega)
 have T7:TC w4.heap.size [.int .i64 r,.slice b1 m1 d1,.slice b2 m2 d2,.slice b3 m3 d3] w7:=T6.block (kp _ (by omega) z6);have ow7:∀i,1<=i->i<=3->OwnL w3.heap.size (uu i) (L i) w7:=fun i i1 i2=>(ow6 i i1 i2).keep (fun k hk=>by
  have:=(ow6 i i1 i2).blk k hk;exact kp k (by omega) this.2)
 have B07:Below w.heap.size w w7:=B06.trans B67;have HRf:Hid (Calls Tryz.prog 10 #[.slice ad n cap] w7 (RAns e r L w7)):=HO.out.2.2.2 _ _ w7 (Had0.out.below B07);have H7:Hid (Below w.heap.size w w7/\TC w4.heap.size [.int .i64 r,.slice b1 m1 d1,.slice b2 m2 d2,.slice b3 m3 d3] w7/\w4.heap.size<w7.heap.size/\(∀i,1<=i->i<=3->OwnL w3.heap.size (uu i) (L i) w7)):=⟨B07,T7,by omega,ow7⟩;clear B67 kp7 z7 B06 T6 z6 z34 z13 ow6 hGB kp T7 ow7 B07 HFm H6;go_wp2_with fail;refine HRf.out.mono ?_;rintro en w8 ⟨B8,a',c',rfl,il8⟩;rw[q2s r a' (fun i=>(L i).length) c'];obtain⟨f1,hf1⟩:∃f1,f1=a' 1:=⟨_,rfl⟩;obtain⟨f2,hf2⟩:∃f2,f2=a' 2:=⟨_,rfl⟩;obtain⟨f3,hf3⟩:∃f3,f3=a' 3:=⟨_,rfl⟩;obtain⟨g1,hg1⟩:∃g1,g1=c' 1:=⟨_,rfl⟩;obtain⟨g2,hg2⟩:∃g2,g2=c' 2:=⟨_,rfl⟩;obtain⟨g3,hg3⟩:∃g3,g3=c' 3:=⟨_,rfl⟩;obtain⟨_,eu,q1,q2,q3,_,_⟩:=H4.out;rw[<-q1,<-q2,<-q3,<-hf1,<-hf2,<-hf3,<-hg1,<-hg2,<-hg3];obtain⟨w9,hw9⟩:∃W,W=w8.alloc (.cells #[.int .i64 r,.slice f1 m1 g1,.slice f2 m2 g2,.slice f3 m3 g3] 25):=⟨_,rfl⟩;have B9:Below w8.heap.size w8 w9:=by rw[hw9];exact box_bel _ _
 have T9:TC w8.heap.size [.int .i64 r,.slice f1 m1 g1,.slice f2 m2 g2,.slice f3 m3 g3] w9:=by rw[hw9];exact TC.boxed w8 _ _
 obtain⟨B07,T7,z47,ow7⟩:=H7.out;have B79:=B8.trans (B9.mono B8.size);have T79:TC w4.heap.size [.int .i64 r,.slice b1 m1 d1,.slice b2 m2 d2,.slice b3 m3 d3] w9:=T7.block (B79.block _ z47);have HSm:Hid (Calls Tryz.prog 11 #[.agg #[.int .i64 r,.slice b1 m1 d1,.slice b2 m2 d2,.slice b3 m3 d3],.agg #[.int .i64 r,.slice f1 m1 g1,.slice f2 m2 g2,.slice f3 m3 g3]] w9 fun e w'=>e=.returned (.bool true)/\Below w9.heap.size w9 w'):=by
  show Calls _ _ _ _ _;have hil:=y2G ow7 eu;have:=Bu.sameMachine_any r (tri b1 b2 b3) a' (fun i=>(L i).length) (tri d1 d2 d3) c' (fun i j=>(L i).getD j 0) w9 (fun i _ _=>by have:=HO.out.1 i;omega) (fun i i1 i2=>(hil i i1 i2).below B79) (fun i i1 i2=>(il8 i i1 i2).below B9);rw[q2s r (tri b1 b2 b3) (fun i=>(L i).length) (tri d1 d2 d3),q2s r a' (fun i=>(L i).length) c']at this;rw[q1,q2,q3,hf1,hf2,hf3,hg1,hg2,hg3];exact this
 have Hw9:=hyd hw9;have p0:=(T79 0 _ rfl).1;have p1:=(T79 1 _ rfl).1;have p2:=(T79 2 _ rfl).1;have p3:=(T79 3 _ rfl).1;have p4:=(T9 0 _ rfl).1;have p5:=(T9 1 _ rfl).1;have p6:=(T9 2 _ rfl).1;have p7:=(T9 3 _ rfl).1;rw[hw9]at p0 p1 p2 p3 p4 p5 p6 p7;have H9:=hyd (B07.trans (B79.mono B07.size));clear hw9 B9 T9 B07 T7 z47 ow7 B79 T79 hf1 hf2 hf3 hg1 hg2 hg3 eu q1 q2 q3 B8 il8;go_wp2_with fail;rw[<-Hw9.out];clear p0 p1 p2 p3 p4 p5 p6 p7;refine HSm.out.mono ?_;rintro en w10 ⟨rfl,B10⟩;go_wp2_with fail;go_ret;exact⟨rfl,H9.out.trans (B10.mono H9.out.size)⟩
end Go.Proofs.YtoaaklhpmhjhkaaGreat
