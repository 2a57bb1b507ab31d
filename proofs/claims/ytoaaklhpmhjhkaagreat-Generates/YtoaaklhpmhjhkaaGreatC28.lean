import Derived.Test.YtoaaklhpmhjhkaaGreatC26
import Derived.Test.YtoaaklhpmhjhkaaGreatC27
set_option maxRecDepth 100000
set_option maxHeartbeats 4000000
set_option linter.all false
namespace Go.Proofs.YtoaaklhpmhjhkaaGreat
section
open Go.RowKit
open Bm
variable {x:Int}{i n:Nat}{E:Nat->N_}{rw:Nat->Nat->Int}
theorem Mf (y:Eqv E n) {f:Nat->Int} (z:∀b,b<n->f b=idxI E b):∀k,k<=n->XW f k=some (cnt E k)
 |0,_=>rfl
 |k+1,hk=>by
  have ih:=Mf y z k (by omega);obtain⟨h1,h2⟩:=rep_new y (show k<n by omega);have h3:f k=(idx E k:Int):=z k (by omega);rw[XW,ih,cnt_succ];simp only;rw[if_neg (by rw[h3];omega)];by_cases h:least E k=k
  ·rw[if_pos (by rw[h3,h1.2 h]),if_pos h]
  rw[if_neg (λe=>h (h1.1 (by rw[h3]at e;omega))),if_neg h];rfl
theorem DB (es:Nat->Rx) (n:Nat) (y:Y2 es n<=96) {ls:List Nat}{s k:Nat}{l:List (N_)}{t:List Int} (h:WS (VT es n) (X5 es n) ls s k l t):∀g∈l,JD (Y2 es n) n g:=by
 induction h with
 |first=>intro g a;rw[ZC.1 a];exact MC es n y
 |@kind s k l t f b h hf hb hr ih=>
  intro g a;unfold WP at a;split at a
  ·exact ih g a
  split at a
  ·exact ih g a
  rcases ZU.1 a with a|a
  ·exact ih g a
  rw[ZC.1 a];exact KW es n y f b
 |set h hs ih=>exact ih
theorem Fb {y:List Nat}{S:Nat} (h:x∈WQ rw y S):∃s j,s<S/\j<y.length/\x=rw s (y.getD j 0):=by
 obtain⟨s,hs,h⟩:=List.mem_flatMap.1 h;obtain⟨j,a,h⟩:=List.mem_map.1 h;exact⟨s,j,ZI.1 hs,ZI.1 a,h.symm⟩
theorem QR {α:Type}{l:List α}{d:α} (h:i<l.length):l.getD i d∈l:=by
 rw[Zf,Zd h];exact List.getElem_mem h
end
section
open Go.RowKit
open Bm Bu
def E4 (r:Nat) (L:Nat->List Int):Mc:=⟨r,λi=>(L 1).getD i 0,(L 1).length,λi=>(L 2).getD i 0,(L 2).length,λi=>(L 3).getD i 0,(L 3).length⟩
variable {n:Nat}
theorem Iz {r:Nat}{L:Nat->List Int} (h:BW n r L):WO (E4 r L):=by
 obtain⟨rfl,h1,E,es,l,t,A,B,y,w,u,J,rfl⟩:=h;have c:=Fk es r h1 E y B w;rw[<-u]at c;obtain⟨S,H,V⟩:=NU c (CJ es r) (λ_ _=>rfl);have f:A.N=l.length:=by rw[u];rfl
 have M:0<A.N:=by rw[f];exact w.size.1
 have T:0<cnt (alB A) A.N:=Nat.lt_of_le_of_lt (Nat.zero_le _) (cnt_lt (Nat.le_zero.1 (least_le _ 0)) M);have v:Eqv (Cl (RN A (λi b=>t.getD (i*(TV es r).length+idx (Kq (Xn es r) (Y2 es r)) b) (-1)) (reps (alB A) A.N)) (cnt (alB A) A.N)) 256:=Nh _ _ _;have m:Vg (λi=>(Sy es r A 1).getD i 0) 256=cnt (Cl (Yz A (alB A)) (cnt (alB A) A.N)) A.K:=by
  have h2:XW (λi=>(Sy es r A 1).getD i 0) 256=some _:=Mf v S 256 (Zg _);unfold Vg;rw[if_pos rfl,h2,<-H];rfl
 have z:0<cnt (Cl (Yz A (alB A)) (cnt (alB A) A.N)) A.K:=by
  rw[<-H];exact Nat.lt_of_le_of_lt (Nat.zero_le _) (cnt_lt (Nat.le_zero.1 (least_le _ 0)) (by omega))
 have G:(Sy es r A 1).length=256:=Uh _ _ _;have p:(Sy es r A 2).length=cnt (alB A) A.N:=Uo _ _ _;have R:(Sy es r A 3).length=cnt (alB A) A.N*cnt (Cl (Yz A (alB A)) (cnt (alB A) A.N)) A.K:=by show(WQ _ _ _).length=_;rw[Ur];rfl
 have a:∀s,s<cnt (alB A) A.N->(reps (alB A) A.N).getD s 0<A.N:=λs hs=>by
  have h2:=List.mem_filter.1 (QR (d:=0) (show s<(reps (alB A) A.N).length from hs));exact ZI.1 h2.1
 refine⟨⟨?_,?_,?_,?_⟩,?_,?_⟩
 ·show(1:Int)<=r/\(r:Int)<=8;omega
 ·show 1<=(Sy es r A 2).length/\(Sy es r A 2).length<=96;rw[p];omega
 ·show 0<Vg (λi=>(Sy es r A 1).getD i 0) (Sy es r A 1).length;rw[G,m];exact z
 ·show ∀i,i<(Sy es r A 2).length->-1<=(Sy es r A 2).getD i 0/\(Sy es r A 2).getD i 0<=(r:Int)-1;intro i o;rw[p]at o;have e:(Sy es r A 2).getD i 0=A.vd ((reps (alB A) A.N).getD i 0):=by
   show(U7 A (alB A) (cnt (alB A) A.N)).getD i 0=_;simp[U7,Zf,o]
  have hs:=ZH (a i o) (Nat.le_of_eq f);have P:=DB es r y w _ (QR (d:=U9) hs);have Q:A.vd ((reps (alB A) A.N).getD i 0)=To (λq=>(l.getD ((reps (alB A) A.N).getD i 0) U9) (96+q)) 8 0:=by rw[u];rfl
  rw[e,Q,<-IA y E P];have:=Jv (λq=>em (Y2 es r) (l.getD ((reps (alB A) A.N).getD i 0) U9) (Y2 es r+q)) r 0;omega
 ·show(Sy es r A 3).length=(Sy es r A 2).length*Vg (λi=>(Sy es r A 1).getD i 0) (Sy es r A 1).length;rw[G,p,R,m]
 show ∀i,i<(Sy es r A 3).length->-1<=(Sy es r A 3).getD i 0/\(Sy es r A 3).getD i 0<=((Sy es r A 2).length:Int)-1;intro i o;obtain⟨s,j,hs,O,e⟩:=Fb (QR (d:=0) o);have e':(Sy es r A 3).getD i 0=Yz A (alB A) s ((reps (Cl (Yz A (alB A)) (cnt (alB A) A.N)) A.K).getD j 0):=e;rw[p,e'];have F:(reps (Cl (Yz A (alB A)) (cnt (alB A) A.N)) A.K).getD j 0<A.K:=ZI.1 (List.mem_filter.1 (QR (d:=0) O)).1;obtain⟨k,D⟩:∃k,k=(reps (Cl (Yz A (alB A)) (cnt (alB A) A.N)) A.K).getD j 0:=⟨_,rfl⟩;rw[<-D]at F ⊢;have U:=c.g.rng _ _ (a s hs) F;unfold Yz gAt;split
 ·omega
 have I:(A.to ((reps (alB A) A.N).getD s 0) k).toNat<A.N:=by omega
 have:=idx_lt (alB_eqv A A.N) I;have C:∀x,idxI (alB A) x=(idx (alB A) x:Int):=λ_=>rfl
 rw[C];omega
end
end Go.Proofs.YtoaaklhpmhjhkaaGreat
