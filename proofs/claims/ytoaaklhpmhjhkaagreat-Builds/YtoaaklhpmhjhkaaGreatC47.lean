import Derived.Test.YtoaaklhpmhjhkaaGreatC23
import Derived.Test.YtoaaklhpmhjhkaaGreatC26
set_option maxRecDepth 100000
set_option maxHeartbeats 4000000
set_option linter.all false
namespace Go.Proofs.YtoaaklhpmhjhkaaGreat
open Go.RowKit
theorem agree:Agree:=by
 intro f n;by_cases hall:∀j,j<n->(Pg.wrong (bat (f j)) (f j).size).1=0
 ·have hV:∀j,∃V:Int,j<n->(∃g,Rf.cnt g true (f j).data.toList=some V)/\0<=V/\placesP (f j)=Pg.capped V:=by
   intro j;by_cases hj:j<n
   ·obtain⟨_,h⟩:=q0N (f j);obtain⟨V,g,h1,h2,h3⟩:=q7c (f j) (h (hall j hj)).2.2;exact⟨V,fun _=>⟨⟨g,h1⟩,h2,h3⟩⟩
   ·exact⟨0,fun h=>absurd h hj⟩
  obtain⟨vs,hvs⟩:=Classical.axiomOfChoice hV;have hs:=(q7G (u:=fun j=>placesP (f j)) (v:=vs) n (fun i hi=>(hvs i hi).2)).1;refine⟨if 96<sumTo vs n then 7 else 0,0,0,Or.inr ⟨hall,rfl,rfl,?_⟩,Or.inr ⟨fun j hj=>?_,rfl,rfl,vs,fun j hj=>(hvs j hj).1,rfl⟩⟩
  ·by_cases h:96<sumTo vs n
   ·rw[if_pos h,if_pos (hs.2 h)]
   ·rw[if_neg h,if_neg (fun h'=>h (hs.1 h'))]
  ·obtain⟨h1,h2⟩:=q0N (f j);have:=h2 (hall j hj);rw[hall j hj,this.1]at h1;exact⟨h1,this.2.1⟩
 ·have:∃i,i<n/\(∀j,j<i->(Pg.wrong (bat (f j)) (f j).size).1=0)/\(Pg.wrong (bat (f i)) (f i).size).1≠0:=by
   have hx:∀m,m<=n->(∀j,j<m->(Pg.wrong (bat (f j)) (f j).size).1=0)\/∃i,i<n/\(∀j,j<i->(Pg.wrong (bat (f j)) (f j).size).1=0)/\(Pg.wrong (bat (f i)) (f i).size).1≠0:=by
    intro m
    induction m with
    |zero=>intro _;exact Or.inl (fun j hj=>by omega)
    |succ m ih=>
     intro hm;rcases ih (by omega)with h|h
     ·by_cases he:(Pg.wrong (bat (f m)) (f m).size).1=0
      ·refine Or.inl (fun j hj=>?_);by_cases e:j=m
       ·subst e;exact he
       ·exact h j (by omega)
      ·exact Or.inr ⟨m,by omega,h,he⟩
     ·exact Or.inr h
   rcases hx n (Nat.le_refl _)with h|h
   ·exact absurd h hall
   ·exact h
  obtain⟨i,hi,h1,h2⟩:=this;refine⟨(Pg.wrong (bat (f i)) (f i).size).1,i,(Pg.wrong (bat (f i)) (f i).size).2,Or.inl ⟨i,hi,h1,rfl,h2,rfl⟩,Or.inl ⟨i,hi,fun j hj=>?_,(q0N (f i)).1,h2,rfl⟩⟩;obtain⟨g1,g2⟩:=q0N (f j);have:=g2 (h1 j hj);rw[h1 j hj,this.1]at g1;exact g1
end Go.Proofs.YtoaaklhpmhjhkaaGreat
