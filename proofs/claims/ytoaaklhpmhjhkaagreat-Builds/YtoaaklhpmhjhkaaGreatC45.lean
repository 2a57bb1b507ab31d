import Derived.Test.YtoaaklhpmhjhkaaGreatC21
import Derived.Test.YtoaaklhpmhjhkaaGreatC24
set_option maxRecDepth 100000
set_option maxHeartbeats 4000000
set_option linter.all false
namespace Go.Proofs.YtoaaklhpmhjhkaaGreat
open Go.RowKit
theorem agree:Agree:=by
 intro f n;by_cases a:∀j,j<n->(Pg.wrong (bat (f j)) (f j).size).1=0
 ·have t:∀j,∃V:Int,j<n->(∃g,Rf.cnt g true (f j).data.toList=some V)/\0<=V/\placesP (f j)=Pg.capped V:=by
   intro j;by_cases b:j<n
   ·obtain⟨_,h⟩:=q0N (f j);obtain⟨V,g,c,d,s⟩:=q7c (f j) (h (a j b)).2.2;exact⟨V,λ_=>⟨⟨g,c⟩,d,s⟩⟩
   exact⟨0,λh=>absurd h b⟩
  obtain⟨vs,k⟩:=Classical.axiomOfChoice t;have hs:=(q7G (u:=λj=>placesP (f j)) (v:=vs) n (λi l=>(k i l).2)).1;refine⟨if 96<sumTo vs n then 7 else 0,0,0,Or.inr ⟨a,rfl,rfl,?_⟩,Or.inr ⟨λj b=>?_,rfl,rfl,vs,λj b=>(k j b).1,rfl⟩⟩
  ·by_cases h:96<sumTo vs n
   ·rw[if_pos h,if_pos (hs.2 h)]
   rw[if_neg h,if_neg (λr=>h (hs.1 r))]
  obtain⟨c,d⟩:=q0N (f j);have:=d (a j b);rw[a j b,this.1]at c;exact⟨c,this.2.1⟩
 have:∃i,i<n/\(∀j,j<i->(Pg.wrong (bat (f j)) (f j).size).1=0)/\(Pg.wrong (bat (f i)) (f i).size).1≠0:=by
  have w:∀m,m<=n->(∀j,j<m->(Pg.wrong (bat (f j)) (f j).size).1=0)\/∃i,i<n/\(∀j,j<i->(Pg.wrong (bat (f j)) (f j).size).1=0)/\(Pg.wrong (bat (f i)) (f i).size).1≠0:=by
   intro m
   induction m with
   |zero=>intro _;exact Or.inl (λj b=>by omega)
   |succ m ih=>
    intro x;rcases ih (by omega)with h|h
    ·by_cases p:(Pg.wrong (bat (f m)) (f m).size).1=0
     ·refine Or.inl (λj b=>?_);by_cases e:j=m
      ·subst e;exact p
      exact h j (by omega)
     exact Or.inr ⟨m,by omega,h,p⟩
    exact Or.inr h
  rcases w n (Nat.le_refl _)with h|h
  ·exact absurd h a
  exact h
 obtain⟨i,l,c,d⟩:=this;refine⟨(Pg.wrong (bat (f i)) (f i).size).1,i,(Pg.wrong (bat (f i)) (f i).size).2,Or.inl ⟨i,l,c,rfl,d,rfl⟩,Or.inl ⟨i,l,λj b=>?_,(q0N (f i)).1,d,rfl⟩⟩;obtain⟨o,q⟩:=q0N (f j);have:=q (c j b);rw[c j b,this.1]at o;exact o
end Go.Proofs.YtoaaklhpmhjhkaaGreat
