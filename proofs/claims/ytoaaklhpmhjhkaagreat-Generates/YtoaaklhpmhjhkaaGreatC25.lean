import Derived.Test.YtoaaklhpmhjhkaaGreatC15
import Derived.Test.YtoaaklhpmhjhkaaGreatC16
set_option maxRecDepth 100000
set_option maxHeartbeats 4000000
set_option linter.all false
namespace Go.Proofs.YtoaaklhpmhjhkaaGreat
open Go.RowKit
theorem Da:BT:=by
 intro f n;by_cases a:∀j,j<n->(Pg.wrong (Y7 (f j)) (f j).size).1=0
 ·have o:∀j,∃V:Int,j<n->(∃g,Rf.cnt g true (f j).data.toList=some V)/\0<=V/\Ym (f j)=Pg.capped V:=by
   intro j;by_cases b:j<n
   ·obtain⟨_,h⟩:=XT (f j);obtain⟨V,g,h1,h2,h3⟩:=LE (f j) (h (a j b)).2.2;exact⟨V,λ_=>⟨⟨g,h1⟩,h2,h3⟩⟩
   exact⟨0,λh=>absurd h b⟩
  obtain⟨vs,c⟩:=Classical.axiomOfChoice o;have hs:=(LY (u:=λj=>Ym (f j)) (v:=vs) n (λi d=>(c i d).2)).1;refine⟨if 96<Ye vs n then 7 else 0,0,0,Or.inr ⟨a,rfl,rfl,?_⟩,Or.inr ⟨λj b=>?_,rfl,rfl,vs,λj b=>(c j b).1,rfl⟩⟩
  ·by_cases h:96<Ye vs n
   ·rw[if_pos h,if_pos (hs.2 h)]
   rw[if_neg h,if_neg (λl=>h (hs.1 l))]
  obtain⟨h1,h2⟩:=XT (f j);have:=h2 (a j b);rw[a j b,this.1]at h1;exact⟨h1,this.2.1⟩
 have:∃i,i<n/\(∀j,j<i->(Pg.wrong (Y7 (f j)) (f j).size).1=0)/\(Pg.wrong (Y7 (f i)) (f i).size).1≠0:=by
  have p:∀m,m<=n->(∀j,j<m->(Pg.wrong (Y7 (f j)) (f j).size).1=0)\/∃i,i<n/\(∀j,j<i->(Pg.wrong (Y7 (f j)) (f j).size).1=0)/\(Pg.wrong (Y7 (f i)) (f i).size).1≠0:=by
   intro m
   induction m with
   |zero=>intro _;exact Or.inl (λj b=>by omega)
   |succ m ih=>
    intro q;rcases ih (by omega)with h|h
    ·by_cases k:(Pg.wrong (Y7 (f m)) (f m).size).1=0
     ·refine Or.inl (λj b=>?_);by_cases e:j=m
      ·subst e;exact k
      exact h j (by omega)
     exact Or.inr ⟨m,by omega,h,k⟩
    exact Or.inr h
  rcases p n (Zg _)with h|h
  ·exact absurd h a
  exact h
 obtain⟨i,d,h1,h2⟩:=this;refine⟨(Pg.wrong (Y7 (f i)) (f i).size).1,i,(Pg.wrong (Y7 (f i)) (f i).size).2,Or.inl ⟨i,d,h1,rfl,h2,rfl⟩,Or.inl ⟨i,d,λj b=>?_,(XT (f i)).1,h2,rfl⟩⟩;obtain⟨g1,g2⟩:=XT (f j);have:=g2 (h1 j b);rw[h1 j b,this.1]at g1;exact g1
end Go.Proofs.YtoaaklhpmhjhkaaGreat
