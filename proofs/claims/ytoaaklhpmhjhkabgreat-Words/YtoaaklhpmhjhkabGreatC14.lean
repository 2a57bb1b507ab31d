import Derived.WalkSpells
import Derived.WalkLawsBesides
import Derived.Deep.QuietTactic
import Derived.BigQuiet
import Derived.Deep.RegionHeld3
import Derived.Test.YtoaaklhpmhjhkabGreatSp
import Derived.Test.YtoaaklhpmhjhkabGreatC01
set_option maxRecDepth 100000
set_option maxHeartbeats 4000000
set_option linter.all false
namespace Go.Proofs.YtoaaklhpmhjhkabGreat
open Go.RowKit
theorem Pm (w:World) (b k:Nat) (v:Value):Below b w (w.setCell ⟨b,k,none⟩ v):=
 (Below.refl b w).setCell (p:=⟨b,k,none⟩) (Nat.le_refl b) v
def WV (g:Nat) (f:Nat->Bool) (w:World):Prop:=∀k,k<256->w.cell? ⟨g,k,none⟩=some (.bool (f k))/\w.frozen? ⟨g,k,none⟩=false
variable {B b g n:Nat}{f':N_}{w w':World}
theorem WV.set {f:Nat->Bool} (h:WV g f w) (j:Nat) (hj:j<256) (b:Bool):WV g (fun k=>if k=j then b else f k) (w.setCell ⟨g,j,none⟩ (.bool b)):=fun k hk=>by
 obtain⟨hc,hf⟩:=h k hk;obtain⟨hc',hf'⟩:=h j hj;refine⟨?_,?_⟩
 ·by_cases e:k=j
  ·subst e;simp;go_simp
  ·simp only[if_neg e];rw[World.cell?_setCell_other _ _ _ _ (by intro he;cases he;exact e rfl)];exact hc
 ·go_simp
theorem WV.congr {f:Nat->Bool} (h:WV g f w) (e:∀k,k<256->f k=f' k):WV g f' w:=fun k hk=>by
 rw[<-e k hk];exact h k hk
def PK (b off:Nat) (f:Nat->ByteArray) (n:Nat) (w:World):Prop:=∀i,i<n->w.cell? ⟨b,off+i,none⟩=some (.string (f i))
theorem PK.below {off:Nat}{f:Nat->ByteArray} (h:PK b off f n w) (hb:b<B) (hW:Below B w w'):PK b off f n w':=fun i hi=>by
 rw[hW.cell (p:=⟨b,off+i,none⟩) hb];exact h i hi
end Go.Proofs.YtoaaklhpmhjhkabGreat
