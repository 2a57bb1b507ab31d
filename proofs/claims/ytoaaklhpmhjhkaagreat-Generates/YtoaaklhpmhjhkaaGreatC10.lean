import Derived.Laws.IdiomCopy
import Derived.Test.YtoaaklhpmhjhkaaGreatC05
set_option maxRecDepth 100000
set_option maxHeartbeats 4000000
set_option linter.all false
namespace Go.Proofs.YtoaaklhpmhjhkaaGreat
open Go.RowKit
theorem Kb:∃i,Tryz.prog.info? 9=some i/\i.zero=some (.string ⟨#[]⟩)/\i.size=1/\i.bytes=16:=by
 have h1:(Tryz.prog.info? 9).isSome=true:=by kernel_rfl
 obtain⟨i,a⟩:=Zx.1 h1;refine⟨i,a,?_,?_,?_⟩
 ·have:((Tryz.prog.info? 9).bind (·.zero))=some (.string ⟨#[]⟩):=by kernel_rfl
  rw[a]at this;exact this
 ·have:((Tryz.prog.info? 9).map (·.size))=some 1:=by kernel_rfl
  rw[a]at this;simpa using this
 have:((Tryz.prog.info? 9).map (·.bytes))=some 16:=by kernel_rfl
 rw[a]at this;simpa using this
def UZ (n:Nat):Array Value:=madeCells #[.string ⟨#[]⟩] n
theorem Ga (n k:Nat) (h:k<n):(UZ n)[k]?=some (.string ⟨#[]⟩):=by
 simp[UZ,madeCells,h,Nat.mod_one]
theorem Jo (w:World) (n:Nat) (y:n<=17592186044416):(Instr.makeSlice 22 (I6 (n:Int)) (I6 (n:Int))).run Tryz.prog w=.ok (.slice (some (a_ w.heap.size 0)) n n) (w.alloc (.cells (UZ n) 9)):=by
 obtain⟨i,b,hz,hs,a⟩:=Kb;have h:=run_make (P:=Tryz.prog) w 22 9 i (.string ⟨#[]⟩) u_h b hz .i64 .i64 n n (by omega) (by omega) (by rw[a];omega) (by omega);rw[hs]at h;simp only[ZE,Nat.mul_one]at h;exact h
def Vn (g:Nat) (f:Nat->ByteArray) (n:Nat) (w:World):Prop:=∀k,k<n->w.cell? ⟨g,k,none⟩=some (.string (f k))/\w.frozen? ⟨g,k,none⟩=false
theorem Vn.blank (w:World) (n:Nat) (t:TypeId):Vn w.heap.size (λ_=>⟨#[]⟩) n (w.alloc (.cells (UZ n) t)):=λk a=>by
 refine⟨?_,?_⟩
 ·rw[Zm];exact Ga n k a
 go_simp
variable {g n:Nat}{w:World}
theorem Vn.set {f:Nat->ByteArray} (h:Vn g f n w) (j:Nat) (y:j<n) (s:ByteArray):Vn g (λk=>if k=j then s else f k) n (w.setCell (a_ g j) (.string s)):=λk i=>by
 obtain⟨a,l⟩:=h k i;obtain⟨b,d⟩:=h j y;refine⟨?_,?_⟩
 ·by_cases e:k=j
  ·subst e;simp;go_simp
  simp only[if_neg e];rw[World.cell?_setCell_other _ _ _ _ (by intro c;cases c;exact e rfl)];exact a
 go_simp
theorem Vn.congr {f f':Nat->ByteArray} (h:Vn g f n w) (e:∀k,k<n->f k=f' k):Vn g f' n w:=λk a=>by
 rw[<-e k a];exact h k a
def VC (f:Nat->ByteArray) (n:Nat):Nat->ByteArray:=λi=>if i<n then f i else ⟨#[40]⟩
theorem Y6 (B b _o:Nat) (y:B<=b):∀(vs:List Value) (w:World) (o:Nat),Below B w (w.setCells b o vs)
 |[],_w,_=>Zk _ _
 |v::r,w,o=>((Zk B w).setCell (p:=(a_ b o)) y v).trans (Y6 B b (o+1) y r _ _)
theorem Ml (ad:Option Addr) (n cap:Nat) (f:Nat->ByteArray) (w w2:World) (J:n+3<=17592186044416)
  (H:(Builtin.copy_ #[22,22] 3 #[.slice (some (a_ w.heap.size 0)) (n+3) (n+3),.slice ad n cap]).run Tryz.prog (w.alloc (.cells (UZ (n+3)) 9))=.ok (goInt n) w2)
  (y:Bl w w2) (z:Vn w.heap.size (λi=>if i<n then f i else ⟨#[]⟩) (n+3) w2):
  Cp 21 #[.slice ad n cap] w λe w'=>e=.returned (.slice (some (a_ w.heap.size 0)) n (n+3))/\Vn w.heap.size (VC f n) (n+3) w'/\Bl w w':=by
 have s:(Instr.makeSlice 22 (I6 ((n:Int)+3)) (I6 ((n:Int)+3))).run Tryz.prog w=.ok (.slice (some (a_ w.heap.size 0)) (n+3) (n+3)) (w.alloc (.cells (UZ (n+3)) 9)):=Jo w (n+3) J;go_enter Tryz.func21,Tryz.ntmps21;go_wp2
 go_loopw [4] (λi w'=>∃k:Nat,n<=k/\k<=n+3/\i=I6 k/\Vn w.heap.size (λi=>if i<n then f i else if i<k then ⟨#[40]⟩ else ⟨#[]⟩) (n+3) w'/\Bl w w') (λi _=>n+3-(intOf i).toNat)
 ·exact⟨n,by omega,by omega,rfl,z.congr (λk _=>by by_cases h:k<n<;>simp[h]),y⟩
 obtain⟨k,q,r,rfl,a,c⟩:=hrel;by_cases d:k<n+3
 ·obtain⟨m,o⟩:=a k d;have g:=a.set k d ⟨#[40]⟩;have l:(k:Int)<n+3:=by omega
  go_wp2;go_roundw
  ·refine⟨k+1,by omega,by omega,by go_num,g.congr (λj _=>?_),c.trans (Yp _ _ _ _)⟩;by_cases e:j=k
   ·subst e;simp[show ¬j<n by omega]
   by_cases b:j<n
   ·simp[e,b]
   by_cases e2:j<k
   ·simp[e,b,e2,show j<k+1 by omega]
   simp[e,b,e2,show ¬j<k+1 by omega]
  simp[intOf];omega
 have p:¬(k:Int)<n+3:=by omega
 go_wp2;go_ret;exact⟨rfl,a.congr (λj t=>by by_cases b:j<n<;>simp[VC,b,show j<k by omega]),c⟩
theorem QS:(Tryz.prog.info? 9).map (·.size)=some 1:=by kernel_rfl
theorem J8 (ad:Option Addr) (cap:Nat) (f:Nat->ByteArray) (w:World):
  Cp 21 #[.slice ad 0 cap] w λe w'=>e=.returned (.slice (some (a_ w.heap.size 0)) 0 3)/\Vn w.heap.size (VC f 0) 3 w'/\Bl w w':=by
 refine Ml ad 0 cap f w (w.alloc (.cells (UZ 3) 9)) (by omega) ?_ ((Zk _ _).alloc (Zg _) _) (Vn.congr (Vn.blank w 3 _) (λk _=>by simp));exact run_copy_none (P:=Tryz.prog) (w.alloc (.cells (UZ 3) 9)) 22 22 3 9 (some (a_ w.heap.size 0)) ad 3 3 0 cap u_h QS rfl
theorem Ka (b y n cap:Nat) (f:Nat->ByteArray) (w:World) (H:n+3<=17592186044416) (z:b<w.heap.size) (J:Sg b y f n w):
  Cp 21 #[.slice (some (a_ b y)) n cap] w λe w'=>e=.returned (.slice (some (a_ w.heap.size 0)) n (n+3))/\Vn w.heap.size (VC f n) (n+3) w'/\Bl w w':=by
 let cs:List Value:=(List.range n).map (λj=>Value.string (f j))
 have c:cs.length=n:=by simp[cs]
 have g:∀j v,cs[j]?=some v->j<n/\v=.string (f j):=by
  intro j v h;obtain⟨i,h2⟩:=Zi.1 h;refine⟨by omega,?_⟩;rw[<-h2];simp[cs]
 have a:=Vn.blank w (n+3) 9;have d:∀j:Nat,((a_ b y):Addr).add j=(a_ b (y+j)):=λj=>by unfold Addr.add;split<;>simp_all
 refine Ml (some (a_ b y)) n cap f w ((w.alloc (.cells (UZ (n+3)) 9)).setCells w.heap.size 0 cs) H ?_ ?_ ?_
 ·have:=run_copy_cells (P:=Tryz.prog) (w.alloc (.cells (UZ (n+3)) 9)) 22 22 3 9 w.heap.size 0 (n+3) (n+3) (a_ b y) n cap cs u_h QS
   (by rw[c];exact(Nat.min_eq_left (by omega)).symm)
   (λj v h=>by
    obtain⟨i,rfl⟩:=g j v h;rw[d,World.cell?_alloc_lt _ _ _ (by exact z)];exact J j i)
   (λj i=>by have:=(a j (by omega)).1;rw[Zn,this];rfl)
   (λj i=>by have:=(a j (by omega)).2;rw[Zn];exact this)
   (λv o=>by simp only[cs,List.mem_map]at o;obtain⟨j,_,rfl⟩:=o;rfl)
  rw[c]at this;exact this
 ·exact((Zk _ _).alloc (Zg _) _).trans (Y6 _ _ 0 (Zg _) cs _ 0)
 intro k m;refine⟨?_,by rw[World.frozen?_setCells];exact(a k m).2⟩;by_cases l:k<n
 ·have:=World.cell?_setCells_in w.heap.size cs 0 (w.alloc (.cells (UZ (n+3)) 9)) (λj i=>by have:=(a j (by omega)).1;rw[Zn,this];rfl) k (by omega);rw[Zn]at this;rw[this];simp[cs,l]
 rw[World.cell?_setCells_out w.heap.size cs 0 _ _ (λ_ _=>Or.inr (by simp[c];omega))];rw[(a k m).1];simp[l]
theorem Hj (g n cap:Nat) (ad:Option Addr) (f:Nat->ByteArray) (w:World) (H:n+3<=17592186044416)
  (y:Vn g (VC f n) (n+3) w) (z:∀i,i<n->∃b off,ad=some (a_ b off)/\w.cell? (a_ b (off+i))=some (.string (f i))):
  Cp 23 #[sL g n (n+3),.slice ad n cap] w λe w'=>e=.returned (.bool true)/\w'=w:=by
 have o:=hyd z;have m:=hyd y;go_enter Tryz.func23,Tryz.ntmps23;go_wp2
 go_loop [6] (λi=>∃k:Nat,k<=n+3/\i=I6 k) (λi=>n+3-(intOf i).toNat)
 ·exact⟨0,by omega,rfl⟩
 obtain⟨k,r,rfl⟩:=hrel;by_cases j:k<n+3
 ·have l:(k:Int)<n+3:=by omega
  obtain⟨c,p⟩:=m.out k j;by_cases a:k<n
  ·have h:VC f n k=f k:=by simp[VC,a]
   rw[h]at c;obtain⟨b,off,rfl,d⟩:=o.out k a;go_wp2
   go_round
   ·exact⟨k+1,by omega,by go_num⟩
   simp[intOf];omega
  have h:VC f n k=⟨#[40]⟩:=by simp[VC,a]
  rw[h]at c;go_wp2
  go_round
  ·exact⟨k+1,by omega,by go_num⟩
  simp[intOf];omega
 have q:¬(k:Int)<n+3:=by omega
 go_wp2;go_ret;exact⟨rfl,rfl⟩
end Go.Proofs.YtoaaklhpmhjhkaaGreat
