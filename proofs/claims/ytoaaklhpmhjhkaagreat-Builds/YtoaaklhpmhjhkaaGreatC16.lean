import Derived.Laws.IdiomCopy
import Derived.Test.YtoaaklhpmhjhkaaGreatC07
set_option maxRecDepth 100000
set_option maxHeartbeats 4000000
set_option linter.all false
namespace Go.Proofs.YtoaaklhpmhjhkaaGreat
open Go.RowKit
theorem q8i:∃i,Tryz.prog.info? 9=some i/\i.zero=some (.string ⟨#[]⟩)/\i.size=1/\i.bytes=16:=by
 have b:(Tryz.prog.info? 9).isSome=true:=by kernel_rfl
 obtain⟨i,a⟩:=Option.isSome_iff_exists.1 b;refine⟨i,a,?_,?_,?_⟩
 ·have:((Tryz.prog.info? 9).bind (·.zero))=some (.string ⟨#[]⟩):=by kernel_rfl
  rw[a]at this;exact this
 ·have:((Tryz.prog.info? 9).map (·.size))=some 1:=by kernel_rfl
  rw[a]at this;simpa using this
 have:((Tryz.prog.info? 9).map (·.bytes))=some 16:=by kernel_rfl
 rw[a]at this;simpa using this
def blankS (n:Nat):Array Value:=madeCells #[.string ⟨#[]⟩] n
theorem y0T (n k:Nat) (h:k<n):(blankS n)[k]?=some (.string ⟨#[]⟩):=by
 simp[blankS,madeCells,h,Nat.mod_one]
theorem q9i (w:World) (n:Nat) (hn:n<=17592186044416):(Instr.makeSlice 22 (.int .i64 (n:Int)) (.int .i64 (n:Int))).run Tryz.prog w=.ok (.slice (some ⟨w.heap.size,0,none⟩) n n) (w.alloc (.cells (blankS n) 9)):=by
 obtain⟨i,b,c,hs,a⟩:=q8i;have h:=run_make (P:=Tryz.prog) w 22 9 i (.string ⟨#[]⟩) Tryz.underlying22 b c .i64 .i64 n n (by omega) (by omega) (by rw[a];omega) (by omega);rw[hs]at h;simp only[Int.toNat_natCast,Nat.mul_one]at h;exact h
def WRow (g:Nat) (f:Nat->ByteArray) (n:Nat) (w:World):Prop:=∀k,k<n->w.cell? ⟨g,k,none⟩=some (.string (f k))/\w.frozen? ⟨g,k,none⟩=false
theorem WRow.blank (w:World) (n:Nat) (t:TypeId):WRow w.heap.size (λ_=>⟨#[]⟩) n (w.alloc (.cells (blankS n) t)):=λk a=>by
 refine⟨?_,?_⟩
 ·rw[World.cell?_alloc_new];exact y0T n k a
 go_simp
variable {g n : Nat}{f' : Nat → ByteArray}{w : World}
theorem WRow.set {f:Nat->ByteArray} (h:WRow g f n w) (j:Nat) (hj:j<n) (s:ByteArray):WRow g (λk=>if k=j then s else f k) n (w.setCell ⟨g,j,none⟩ (.string s)):=λk i=>by
 obtain⟨a,l⟩:=h k i;obtain⟨b,d⟩:=h j hj;refine⟨?_,?_⟩
 ·by_cases e:k=j
  ·subst e;simp;go_simp
  simp only[if_neg e];rw[World.cell?_setCell_other _ _ _ _ (by intro c;cases c;exact e rfl)];exact a
 go_simp
theorem WRow.congr {f:Nat->ByteArray} (h:WRow g f n w) (e:∀k,k<n->f k=f' k):WRow g f' n w:=λk a=>by
 rw[<-e k a];exact h k a
def handed (f:Nat->ByteArray) (n:Nat):Nat->ByteArray:=λi=>if i<n then f i else ⟨#[40]⟩
theorem q0d (B b _o:Nat) (hb:B<=b):∀(vs:List Value) (w:World) (o:Nat),Below B w (w.setCells b o vs)
 |[],_w,_=>Below.refl _ _
 |v::r,w,o=>((Below.refl B w).setCell (p:=⟨b,o,none⟩) hb v).trans (q0d B b (o+1) hb r _ _)
theorem q7p (ad:Option Addr) (n cap:Nat) (f:Nat->ByteArray) (w w2:World) (hn:n+3<=17592186044416)
  (hcp:(Builtin.copy_ #[22,22] 3 #[.slice (some ⟨w.heap.size,0,none⟩) (n+3) (n+3),.slice ad n cap]).run Tryz.prog (w.alloc (.cells (blankS (n+3)) 9))=.ok (goInt n) w2)
  (hW2:Below w.heap.size w w2) (hR:WRow w.heap.size (λi=>if i<n then f i else ⟨#[]⟩) (n+3) w2):
  Calls Tryz.prog 21 #[.slice ad n cap] w λe w'=>e=.returned (.slice (some ⟨w.heap.size,0,none⟩) n (n+3))/\WRow w.heap.size (handed f n) (n+3) w'/\Below w.heap.size w w':=by
 have l:(Instr.makeSlice 22 (.int .i64 ((n:Int)+3)) (.int .i64 ((n:Int)+3))).run Tryz.prog w=.ok (.slice (some ⟨w.heap.size,0,none⟩) (n+3) (n+3)) (w.alloc (.cells (blankS (n+3)) 9)):=q9i w (n+3) hn;go_enter Tryz.func21,Tryz.ntmps21;go_wp2_with fail;clear hcp l
 go_loopw [4] (λi w'=>∃k:Nat,n<=k/\k<=n+3/\i=.int .i64 k/\WRow w.heap.size (λi=>if i<n then f i else if i<k then ⟨#[40]⟩ else ⟨#[]⟩) (n+3) w'/\Below w.heap.size w w') (λi _=>n+3-(intOf i).toNat)
 ·exact⟨n,by omega,by omega,rfl,hR.congr (λk _=>by by_cases h:k<n<;>simp[h]),hW2⟩
 obtain⟨k,r,s,rfl,a,c⟩:=hrel;by_cases d:k<n+3
 ·obtain⟨o,p⟩:=a k d;have g:=a.set k d ⟨#[40]⟩;have m:(k:Int)<n+3:=by omega
  go_wp2_with fail;go_roundw
  ·refine⟨k+1,by omega,by omega,by go_num,g.congr (λj _=>?_),c.trans (q0E _ _ _ _)⟩;by_cases e:j=k
   ·subst e;simp[show ¬j<n by omega]
   by_cases b:j<n
   ·simp[e,b]
   by_cases e2:j<k
   ·simp[e,b,e2,show j<k+1 by omega]
   simp[e,b,e2,show ¬j<k+1 by omega]
  simp[intOf];omega
 have q:¬(k:Int)<n+3:=by omega
 go_wp2_with fail;go_ret;exact⟨rfl,a.congr (λj t=>by by_cases b:j<n<;>simp[handed,b,show j<k by omega]),c⟩
theorem q3V:(Tryz.prog.info? 9).map (·.size)=some 1:=by kernel_rfl
theorem q8k (ad:Option Addr) (cap:Nat) (f:Nat->ByteArray) (w:World):
  Calls Tryz.prog 21 #[.slice ad 0 cap] w λe w'=>e=.returned (.slice (some ⟨w.heap.size,0,none⟩) 0 3)/\WRow w.heap.size (handed f 0) 3 w'/\Below w.heap.size w w':=by
 refine q7p ad 0 cap f w (w.alloc (.cells (blankS 3) 9)) (by omega) ?_ ((Below.refl _ _).alloc (Nat.le_refl _) _) (WRow.congr (WRow.blank w 3 _) (λk _=>by simp));exact run_copy_none (P:=Tryz.prog) (w.alloc (.cells (blankS 3) 9)) 22 22 3 9 (some ⟨w.heap.size,0,none⟩) ad 3 3 0 cap Tryz.underlying22 q3V rfl
theorem q8j (b off n cap:Nat) (f:Nat->ByteArray) (w:World) (hn:n+3<=17592186044416) (hb:b<w.heap.size) (hr:SRow b off f n w):
  Calls Tryz.prog 21 #[.slice (some ⟨b,off,none⟩) n cap] w λe w'=>e=.returned (.slice (some ⟨w.heap.size,0,none⟩) n (n+3))/\WRow w.heap.size (handed f n) (n+3) w'/\Below w.heap.size w w':=by
 let cs:List Value:=(List.range n).map (λj=>Value.string (f j))
 have c:cs.length=n:=by simp[cs]
 have g:∀j v,cs[j]?=some v->j<n/\v=.string (f j):=by
  intro j v h;obtain⟨i,p⟩:=List.getElem?_eq_some_iff.1 h;refine⟨by omega,?_⟩;rw[<-p];simp[cs]
 have a:=WRow.blank w (n+3) 9;have d:∀j:Nat,(⟨b,off,none⟩:Addr).add j=⟨b,off+j,none⟩:=λj=>by unfold Addr.add;split<;>simp_all
 refine q7p (some ⟨b,off,none⟩) n cap f w ((w.alloc (.cells (blankS (n+3)) 9)).setCells w.heap.size 0 cs) hn ?_ ?_ ?_
 ·have:=run_copy_cells (P:=Tryz.prog) (w.alloc (.cells (blankS (n+3)) 9)) 22 22 3 9 w.heap.size 0 (n+3) (n+3) ⟨b,off,none⟩ n cap cs Tryz.underlying22 q3V
   (by rw[c];exact(Nat.min_eq_left (by omega)).symm)
   (λj v h=>by
    obtain⟨i,rfl⟩:=g j v h;rw[d,World.cell?_alloc_lt _ _ _ (by exact hb)];exact hr j i)
   (λj i=>by have:=(a j (by omega)).1;rw[Nat.zero_add,this];rfl)
   (λj i=>by have:=(a j (by omega)).2;rw[Nat.zero_add];exact this)
   (λv o=>by simp only[cs,List.mem_map]at o;obtain⟨j,_,rfl⟩:=o;rfl)
  rw[c]at this;exact this
 ·exact((Below.refl _ _).alloc (Nat.le_refl _) _).trans (q0d _ _ 0 (Nat.le_refl _) cs _ 0)
 intro k m;refine⟨?_,by rw[World.frozen?_setCells];exact(a k m).2⟩;by_cases l:k<n
 ·have:=World.cell?_setCells_in w.heap.size cs 0 (w.alloc (.cells (blankS (n+3)) 9)) (λj i=>by have:=(a j (by omega)).1;rw[Nat.zero_add,this];rfl) k (by omega);rw[Nat.zero_add]at this;rw[this];simp[cs,l]
 rw[World.cell?_setCells_out w.heap.size cs 0 _ _ (λ_ _=>Or.inr (by simp[c];omega))];rw[(a k m).1];simp[l]
theorem q9U (g n cap:Nat) (ad:Option Addr) (f:Nat->ByteArray) (w:World) (hn:n+3<=17592186044416)
  (hR:WRow g (handed f n) (n+3) w) (hl:∀i,i<n->∃b off,ad=some ⟨b,off,none⟩/\w.cell? ⟨b,off+i,none⟩=some (.string (f i))):
  Calls Tryz.prog 23 #[.slice (some ⟨g,0,none⟩) n (n+3),.slice ad n cap] w λe w'=>e=.returned (.bool true)/\w'=w:=by
 have o:=hyd hl;have m:=hyd hR;clear hl hR;go_enter Tryz.func23,Tryz.ntmps23;go_wp2_with fail
 go_loop [6] (λi=>∃k:Nat,k<=n+3/\i=.int .i64 k) (λi=>n+3-(intOf i).toNat)
 ·exact⟨0,by omega,rfl⟩
 obtain⟨k,r,rfl⟩:=hrel;by_cases j:k<n+3
 ·have l:(k:Int)<n+3:=by omega
  obtain⟨c,p⟩:=m.out k j;by_cases a:k<n
  ·have d:handed f n k=f k:=by simp[handed,a]
   rw[d]at c;obtain⟨b,off,rfl,h⟩:=o.out k a;clear d;go_wp2_with fail
   go_round
   ·exact⟨k+1,by omega,by go_num⟩
   simp[intOf];omega
  have d:handed f n k=⟨#[40]⟩:=by simp[handed,a]
  rw[d]at c;clear d;go_wp2_with fail
  go_round
  ·exact⟨k+1,by omega,by go_num⟩
  simp[intOf];omega
 have q:¬(k:Int)<n+3:=by omega
 go_wp2_with fail;go_ret;exact⟨rfl,rfl⟩
end Go.Proofs.YtoaaklhpmhjhkaaGreat
