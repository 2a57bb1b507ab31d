import Derived.Test.YtoaaklhpmhjhkabC25
import Derived.Test.YtoaaklhpmhjhkabC32
set_option maxRecDepth 100000
set_option maxHeartbeats 4000000
set_option linter.all false
namespace Go.Proofs.Ytoaaklhpmhjhkab
open Go.RowKit
open Bm
theorem Lt:∃i,Try.prog.info? 66=some i/\i.zero=some (.slice none 0 0)/\i.size=1/\i.bytes=24:=by
 have h1:(Try.prog.info? 66).isSome=true:=by kernel_rfl
 obtain⟨i,hi⟩:=Option.isSome_iff_exists.1 h1;refine⟨i,hi,?_,?_,?_⟩
 ·have:((Try.prog.info? 66).bind (·.zero))=some (.slice none 0 0):=by kernel_rfl
  rw[hi]at this;exact this
 ·have:((Try.prog.info? 66).map (·.size))=some 1:=by kernel_rfl
  rw[hi]at this;simpa using this
 ·have:((Try.prog.info? 66).map (·.bytes))=some 24:=by kernel_rfl
  rw[hi]at this;simpa using this
def M8 (n:Nat):List Value:=(List.range n).map fun _=>.slice none 0 0
theorem Ns (w:World) (n:Nat) (hn:n<=1000000):(Instr.makeSlice 64 (.int .i64 (n:Int)) (.int .i64 (n:Int))).run Try.prog w=.ok (.slice (some ⟨w.heap.size,0,none⟩) n n) (w.alloc (.cells (M8 n).toArray 66)):=by
 obtain⟨i,hi,hz,hs,hb⟩:=Lt;have h:=run_make (P:=Try.prog) w 64 66 i (.slice none 0 0) Try.underlying64 hi hz .i64 .i64 n n (by omega) (by omega) (by rw[hb];omega) (by omega);rw[hs]at h;simp only[Int.toNat_natCast,Nat.mul_one]at h;rw[show(Value.slice none 0 0).cells=#[.slice none 0 0] from rfl,Ot]at h;exact h
theorem Uo.first (w:World) (N:Nat) (ty:TypeId) (t:Nat->Nat->Bool):Uo w.heap.size w.heap.size N (fun _=>0) t 0 (w.alloc (.cells (M8 (N+1)).toArray ty)):=by
 have T:=TC.boxed w (M8 (N+1)) ty;have e:∀i,i<N+1->(M8 (N+1))[i]?=some (.slice none 0 0):=fun i hi=>by simp[M8,hi]
 exact⟨fun i hi=>by omega,fun i _ hi=>(T i _ (e i hi)).1,fun i hi=>(T i _ (e i hi)).2,fun i hi=>by omega,fun i j hi=>by omega,fun i hi=>by omega⟩
theorem Lj {α:Type}{L:List α}{f g:α->Bool} (h:∀p∈L,f p=true->g p=true) {q:α} (hq:q∈L) (h1:g q=true) (h2:f q=false):L.countP f<L.countP g:=by
 induction L with
 |nil=>cases hq
 |cons x L ih=>
  rw[List.countP_cons,List.countP_cons];have hle:L.countP f<=L.countP g:=List.countP_mono_left (fun p hp=>h p (by simp[hp]));rcases List.mem_cons.1 hq with rfl|hq
  ·rw[h1,h2];simp;omega
  ·have:=ih (fun p hp=>h p (by simp[hp])) hq;have hx:=h x (by simp);cases hf:f x<;>cases hg:g x<;>simp_all<;>omega
def Gu (N:Nat):List (Nat × Nat):=(List.range (N+1)).flatMap fun i=>(List.range (N+1)).map fun j=>(i,j)
variable {N i j : Nat}
theorem Mu:(i,j)∈Gu N<->i<=N/\j<=N:=by
 simp[Gu];omega
def JZ (N:Nat) (t:Nat->Nat->Bool):Nat:=(Gu N).countP fun p=>!t p.1 p.2
def Gf:Option Value->Bool
 |some (.bool false)=>true
 |_=>false
def opn (N:Nat) (rk:Nat->Nat) (w:World):Nat:=(Gu N).countP fun p=>Gf (w.cell? ⟨rk p.1,p.2,none⟩)
theorem Uo.opn {base tb N:Nat}{rk:Nat->Nat}{t:Nat->Nat->Bool}{w:World} (h:Uo base tb N rk t (N+1) w):opn N rk w=JZ N t:=by
 unfold Go.Proofs.Ytoaaklhpmhjhkab.opn JZ;refine List.countP_congr (fun p hp=>?_);obtain⟨i,j⟩:=p;have hm:=Mu.1 hp;rw[(h.r i (by omega) j _ (YN _ (by omega))).1];cases t i j<;>simp[Gf]
def Ju:Value->Nat
 |.bool true=>1
 |_=>0
end Go.Proofs.Ytoaaklhpmhjhkab
