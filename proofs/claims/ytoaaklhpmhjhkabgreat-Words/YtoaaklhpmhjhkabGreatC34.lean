import Derived.Test.YtoaaklhpmhjhkabGreatC30
import Derived.Test.YtoaaklhpmhjhkabGreatC32
import Derived.Test.YtoaaklhpmhjhkabGreatC33
set_option maxRecDepth 100000
set_option maxHeartbeats 4000000
set_option linter.all false
namespace Go.Proofs.YtoaaklhpmhjhkabGreat
open Go.RowKit
open Bm
variable {fs:List Nat}{S i n:Nat}{E:Nat->N_}{rw:Nat->Nat->Int}
theorem Pn (hE:Eqv E n) {f:Nat->Int} (hf:∀b,b<n->f b=idxI E b):∀k,k<=n->Yz f k=some (cnt E k)
 |0,_=>rfl
 |k+1,hk=>by
  have ih:=Pn hE hf k (by omega);obtain⟨h1,h2⟩:=rep_new hE (show k<n by omega);have h3:f k=(idx E k:Int):=hf k (by omega);rw[Yz,ih,cnt_succ];simp only;rw[if_neg (by rw[h3];omega)];by_cases h:least E k=k
  ·rw[if_pos (by rw[h3,h1.2 h]),if_pos h]
  ·rw[if_neg (fun e=>h (h1.1 (by rw[h3]at e;omega))),if_neg h];rfl
theorem G8 (es:Nat->Rx) (n:Nat) (hP:YV es n<=96) {ls:List Nat}{s k:Nat}{l:List (Nat->Bool)}{t:List Int} (h:VP (VQ es n) (XQ es n) ls s k l t):∀g∈l,Fl (YV es n) n g:=by
 induction h with
 |first=>intro g hg;rw[List.mem_singleton.1 hg];exact K8 es n hP
 |@kind s k l t f b h hf hb hr ih=>
  intro g hg;unfold WW at hg;split at hg
  ·exact ih g hg
  ·split at hg
   ·exact ih g hg
   ·rcases List.mem_append.1 hg with hg|hg
    ·exact ih g hg
    ·rw[List.mem_singleton.1 hg];exact JR es n hP f b
 |set h hs ih=>exact ih
theorem Jq {x:Int} (h:x∈WM rw fs S):∃s j,s<S/\j<fs.length/\x=rw s (fs.getD j 0):=by
 obtain⟨s,hs,h⟩:=List.mem_flatMap.1 h;obtain⟨j,hj,h⟩:=List.mem_map.1 h;exact⟨s,j,List.mem_range.1 hs,List.mem_range.1 hj,h.symm⟩
theorem Nn {α:Type}{l:List α}{d:α} (h:i<l.length):l.getD i d∈l:=by
 rw[List.getD_eq_getElem?_getD,List.getElem?_eq_getElem h];exact List.getElem_mem h
def XP (x:List UInt8):ByteArray:=⟨x.toArray⟩
theorem U6 (x y:List UInt8):XP x++XP y=XP (x++y):=by
 unfold XP;apply ByteArray.ext;simp
theorem Rz (x:List UInt8):(XP x).size=x.length:=by simp[XP,ByteArray.size]
end Go.Proofs.YtoaaklhpmhjhkabGreat
