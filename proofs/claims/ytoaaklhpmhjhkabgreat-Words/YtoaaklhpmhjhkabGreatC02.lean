import Derived.WalkSpells
import Derived.WalkLawsBesides
import Derived.Deep.QuietTactic
import Derived.BigQuiet
import Derived.Deep.RegionHeld3
import Derived.ArgAppend
import Derived.Laws.IdiomCopy
import Derived.Laws.IdiomStrings
import Derived.Laws.BitsAllLaws
import Derived.Lib.SlBytesConst
import Derived.Test.YtoaaklhpmhjhkabGreatSp
import Derived.Test.YtoaaklhpmhjhkabGreatC01
set_option maxRecDepth 100000
set_option maxHeartbeats 4000000
set_option linter.all false
namespace Go.Proofs.YtoaaklhpmhjhkabGreat
section
open Go.RowKit
def IL (ad:Option Addr) (f:Nat->Int) (n:Nat) (w:World):Prop:=
 ∀i,i<n->∃b off,ad=some ⟨b,off,none⟩/\w.cell? ⟨b,off+i,none⟩=some (.int .i64 (f i))
variable {a:Act}{ops:Array Oper}{Q:Exit->Act->World->Prop}{rest:List Oper}{L cs xs:List Value}{b base base' g k m n sz:Nat}{f:Nat->Int}{o:Oper}{ad:Option Addr}{v:Value}{w w':World}
theorem IL.below (h:IL ad f n w) (hW:Below w.heap.size w w'):IL ad f n w':=fun i hi=>by
 obtain⟨b,off,h1,h2⟩:=h i hi;refine⟨b,off,h1,?_⟩;rw[hW.cell (p:=⟨b,off+i,none⟩) (World.block_lt_of_cell? w ⟨b,off+i,none⟩ h2)];exact h2
theorem UI:∃i,Tryz.prog.info? 3=some i/\i.zero=some (.int .i64 0)/\i.size=1/\i.bytes=8:=by
 have h1:(Tryz.prog.info? 3).isSome=true:=by kernel_rfl
 obtain⟨i,hi⟩:=Option.isSome_iff_exists.1 h1;refine⟨i,hi,?_,?_,?_⟩
 ·have:((Tryz.prog.info? 3).bind (·.zero))=some (.int .i64 0):=by kernel_rfl
  rw[hi]at this;exact this
 ·have:((Tryz.prog.info? 3).map (·.size))=some 1:=by kernel_rfl
  rw[hi]at this;simpa using this
 ·have:((Tryz.prog.info? 3).map (·.bytes))=some 8:=by kernel_rfl
  rw[hi]at this;simpa using this
theorem Ls:∃i,Tryz.prog.info? 5=some i/\i.zero=some (.int .u8 0)/\i.size=1/\i.bytes=1:=by
 have h1:(Tryz.prog.info? 5).isSome=true:=by kernel_rfl
 obtain⟨i,hi⟩:=Option.isSome_iff_exists.1 h1;refine⟨i,hi,?_,?_,?_⟩
 ·have:((Tryz.prog.info? 5).bind (·.zero))=some (.int .u8 0):=by kernel_rfl
  rw[hi]at this;exact this
 ·have:((Tryz.prog.info? 5).map (·.size))=some 1:=by kernel_rfl
  rw[hi]at this;simpa using this
 ·have:((Tryz.prog.info? 5).map (·.bytes))=some 1:=by kernel_rfl
  rw[hi]at this;simpa using this
theorem Km:∃i,Tryz.prog.info? 4=some i/\i.zero=some (.bool false)/\i.size=1/\i.bytes=1:=by
 have h1:(Tryz.prog.info? 4).isSome=true:=by kernel_rfl
 obtain⟨i,hi⟩:=Option.isSome_iff_exists.1 h1;refine⟨i,hi,?_,?_,?_⟩
 ·have:((Tryz.prog.info? 4).bind (·.zero))=some (.bool false):=by kernel_rfl
  rw[hi]at this;exact this
 ·have:((Tryz.prog.info? 4).map (·.size))=some 1:=by kernel_rfl
  rw[hi]at this;simpa using this
 ·have:((Tryz.prog.info? 4).map (·.bytes))=some 1:=by kernel_rfl
  rw[hi]at this;simpa using this
def YN (base:Nat) (v:Value) (cs:List Value) (w:World):Prop:=
 (v=.slice none 0 0/\cs=[])\/∃g cap,v=.slice (some ⟨g,0,none⟩) cs.length cap/\base<=g/\g<w.heap.size/\cs.length<=cap /\
  (∀j u,cs[j]?=some u->w.cell? ⟨g,j,none⟩=some u)/\∀j,j<cap->(w.cell? ⟨g,j,none⟩).isSome=true/\w.frozen? ⟨g,j,none⟩=false
theorem YN.nil (base:Nat) (w:World):YN base (.slice none 0 0) [] w:=Or.inl ⟨rfl,rfl⟩
theorem YN.ge (h:YN base v cs w):∀k,v.ownBlock=some k->base<=k:=by
 intro k hk;rcases h with ⟨rfl,_⟩|⟨g,cap,rfl,hb,_⟩
 ·cases hk
 ·cases hk;exact hb
theorem YN.block (h:YN base v cs w) (hs:w.heap.size<=w'.heap.size) (hb:∀k,k<w.heap.size->v.ownBlock=some k->w'.heap[k]?=w.heap[k]?):YN base v cs w':=by
 rcases h with h|⟨g,cap,rfl,h1,h2,h3,h4,h5⟩
 ·exact Or.inl h
 ·have hk:=hb g h2 rfl;refine Or.inr ⟨g,cap,rfl,h1,by omega,h3,fun j u hu=>?_,fun j hj=>?_⟩
  ·rw[World.cell?_of_block (w:=w) (a:=⟨g,j,none⟩) hk];exact h4 j u hu
  ·rw[World.cell?_of_block (w:=w) (a:=⟨g,j,none⟩) hk,World.frozen?_of_block (w:=w) (a:=⟨g,j,none⟩) hk];exact h5 j hj
theorem YN.below (h:YN base v cs w) (hW:Below w.heap.size w w'):YN base v cs w':=
 h.block hW.size (fun k hk _=>hW.block k hk)
theorem YN.alloc (h:YN base v cs w) (o:Obj):YN base v cs (w.alloc o):=
 h.below ((Below.refl _ _).alloc (Nat.le_refl _) o)
theorem YN.mono (h:YN base v cs w) (hb:base'<=base):YN base' v cs w:=by
 rcases h with h|⟨g,cap,h0,h1,h2⟩
 ·exact Or.inl h
 ·exact Or.inr ⟨g,cap,h0,Nat.le_trans hb h1,h2⟩
theorem YN.ofOwns {e:TypeId} (h:w.ownsRow base e 1 v n cs):YN base v cs w:=by
 have hl:cs.length=n:=by simpa using h.1
 rcases h.2 with ⟨rfl,h0⟩|⟨g,cap,cur,rfl,h1,h2,h3,h4,h5,h6⟩
 ·exact Or.inl ⟨rfl,List.eq_nil_of_length_eq_zero (by omega)⟩
 ·refine Or.inr ⟨g,cap,by rw[hl],h1,(Array.getElem?_eq_some_iff.1 h2).1,by omega,fun j u hu=>?_,fun j hj=>?_⟩
  ·have:=h.cells (g:=g) rfl j u hu;rw[Addr.add_lit]at this;simpa using this
  ·rw[cell_of_row w g j cur e (0,0) h2];refine⟨by simp;omega,?_⟩;simp[World.frozen?,h2]
theorem WD (b:Nat):∀(vs:List Value) (o:Nat) (w:World),(w.setCells b o vs).heap.size=w.heap.size
 |[],_,_=>rfl
 |v::r,o,w=>by rw[World.setCells,WD b r];simp[World.setCell]
theorem Y6 (b:Nat):∀(vs:List Value) (o:Nat) (w:World),w.grownBy (w.setCells b o vs) (some b)
 |[],_,w=>⟨rfl,rfl,rfl,Nat.le_refl _,fun _ _ _=>rfl⟩
 |v::r,o,w=>by
  have h:=Y6 b r (o+1) (w.setCell ⟨b,o,none⟩ v);refine⟨h.os,h.tape,h.output,?_,fun k hk hne=>?_⟩
  ·rw[WD];exact Nat.le_refl _
  ·rw[World.setCells,h.block k (by simpa[World.setCell]using hk) hne];exact Below.heap_setCell w ⟨b,o,none⟩ v k (fun e=>hne (by rw[e]))
theorem Sh (hgd:o.guard=none) (s x:Operand) (t e:TypeId)
  (ho:o.op=.call { callee:=.builtin .append,args:=#[s,x],argTypes:=#[t,t] }) (i:TypeInfo) (z:Value) (bytes:Nat)
  (ht:Tryz.prog.underlying t=some (.slice e)) (hi:Tryz.prog.info? e=some i) (hz:i.zero=some z) (hsize:i.size=1) (hby:i.bytes=bytes) (hzs:z.cells.size=1) (hbyt:bytes<=8) (base:Nat)
  (v:Value) (cs:List Value) (hs:a.eval s=v) (hG:YN base v cs w)
  (B m:Nat) (news:List Value) (hx:a.eval x=.slice (some ⟨B,0,none⟩) m m) (hl:news.length=m) (hnews:∀j u,news[j]?=some u->w.cell? ⟨B,j,none⟩=some u) (h1c:∀u∈news,u.oneCell'=true)
  (hb:cs.length+m<=100000000) (hbase:base<=w.heap.size) (hm:0<m)
  (h:∀g cap w',YN base (.slice (some ⟨g,0,none⟩) (cs.length+m) cap) (cs++news) w'->w.grownBy w' v.ownBlock->wpList Tryz.prog ops Q rest (a.put o.dst (.slice (some ⟨g,0,none⟩) (cs.length+m) cap)) w'):wpList Tryz.prog ops Q (o::rest) a w:=by
 have hbb:(cs.length+m)*bytes<=140737488355328:=by
  have:(cs.length+m)*bytes<=100000000*8:=Nat.mul_le_mul hb hbyt;omega
 have hn':∀j u,news[j]?=some u->w.cell? ((⟨B,0,none⟩:Addr).add j)=some u:=fun j u hu=>by rw[Addr.add_lit,Nat.zero_add];exact hnews j u hu
 have hgr:∀v' w' (row:Option Nat),w'.ownsRow w.heap.size e 1 v' (cs.length+m) (cs++news)->w.grownBy w' none->∃g cap,v'=.slice (some ⟨g,0,none⟩) (cs.length+m) cap/\YN base (.slice (some ⟨g,0,none⟩) (cs.length+m) cap) (cs++news) w'/\w.grownBy w' row:=by
  intro v' w' row r1 r2;have hG':=(YN.ofOwns r1).mono hbase;rcases r1.2 with ⟨_,h0⟩|⟨g,cap,cur,rfl,_⟩
  ·omega
  ·exact⟨g,cap,rfl,hG',⟨r2.os,r2.tape,r2.output,r2.size,fun k hk _=>r2.block k hk (by simp)⟩⟩
 rcases hG with ⟨rfl,rfl⟩|⟨g,cap,rfl,h1,h2,h3,h4,h5⟩
 ·refine wpList_append_grows w hgd s x t ho e i z 1 bytes ht hi hz hsize hby hzs (by omega) none 0 0 [] hs (fun _=>⟨rfl,rfl⟩) rfl (fun b hb=>by cases hb) ⟨B,0,none⟩ m m news hx (by omega) hn' h1c (by omega) (by unfold maxLen;simp at hb;omega) (by simpa using hbb) ?_;intro v' w' r1 r2;obtain⟨g,cap,rfl,q1,q2⟩:=hgr v' w' (Value.ownBlock (.slice none 0 0)) (by simpa using r1) r2;exact h g cap w' q1 q2
 ·refine wpList_append_arg w hgd s x t ho e i z 1 bytes ht hi hz hsize hby hzs (by omega) g 0 cs.length cap cs hs (by omega) (fun j u hu=>by rw[Nat.zero_add];exact h4 j u hu) ⟨B,0,none⟩ m m news hx (by omega) hn' h1c (fun hr j hj=>?_) (by unfold maxLen;omega) hbb (fun hr=>?_) (fun hr v' w' r1 r2=>?_)
  ·rw[Nat.zero_add,Nat.mul_one];exact h5 _ (by omega)
  ·rw[Nat.zero_add,Nat.mul_one];refine h g cap _ (Or.inr ⟨g,cap,by rw[List.length_append,hl],h1,by rw[WD];exact h2,by rw[List.length_append];omega,fun j u hu=>?_,fun j hj=>?_⟩) (Y6 g news _ w)
   ·by_cases hjl:j<cs.length
    ·rw[List.getElem?_append_left hjl]at hu;rw[World.cell?_setCells_out g news cs.length w ⟨g,j,none⟩ (fun _ _=>Or.inl hjl)];exact h4 j u hu
    ·rw[List.getElem?_append_right (by omega)]at hu;obtain⟨hj2,hu2⟩:=List.getElem?_eq_some_iff.1 hu;have:=World.cell?_setCells_in g news cs.length w (fun q hq=>(h5 _ (by omega)).1) (j-cs.length) hj2;rw[show cs.length+(j-cs.length)=j by omega]at this;rw[this,hu2]
   ·rw[World.frozen?_setCells];refine⟨?_,(h5 j hj).2⟩;by_cases hin:cs.length<=j/\j<cs.length+news.length
    ·have:=World.cell?_setCells_in g news cs.length w (fun q hq=>(h5 _ (by omega)).1) (j-cs.length) (by omega);rw[show cs.length+(j-cs.length)=j by omega]at this;rw[this];rfl
    ·rw[World.cell?_setCells_out g news cs.length w ⟨g,j,none⟩ (fun _ _=>by simp only;omega)];exact(h5 j hj).1
  ·obtain⟨g',cap',rfl,q1,q2⟩:=hgr v' w' (Value.ownBlock (.slice (some ⟨g,0,none⟩) cs.length cap)) r1 r2;exact h g' cap' w' q1 q2
def Ot (l:List UInt8):List Value:=l.map fun x=>.int .u8 (x.toNat:Int)
theorem L8 (a b:List UInt8):Ot (a++b)=Ot a++Ot b:=by simp[Ot]
theorem Ox (a:List UInt8):(Ot a).length=a.length:=by simp[Ot]
def YX (x:Int):UInt8:=UInt8.ofNat (x%256).toNat
theorem Yj (x:Int):((YX x).toNat:Int)=x%256:=by
 unfold YX;rw[UInt8.toNat_ofNat'];omega
def VU (n:Nat):Array Value:=madeCells #[.int .i64 0] n
theorem Ka (n k:Nat) (h:k<n):(VU n)[k]?=some (.int .i64 0):=by
 simp[VU,madeCells,h,Nat.mod_one]
theorem MK (w:World) (n:Nat) (hn:n<=17592186044416):(Instr.makeSlice 39 (.int .i64 (n:Int)) (.int .i64 (n:Int))).run Tryz.prog w=.ok (.slice (some ⟨w.heap.size,0,none⟩) n n) (w.alloc (.cells (VU n) 3)):=by
 obtain⟨i,hi,hz,hs,hb⟩:=UI;have h:=run_make (P:=Tryz.prog) w 39 3 i (.int .i64 0) u_f hi hz .i64 .i64 n n (by omega) (by omega) (by rw[hb];omega) (by omega);rw[hs]at h;simp only[Int.toNat_natCast,Nat.mul_one]at h;exact h
def Xo (g:Nat) (f:Nat->Int) (n:Nat) (w:World):Prop:=∀k,k<n->w.cell? ⟨g,k,none⟩=some (.int .i64 (f k))/\w.frozen? ⟨g,k,none⟩=false
theorem Xo.blank (w:World) (n:Nat) (t:TypeId):Xo w.heap.size (fun _=>0) n (w.alloc (.cells (VU n) t)):=fun k hk=>by
 refine⟨?_,?_⟩
 ·rw[World.cell?_alloc_new];exact Ka n k hk
 ·go_simp
theorem Xo.congr {f':Nat->Int} (h:Xo g f n w) (e:∀k,k<n->f k=f' k):Xo g f' n w:=fun k hk=>by
 rw[<-e k hk];exact h k hk
theorem Xo.lt (h:Xo g f n w) (hn:0<n):g<w.heap.size:=World.block_lt_of_cell? w ⟨g,0,none⟩ (h 0 hn).1
theorem Xo.below (h:Xo g f n w) (hW:Below w.heap.size w w'):Xo g f n w':=fun k hk=>by
 have hg:=World.block_lt_of_cell? w ⟨g,k,none⟩ (h k hk).1;rw[hW.cell (p:=⟨g,k,none⟩) hg,hW.frozen (p:=⟨g,k,none⟩) hg];exact h k hk
theorem Xo.il (h:Xo g f n w) (hm:m<=n):IL (some ⟨g,0,none⟩) f m w:=fun i hi=>⟨g,0,rfl,by rw[Nat.zero_add];exact(h i (by omega)).1⟩
theorem SQ (B b:Nat) (hb:B<=b):∀(vs:List Value) (w:World) (o:Nat),Below B w (w.setCells b o vs)
 |[],_,_=>Below.refl _ _
 |v::r,w,o=>((Below.refl B w).setCell (p:=⟨b,o,none⟩) hb v).trans (SQ B b hb r _ _)
theorem Wc (B:Nat) (w:World) (q:Nat):Below B w (w.drewN q):=⟨rfl,rfl,rfl,Nat.le_refl _,fun _ _=>rfl⟩
theorem Ps:(Tryz.prog.info? 3).map (·.size)=some 1:=by kernel_rfl
theorem KY (ad:Option Addr) (n cap m:Nat) (f:Nat->Int) (w:World) (hm:n<=m) (hr:IL ad f n w):
  ∃w2,(Builtin.copy_ #[39,39] 3 #[.slice (some ⟨w.heap.size,0,none⟩) m m,.slice ad n cap]).run Tryz.prog (w.alloc (.cells (VU m) 3))=.ok (goInt n) w2 /\
   Below w.heap.size w w2/\Xo w.heap.size (fun i=>if i<n then f i else 0) m w2:=by
 rcases Nat.eq_zero_or_pos n with rfl|hpos
 ·refine⟨w.alloc (.cells (VU m) 3),?_,(Below.refl _ _).alloc (Nat.le_refl _) _,Xo.congr (Xo.blank w m _) (fun k _=>by simp)⟩;exact run_copy_none (P:=Tryz.prog) (w.alloc (.cells (VU m) 3)) 39 39 3 3 (some ⟨w.heap.size,0,none⟩) ad m m 0 cap u_f Ps (by simp)
 ·obtain⟨b,off,rfl,hc0⟩:=hr 0 hpos;have hb:=World.block_lt_of_cell? w _ hc0
  let cs:List Value:=(List.range n).map (fun j=>Value.int .i64 (f j))
  have hlen:cs.length=n:=by simp[cs]
  have hget:∀j v,cs[j]?=some v->j<n/\v=.int .i64 (f j):=by
   intro j v h;obtain⟨hj,h2⟩:=List.getElem?_eq_some_iff.1 h;refine⟨by omega,?_⟩;rw[<-h2];simp[cs]
  have hbl:=Xo.blank w m 3;have hadd:∀j:Nat,(⟨b,off,none⟩:Addr).add j=⟨b,off+j,none⟩:=fun j=>by unfold Addr.add;split<;>simp_all
  refine⟨(w.alloc (.cells (VU m) 3)).setCells w.heap.size 0 cs,?_,?_,?_⟩
  ·have:=run_copy_cells (P:=Tryz.prog) (w.alloc (.cells (VU m) 3)) 39 39 3 3 w.heap.size 0 m m ⟨b,off,none⟩ n cap cs u_f Ps
    (by rw[hlen];exact(Nat.min_eq_left (by omega)).symm)
    (fun j v h=>by
     obtain⟨hj,rfl⟩:=hget j v h;obtain⟨b',off',he,hc⟩:=hr j hj;cases he;rw[hadd,World.cell?_alloc_lt _ _ _ (by exact hb)];exact hc)
    (fun j hj=>by have:=(hbl j (by omega)).1;rw[Nat.zero_add,this];rfl)
    (fun j hj=>by have:=(hbl j (by omega)).2;rw[Nat.zero_add];exact this)
    (fun v hv=>by simp only[cs,List.mem_map]at hv;obtain⟨j,_,rfl⟩:=hv;rfl)
   rw[hlen]at this;exact this
  ·exact((Below.refl _ _).alloc (Nat.le_refl _) _).trans (SQ _ _ (Nat.le_refl _) cs _ 0)
  ·intro k hk;refine⟨?_,by rw[World.frozen?_setCells];exact(hbl k hk).2⟩;by_cases hkn:k<n
   ·have:=World.cell?_setCells_in w.heap.size cs 0 (w.alloc (.cells (VU m) 3)) (fun j hj=>by have:=(hbl j (by omega)).1;rw[Nat.zero_add,this];rfl) k (by omega);rw[Nat.zero_add]at this;rw[this];simp[cs,hkn]
   ·rw[World.cell?_setCells_out w.heap.size cs 0 _ _ (fun _ _=>Or.inr (by simp[hlen];omega))];rw[(hbl k hk).1];simp[hkn]
def Yz (f:Nat->Int):Nat->Option Nat
 |0=>some 0
 |k+1=>match Yz f k with
  |none=>none
  |some n=>if f k<0\/(n:Int)<f k then none else if f k=n then some (n+1) else some n
def VH (f:Nat->Int) (n:Nat):Nat:=if n=256 then (Yz f 256).getD 0 else 0
theorem QB (h:Yz f k=none):∀d,Yz f (k+d)=none
 |0=>h
 |d+1=>by rw[<-Nat.add_assoc,Yz,QB h d]
theorem ST:∀ {k n:Nat},Yz f k=some n->n<=k
 |0,n,h=>by simp[Yz]at h;omega
 |k+1,n,h=>by
  rw[Yz]at h;rcases hc:Yz f k with _|m
  ·rw[hc]at h;cases h
  ·have:=ST hc;rw[hc]at h;simp only at h;split at h
   ·cases h
   ·split at h
    ·simp at h;omega
    ·simp at h;omega
theorem QC (f:Nat->Int) (n:Nat):VH f n<=256:=by
 unfold VH;split
 ·rcases h:Yz f 256 with _|m
  ·simp
  ·simpa using ST h
 ·omega
def Yi (P:Prop) (w:World) (e:Ending) (w':World):Prop:=∃b,e=.returned (.bool b)/\(b=true<->P)/\w'=w
theorem Yi.t {P:Prop} (h:P):Yi P w (.returned (.bool true)) w:=⟨true,rfl,by simpa using h,rfl⟩
end
section
open Go.RowKit
variable {L xs:List Value}{b base n sz:Nat}{ad:Option Addr}{v:Value}{w w':World}
theorem Yi.f {P:Prop} (h:¬P):Yi P w (.returned (.bool false)) w:=⟨false,rfl,by simpa using h,rfl⟩
theorem VC (ad:Option Addr) (n cap:Nat) (f:Nat->Int) (lo hi:Int) (w:World) (hn:n<=maxLen) (h:IL ad f n w):
  Calls Tryz.prog 48 #[.slice ad n cap,.int .i64 lo,.int .i64 hi] w (Yi (∀i,i<n->lo<=f i/\f i<=hi) w):=by
 unfold maxLen at hn;have H:=hyd h;clear h;go_enter Tryz.func48,Tryz.ntmps48;go_wp2_with fail
 go_loop [11] (fun i=>∃k:Nat,k<=n/\i=.int .i64 k/\Hid (∀i,i<k->lo<=f i/\f i<=hi)) (fun i=>n-(intOf i).toNat)
 case atStart=>exact⟨0,by omega,rfl,fun i hi=>by omega⟩
 case round=>
  obtain⟨k,hk,rfl,HK⟩:=hrel;by_cases hlt:k<n
  ·have hlt':(k:Int)<n:=by omega
   obtain⟨b,off,rfl,c1⟩:=H.out k hlt;by_cases h1:f k<lo
   ·go_wp2_with fail;go_ret;exact Yi.f (fun h=>by have:=h k hlt;omega)
   ·by_cases h2:hi<f k
    ·go_wp2_with fail;go_ret;exact Yi.f (fun h=>by have:=h k hlt;omega)
    ·go_wp2_with fail
     go_round
     case rel=>exact⟨k+1,by omega,by go_num,fun i hi'=>by
      by_cases e:i=k
      ·subst e;omega
      ·exact HK.out i (by omega)⟩
     case measure=>simp[intOf];omega
  ·have hge:¬(k:Int)<n:=by omega
   have hkn:k=n:=by omega
   go_wp2_with fail;go_ret;exact Yi.t (fun i hi'=>HK.out i (by omega))
theorem XC (ad:Option Addr) (n cap:Nat) (f:Nat->Int) (w:World) (hn:n<=maxLen) (h:IL ad f n w):
  Calls Tryz.prog 22 #[.slice ad n cap] w fun e w'=>e=.returned (.int .i64 (VH f n))/\w'=w:=by
 unfold maxLen at hn;by_cases h256:n=256
 ·subst h256;have H:=hyd h;clear h hn;go_enter Tryz.func22,Tryz.ntmps22;go_wp2_with fail
  go_loop [3,11] (fun c i=>∃k m:Nat,k<=256/\i=.int .i64 k/\c=.int .i64 m/\m<=k/\Hid (Yz f k=some m)) (fun _ i=>256-(intOf i).toNat)
  case atStart=>exact⟨0,0,by omega,rfl,rfl,by omega,rfl⟩
  case round=>
   obtain⟨k,m,hk,rfl,rfl,hm,HK⟩:=hrel;by_cases hlt:k<256
   ·have hlt':(k:Int)<256:=by omega
    obtain⟨b,off,rfl,c1⟩:=H.out k hlt;have HS:Hid (Yz f (k+1)=if f k<0\/(m:Int)<f k then none else if f k=m then some (m+1) else some m):=by show _=_;rw[Yz,HK.out]
    have HC:Hid (VH f 256=(Yz f 256).getD 0):=rfl;have HN:Hid (Yz f (k+1)=none->Yz f 256=none):=fun h=>by have:=QB h (256-(k+1));rwa [show k+1+(256-(k+1))=256 by omega]at this
    by_cases h1:f k<0
    ·go_wp2_with fail;go_ret;refine⟨YS ?_,rfl⟩;rw[HC.out,HN.out (by rw[HS.out,if_pos (Or.inl h1)])];rfl
    ·by_cases h2:(m:Int)<f k
     ·go_wp2_with fail;go_ret;refine⟨YS ?_,rfl⟩;rw[HC.out,HN.out (by rw[HS.out,if_pos (Or.inr h2)])];rfl
     ·by_cases h3:f k=m
      ·have hb:(f k==(m:Int))=true:=by simpa using h3
       have HS2:Hid (Yz f (k+1)=some (m+1)):=by show _=_;rw[HS.out,if_neg (by omega),if_pos h3]
       clear h3 HS HN HC;go_wp2_with fail
       go_round
       case rel=>exact⟨k+1,m+1,by omega,by go_num,by go_num,by omega,HS2.out⟩
       case measure=>simp[intOf];omega
      ·have hb:(f k==(m:Int))=false:=by simpa using h3
       have HS2:Hid (Yz f (k+1)=some m):=by show _=_;rw[HS.out,if_neg (by omega),if_neg h3]
       clear h3 HS HN HC;go_wp2_with fail
       go_round
       case rel=>exact⟨k+1,m,by omega,by go_num,rfl,by omega,HS2.out⟩
       case measure=>simp[intOf];omega
   ·have hge:¬(k:Int)<256:=by omega
    have hkn:k=256:=by omega
    subst hkn;go_wp2_with fail;go_ret;refine⟨YS ?_,rfl⟩;rw[VH,if_pos rfl,HK.out];rfl
 ·have hb:((n:Int)==256)=false:=beq_eq_false_iff_ne.2 (by omega);have hb2:((n:Int) != 256)=true:=by simp;omega
  have HC:Hid (VH f n=0):=if_neg h256;clear h h256;go_enter Tryz.func22,Tryz.ntmps22;go_wp2_with fail;go_ret;exact⟨YS (by rw[HC.out];rfl),rfl⟩
def Hd (rules:Int) (cl:Nat->Int) (ncl:Nat) (lb:Nat->Int) (nlb:Nat):Prop:=
 (1<=rules/\rules<=8)/\(1<=nlb/\nlb<=96)/\0<VH cl ncl/\∀i,i<nlb->-1<=lb i/\lb i<=rules-1
theorem Sf (rules:Int) (ad ad':Option Addr) (n cap n' cap':Nat) (cl lb:Nat->Int) (w:World) (hn:n<=maxLen) (hn':n'<=maxLen) (h:IL ad cl n w) (h':IL ad' lb n' w):
  Calls Tryz.prog 47 #[.int .i64 rules,.slice ad n cap,.slice ad' n' cap'] w (Yi (Hd rules cl n lb n') w):=by
 have Hc:=hyd (XC ad n cap cl w hn h);have Hw:=hyd (VC ad' n' cap' lb (-1) (rules-1) w hn' h');unfold maxLen at hn hn';clear h h';by_cases hA:(1<=rules/\rules<=8)/\(1<=n'/\n'<=96)
 ·have a1:¬rules<1:=by omega
  have a2:¬8<rules:=by omega
  have a3:¬(n':Int)<1:=by omega
  have a4:¬(96:Int)<(n':Int):=by omega
  go_enter Tryz.func47,Tryz.ntmps47;go_wp2_with fail;refine Hc.out.mono ?_;rintro e w' ⟨rfl,rfl⟩;have HH:Hid (Hd rules cl n lb n'<->0<VH cl n/\∀i,i<n'->-1<=lb i/\lb i<=rules-1):=⟨fun h=>h.2.2,fun h=>⟨hA.1,hA.2,h⟩⟩;generalize VH cl n=c at *;by_cases hc:c=0
  ·subst hc;go_wp2_with fail;go_ret;exact Yi.f (fun h=>by have:=(HH.out.1 h).1;omega)
  ·have hc':((c:Int)==0)=false:=beq_eq_false_iff_ne.2 (by omega);go_wp2_with fail;refine Hw.out.mono ?_;rintro e w' ⟨b,rfl,hb,rfl⟩;go_wp2_with fail;go_ret;exact⟨b,rfl,by rw[hb,HH.out];exact⟨fun h=>⟨by omega,h⟩,fun h=>h.2⟩,rfl⟩
 ·have HH:Hid (¬Hd rules cl n lb n'):=fun h=>hA ⟨h.1,h.2.1⟩
  clear Hc Hw;by_cases a1:rules<1
  ·go_enter Tryz.func47,Tryz.ntmps47;go_wp2_with fail;go_ret;exact Yi.f HH.out
  by_cases a2:8<rules
  ·go_enter Tryz.func47,Tryz.ntmps47;go_wp2_with fail;go_ret;exact Yi.f HH.out
  by_cases a3:(n':Int)<1
  ·go_enter Tryz.func47,Tryz.ntmps47;go_wp2_with fail;go_ret;exact Yi.f HH.out
  have a4:(96:Int)<(n':Int):=by omega
  go_enter Tryz.func47,Tryz.ntmps47;go_wp2_with fail;go_ret;exact Yi.f HH.out
structure Tb where
 rules:Int
 cl:Nat->Int
 ncl:Nat
 lb:Nat->Int
 nlb:Nat
 bs:Nat->Int
 nbs:Nat
 df:Nat->Int
 ndf:Nat
 ck:Nat->Int
 nck:Nat
 nx:Nat->Int
 nnx:Nat
structure T8 where
 a1:Option Addr
 c1:Nat
 a2:Option Addr
 c2:Nat
 a3:Option Addr
 c3:Nat
 a4:Option Addr
 c4:Nat
 a5:Option Addr
 c5:Nat
 a6:Option Addr
 c6:Nat
def T8.cells (A:T8) (T:Tb):Array Value:=#[.int .i64 T.rules,.slice A.a1 T.ncl A.c1,.slice A.a2 T.nlb A.c2,.slice A.a3 T.nbs A.c3,.slice A.a4 T.ndf A.c4,.slice A.a5 T.nck A.c5,.slice A.a6 T.nnx A.c6]
structure Vj (T:Tb) (A:T8) (w:World):Prop where
 l1:IL A.a1 T.cl T.ncl w
 l2:IL A.a2 T.lb T.nlb w
 l3:IL A.a3 T.bs T.nbs w
 l4:IL A.a4 T.df T.ndf w
 l5:IL A.a5 T.ck T.nck w
 l6:IL A.a6 T.nx T.nnx w
variable {T:Tb}
theorem Vj.below {A:T8} (h:Vj T A w) (hW:Below w.heap.size w w'):Vj T A w':=
 ⟨h.l1.below hW,h.l2.below hW,h.l3.below hW,h.l4.below hW,h.l5.below hW,h.l6.below hW⟩
structure J1 (T:Tb):Prop where
 s1:T.ncl+3<=17592186044416
 s2:T.nlb+3<=17592186044416
 s3:T.nbs+3<=17592186044416
 s4:T.ndf+3<=17592186044416
 s5:T.nck+3<=17592186044416
 s6:T.nnx+3<=17592186044416
structure Xa (b:Nat) (T:Tb) (A:T8) (w:World):Prop where
 c0:w.cell? ⟨b,0,none⟩=some (.int .i64 T.rules)
 c1:w.cell? ⟨b,1,none⟩=some (.slice A.a1 T.ncl A.c1)
 c2:w.cell? ⟨b,2,none⟩=some (.slice A.a2 T.nlb A.c2)
 c3:w.cell? ⟨b,3,none⟩=some (.slice A.a3 T.nbs A.c3)
 c4:w.cell? ⟨b,4,none⟩=some (.slice A.a4 T.ndf A.c4)
 c5:w.cell? ⟨b,5,none⟩=some (.slice A.a5 T.nck A.c5)
 c6:w.cell? ⟨b,6,none⟩=some (.slice A.a6 T.nnx A.c6)
theorem Xa.below {A:T8} (h:Xa b T A w) (hW:Below w.heap.size w w'):Xa b T A w':=by
 have hb:=World.block_lt_of_cell? w _ h.c0;have e:∀k,w'.cell? ⟨b,k,none⟩=w.cell? ⟨b,k,none⟩:=fun k=>hW.cell (p:=⟨b,k,none⟩) hb
 exact⟨by rw[e];exact h.c0,by rw[e];exact h.c1,by rw[e];exact h.c2,by rw[e];exact h.c3,by rw[e];exact h.c4,by rw[e];exact h.c5,by rw[e];exact h.c6⟩
theorem Xa.boxed (T:Tb) (A:T8) (w:World) (t:TypeId):Xa w.heap.size T A (w.alloc (.cells (A.cells T) t)):=by
 refine⟨?_,?_,?_,?_,?_,?_,?_⟩<;>(rw[World.cell?_alloc_new];rfl)
theorem Xa.lt {A:T8} (h:Xa b T A w):b<w.heap.size:=World.block_lt_of_cell? w _ h.c0
def Wp (T:Tb) (k:Nat):Prop:=
 (T.ck k=-1/\T.nx k=-1)\/((0<=T.ck k/\T.ck k<T.nlb)/\(-1<=T.nx k/\T.nx k<T.nlb)/\0<=(k:Int)-T.bs (T.ck k).toNat/\(k:Int)-T.bs (T.ck k).toNat<VH T.cl T.ncl)
structure SG (T:Tb):Prop where
 hd:Hd T.rules T.cl T.ncl T.lb T.nlb
 e3:T.nbs=T.nlb
 e4:T.ndf=T.nlb
 e6:T.nnx=T.nck
 e5:T.nck<=24576
 b3:∀i,i<T.nlb->0<=T.bs i/\T.bs i<=T.nck
 b4:∀i,i<T.nlb->-1<=T.df i/\T.df i<i
 cs:∀k,k<T.nck->Wp T k
 la:T.nck=0\/T.ck (T.nck-1)≠-1
def X2 (P:Prop) (w:World) (e:Ending) (w':World):Prop:=∃b,e=.returned (.bool b)/\(b=true<->P)/\Below w.heap.size w w'
theorem X2.t {P:Prop} (h:P) (hW:Below w.heap.size w w'):X2 P w (.returned (.bool true)) w':=⟨true,rfl,by simpa using h,hW⟩
theorem X2.f {P:Prop} (h:¬P) (hW:Below w.heap.size w w'):X2 P w (.returned (.bool false)) w':=⟨false,rfl,by simpa using h,hW⟩
theorem Yh (w:World) (o:Obj):Below w.heap.size w (w.alloc o):=(Below.refl _ _).alloc (Nat.le_refl _) o
theorem Qb (ad:Option Addr) (n cap:Nat) (f:Nat->Int) (w:World) (hn:n<=maxLen) (h:IL ad f n w):
  Calls Tryz.prog 52 #[.slice ad n cap] w (Yi (∀i:Nat,i<n->-1<=f i/\f i<i) w):=by
 unfold maxLen at hn;have H:=hyd h;clear h;go_enter Tryz.func52,Tryz.ntmps52;go_wp2_with fail
 go_loop [7] (fun i=>∃k:Nat,k<=n/\i=.int .i64 k/\Hid (∀i:Nat,i<k->-1<=f i/\f i<i)) (fun i=>n-(intOf i).toNat)
 case atStart=>exact⟨0,by omega,rfl,fun i hi=>by omega⟩
 case round=>
  obtain⟨k,hk,rfl,HK⟩:=hrel;by_cases hlt:k<n
  ·have hlt':(k:Int)<n:=by omega
   obtain⟨b,off,rfl,c1⟩:=H.out k hlt;by_cases h1:f k < -1
   ·go_wp2_with fail;go_ret;exact Yi.f (fun h=>by have:=h k hlt;omega)
   ·by_cases h2:(k:Int)<=f k
    ·go_wp2_with fail;go_ret;exact Yi.f (fun h=>by have:=h k hlt;omega)
    ·go_wp2_with fail
     go_round
     case rel=>exact⟨k+1,by omega,by go_num,fun i hi'=>by
      by_cases e:i=k
      ·subst e;omega
      ·exact HK.out i (by omega)⟩
     case measure=>simp[intOf];omega
  ·have hge:¬(k:Int)<n:=by omega
   have hkn:k=n:=by omega
   go_wp2_with fail;go_ret;exact Yi.t (fun i hi'=>HK.out i (by omega))
theorem SA (b:Nat) (T:Tb) (A:T8) (w:World) (hs:J1 T) (h:Xa b T A w):
  Calls Tryz.prog 51 #[.pointer (some ⟨b,0,none⟩)] w (Yi (T.nbs=T.nlb/\T.ndf=T.nlb/\T.nnx=T.nck/\T.nck<=24576) w):=by
 obtain⟨z1,z2,z3,z4,z5,z6⟩:=hs;obtain⟨rules,cl,ncl,lb,nlb,bs,nbs,df,ndf,ck,nck,nx,nnx⟩:=T;obtain⟨d0,d1,d2,d3,d4,d5,d6⟩:=h;simp only at *;generalize hP:(nbs=nlb/\ndf=nlb/\nnx=nck/\nck<=24576)=P;by_cases e3:nbs=nlb
 case neg=>
  have q1:((nbs:Int)==(nlb:Int))=false:=beq_eq_false_iff_ne.2 (by omega);have HN:Hid (¬P):=by show ¬P;rw[<-hP];exact fun h=>e3 h.1
  clear hP e3;go_enter Tryz.func51,Tryz.ntmps51;go_wp2_with fail;go_ret;exact Yi.f HN.out
 subst e3;by_cases e4:ndf=nbs
 case neg=>
  have q1:((ndf:Int)==(nbs:Int))=false:=beq_eq_false_iff_ne.2 (by omega);have HN:Hid (¬P):=by show ¬P;rw[<-hP];exact fun h=>e4 h.2.1
  clear hP e4;go_enter Tryz.func51,Tryz.ntmps51;go_wp2_with fail;go_ret;exact Yi.f HN.out
 subst e4;by_cases e6:nnx=nck
 case neg=>
  have q1:((nnx:Int)==(nck:Int))=false:=beq_eq_false_iff_ne.2 (by omega);have HN:Hid (¬P):=by show ¬P;rw[<-hP];exact fun h=>e6 h.2.2.1
  clear hP e6;go_enter Tryz.func51,Tryz.ntmps51;go_wp2_with fail;go_ret;exact Yi.f HN.out
 subst e6;by_cases e5:nnx<=24576
 ·have q1:(nnx:Int)<=24576:=by omega
  have HT:Hid P:=by show P;rw[<-hP];exact⟨rfl,rfl,rfl,e5⟩
  clear hP e5;go_enter Tryz.func51,Tryz.ntmps51;go_wp2_with fail;go_ret;exact Yi.t HT.out
 ·have q1:¬(nnx:Int)<=24576:=by omega
  have HN:Hid (¬P):=by show ¬P;rw[<-hP];exact fun h=>e5 h.2.2.2
  clear hP e5;go_enter Tryz.func51,Tryz.ntmps51;go_wp2_with fail;go_ret;exact Yi.f HN.out
theorem Rg (b:Nat) (T:Tb) (A:T8) (w:World) (hs:J1 T) (h:Xa b T A w) (hI:Vj T A w) (e3:T.nbs=T.nlb) (e6:T.nnx=T.nck) (e5:T.nck<=24576) (hb3:∀i,i<T.nlb->0<=T.bs i/\T.bs i<=T.nck):
  Calls Tryz.prog 53 #[.pointer (some ⟨b,0,none⟩),.int .i64 (VH T.cl T.ncl)] w (Yi ((∀k,k<T.nck->Wp T k)/\(T.nck=0\/T.ck (T.nck-1)≠-1)) w):=by
 obtain⟨z1,z2,z3,z4,z5,z6⟩:=hs;have hcl:=QC T.cl T.ncl;have HCE:Hid (∀k'<T.nck,Wp T k'<->((T.ck k'=-1/\T.nx k'=-1)\/((0<=T.ck k'/\T.ck k'<T.nlb)/\(-1<=T.nx k'/\T.nx k'<T.nlb)/\0<=(k':Int)-T.bs (T.ck k').toNat/\(k':Int)-T.bs (T.ck k').toNat<VH T.cl T.ncl))):=fun k' _=>Iff.rfl
 have HP:Hid (∀k' ,k'<T.nck->¬Wp T k'->¬((∀k,k<T.nck->Wp T k)/\(T.nck=0\/T.ck (T.nck-1)≠-1))):=fun k' h1 h2 h3=>h2 (h3.1 k' h1)
 generalize hPP:((∀k,k<T.nck->Wp T k)/\(T.nck=0\/T.ck (T.nck-1)≠-1))=PP at *;have HPP:=hyd hPP;clear hPP;generalize hCO:Wp T=CO at *;clear hCO;obtain⟨rules,cl,ncl,lb,nlb,bs,nbs,df,ndf,ck,nck,nx,nnx⟩:=T;simp only at *;subst e3 e6;obtain⟨d0,d1,d2,d3,d4,d5,d6⟩:=h;have HI3:=hyd hI.l3;have HI5:=hyd hI.l5;have HI6:=hyd hI.l6;have HB3:=hyd hb3;clear hI hb3;simp only at *;generalize VH cl ncl=c at *;obtain⟨a1,c1,a2,c2,a3,c3,a4,c4,a5,c5,a6,c6⟩:=A;simp only at *;go_enter Tryz.func53,Tryz.ntmps53;go_wp2_with fail
 go_loop [6,21] (fun la i=>∃j:Nat,j<=nnx/\i=.int .i64 j/\la=.int .i64 (if j=0 then -1 else ck (j-1))/\Hid (∀i,i<j->CO i)) (fun _ i=>nnx-(intOf i).toNat)
 case atStart=>exact⟨0,by omega,rfl,rfl,fun i hi=>by omega⟩
 case round=>
  obtain⟨j,hj,rfl,rfl,HJ⟩:=hrel;generalize hla:(if j=0 then -1 else ck (j-1))=la;have Hla:=hyd hla;clear hla;by_cases hjl:j<nnx
  ·have hjl':(j:Int)<nnx:=by omega
   obtain⟨b5,o5,rfl,g5⟩:=HI5.out j hjl;obtain⟨b6,o6,rfl,g6⟩:=HI6.out j hjl;have HN:=hyd (HP.out j hjl);have HJ2:Hid (CO j->∀i,i<j+1->CO i):=fun h i hi'=>by
    by_cases e:i=j
    ·subst e;exact h
    ·exact HJ.out i (by omega)
   have Hnext:Hid ((if j+1=0 then -1 else ck (j+1-1))=ck j):=by show _=_;simp
   have HE:=HCE.out j hjl;clear Hla;by_cases hx:ck j=-1
   ·by_cases hy:nx j=-1
    ·have HJ3:=hyd (HJ2.out (HE.2 (Or.inl ⟨hx,hy⟩)));have Hn2:Hid ((if j+1=0 then -1 else ck (j+1-1))=-1):=by show _=_;rw[Hnext.out,hx]
     rw[hx]at g5;rw[hy]at g6;clear HE HJ2 HN hx hy;go_wp2_with fail
     go_round
     case rel=>exact⟨j+1,by omega,by go_num,by rw[Hn2.out],HJ3.out⟩
     case measure=>simp[intOf];omega
    ·have HN2:=hyd (HN.out (fun h=>by have:=HE.1 h;omega));have q1:(nx j==-1)=false:=by simpa using hy
     rw[hx]at g5;clear HE HJ2 HN hx hy;go_wp2_with fail;go_ret;exact Yi.f HN2.out
   have q1:(ck j==-1)=false:=by simpa using hx
   by_cases h1:ck j<0
   ·have HN2:=hyd (HN.out (fun h=>by have:=HE.1 h;omega));clear HE HJ2 HN hx;go_wp2_with fail;go_ret;exact Yi.f HN2.out
   by_cases h2:(nbs:Int)<=ck j
   ·have HN2:=hyd (HN.out (fun h=>by have:=HE.1 h;omega));clear HE HJ2 HN hx;go_wp2_with fail;go_ret;exact Yi.f HN2.out
   obtain⟨m,hm⟩:=Int.eq_ofNat_of_zero_le (show 0<=ck j by omega);have Hn2:Hid ((if j+1=0 then -1 else ck (j+1-1))=(m:Int)):=by show _=_;rw[Hnext.out,hm]
   rw[hm]at g5 h1 h2 q1 HE;simp only[Int.toNat_natCast]at HE;have hmk:m<nbs:=by omega
   obtain⟨b7,o7,rfl,g7⟩:=HI3.out m hmk;have hbs:=HB3.out m hmk;have hmk':(m:Int)<nbs:=by omega
   clear hx hm Hnext;generalize bs m=z at *;generalize nx j=y at *;by_cases h5:y < -1
   ·have HN2:=hyd (HN.out (fun h=>by have:=HE.1 h;omega));clear HE HJ2 HN;go_wp2_with fail;go_ret;exact Yi.f HN2.out
   by_cases h6:(nbs:Int)<=y
   ·have HN2:=hyd (HN.out (fun h=>by have:=HE.1 h;omega));clear HE HJ2 HN;go_wp2_with fail;go_ret;exact Yi.f HN2.out
   by_cases h3:(j:Int)-z<0
   ·have HN2:=hyd (HN.out (fun h=>by have:=HE.1 h;omega));clear HE HJ2 HN;go_wp2_with fail;go_ret;exact Yi.f HN2.out
   by_cases h4:(c:Int)<=j-z
   ·have HN2:=hyd (HN.out (fun h=>by have:=HE.1 h;omega));clear HE HJ2 HN;go_wp2_with fail;go_ret;exact Yi.f HN2.out
   have HJ3:=hyd (HJ2.out (HE.2 (by omega)));clear HE HJ2 HN;go_wp2_with fail
   go_round
   case rel=>exact⟨j+1,by omega,by go_num,by rw[Hn2.out],HJ3.out⟩
   case measure=>simp[intOf];omega
  ·have hge:¬(j:Int)<nnx:=by omega
   have hjn:j=nnx:=by omega
   subst hjn;clear HCE HP;by_cases hj0:j=0
   ·subst hj0;have HT:Hid PP:=by show PP;rw[<-HPP.out];exact⟨HJ.out,Or.inl rfl⟩
    go_wp2_with fail;go_ret;exact Yi.t HT.out
   ·have q0:((j:Int)==0)=false:=beq_eq_false_iff_ne.2 (by omega);have HL:Hid (la=ck (j-1)):=by show _=_;rw[<-Hla.out,if_neg hj0]
    by_cases hl:la=-1
    ·have HN2:Hid (¬PP):=by
      show ¬PP;rw[<-HPP.out];intro h;rcases h.2 with h2|h2
      ·exact hj0 h2
      ·exact h2 (by rw[<-HL.out];exact hl)
     subst hl;clear hj0 Hla HL;go_wp2_with fail;go_ret;exact Yi.f HN2.out
    ·have HT:Hid PP:=by show PP;rw[<-HPP.out];exact⟨HJ.out,Or.inr (by rw[<-HL.out];exact hl)⟩
     have q1:(la==-1)=false:=by simpa using hl
     have q2:(la != -1)=true:=by simpa using hl
     clear hj0 Hla HL hl;go_wp2_with fail;go_ret;exact Yi.t HT.out
variable {f:Nat->Int}
theorem IL.heapE (h:IL ad f n w) (hw:w'.heap=w.heap):IL ad f n w':=fun i hi=>by
 obtain⟨b,off,h1,h2⟩:=h i hi;exact⟨b,off,h1,by rw[World.cell?_of_block (w:=w) (a:=⟨b,off+i,none⟩) (by rw[hw])];exact h2⟩
theorem Vj.heap {A:T8} (h:Vj T A w) (hw:w'.heap=w.heap):Vj T A w':=
 ⟨h.l1.heapE hw,h.l2.heapE hw,h.l3.heapE hw,h.l4.heapE hw,h.l5.heapE hw,h.l6.heapE hw⟩
theorem Xa.heap {A:T8} (h:Xa b T A w) (hw:w'.heap=w.heap):Xa b T A w':=by
 have e:∀k,w'.cell? ⟨b,k,none⟩=w.cell? ⟨b,k,none⟩:=fun k=>World.cell?_of_block (w:=w) (a:=⟨b,k,none⟩) (by rw[hw])
 exact⟨by rw[e];exact h.c0,by rw[e];exact h.c1,by rw[e];exact h.c2,by rw[e];exact h.c3,by rw[e];exact h.c4,by rw[e];exact h.c5,by rw[e];exact h.c6⟩
theorem Vl (f:FuncId) (args:Array Value) (P:Prop) (w:World) (h:∀w',w'.heap=w.heap->Calls Tryz.prog f args w' (Yi P w')):
  ∃b,(b=true<->P)/\∀w',w'.heap=w.heap->Calls Tryz.prog f args w' fun e w''=>e=.returned (.bool b)/\w''=w':=by
 by_cases hP:P
 ·refine⟨true,by simpa using hP,fun w' hw=>(h w' hw).mono ?_⟩;rintro e w2 ⟨b,rfl,hb,rfl⟩;have:b=true:=hb.2 hP;subst this;exact⟨rfl,rfl⟩
 ·refine⟨false,by simpa using hP,fun w' hw=>(h w' hw).mono ?_⟩;rintro e w2 ⟨b,rfl,hb,rfl⟩;have:b=false:=by
   cases b
   ·rfl
   ·exact absurd (hb.1 rfl) hP
  subst this;exact⟨rfl,rfl⟩
theorem Pb (b:Nat) (T:Tb) (A:T8) (w:World) (hs:J1 T) (h:Xa b T A w) (hI:Vj T A w):
  Calls Tryz.prog 27 #[.pointer (some ⟨b,0,none⟩)] w (X2 (SG T) w):=by
 have m1:T.ncl<=maxLen:=by have:=hs.s1;unfold maxLen;omega
 have m2:T.nlb<=maxLen:=by have:=hs.s2;unfold maxLen;omega
 have m3:T.nbs<=maxLen:=by have:=hs.s3;unfold maxLen;omega
 have m4:T.ndf<=maxLen:=by have:=hs.s4;unfold maxLen;omega
 obtain⟨p1,k1,f1⟩:=Vl 47 #[.int .i64 T.rules,.slice A.a1 T.ncl A.c1,.slice A.a2 T.nlb A.c2] _ w (fun w' hw=>Sf _ _ _ _ _ _ _ _ _ w' m1 m2 (hI.l1.heapE hw) (hI.l2.heapE hw));obtain⟨p2,k2,f2⟩:=Vl 51 #[.pointer (some ⟨b,0,none⟩)] _ w (fun w' hw=>SA b T A w' hs (h.heap hw));obtain⟨p3,k3,f3⟩:=Vl 48 #[.slice A.a3 T.nbs A.c3,.int .i64 0,.int .i64 T.nck] _ w (fun w' hw=>VC _ _ _ _ _ _ w' m3 (hI.l3.heapE hw));obtain⟨p4,k4,f4⟩:=Vl 52 #[.slice A.a4 T.ndf A.c4] _ w (fun w' hw=>Qb _ _ _ _ w' m4 (hI.l4.heapE hw));have F1:=hyd f1;have F2:=hyd f2;have F3:=hyd f3;have F4:=hyd f4;have F5:Hid (∀w',w'.heap=w.heap->Calls Tryz.prog 22 #[.slice A.a1 T.ncl A.c1] w' fun e w''=>e=.returned (.int .i64 (VH T.cl T.ncl))/\w''=w'):=fun w' hw=>XC _ _ _ _ _ m1 (hI.l1.heapE hw)
 have F6:Hid (∀w',w'.heap=w.heap->T.nbs=T.nlb->T.nnx=T.nck->T.nck<=24576->(∀i,i<T.nlb->0<=T.bs i/\T.bs i<=T.nck)->Calls Tryz.prog 53 #[.pointer (some ⟨b,0,none⟩),.int .i64 (VH T.cl T.ncl)] w' (Yi ((∀k,k<T.nck->Wp T k)/\(T.nck=0\/T.ck (T.nck-1)≠-1)) w')):=fun w' hw e3 e6 e5 hb=>Rg b T A _ hs (h.heap hw) (hI.heap hw) e3 e6 e5 hb
 have K1:=hyd k1;have K2:=hyd k2;have K3:=hyd k3;have K4:=hyd k4;have H0:=hyd h;obtain⟨d0,d1,d2,d3,d4,d5,d6⟩:=h;have N1:Hid (SG T->p1=true):=fun h=>k1.2 h.hd
 have N2:Hid (SG T->p2=true):=fun h=>k2.2 ⟨h.e3,h.e4,h.e6,h.e5⟩
 have N3:Hid (SG T->p3=true):=fun h=>k3.2 (fun i hi=>h.b3 i (by rw[<-h.e3];exact hi))
 have N4:Hid (SG T->p4=true):=fun h=>k4.2 (fun i hi=>h.b4 i (by rw[<-h.e4];exact hi))
 clear hI f1 f2 f3 f4 k1 k2 k3 k4 m1 m2 m3 m4 hs;generalize VH T.cl T.ncl=c at *;go_enter Tryz.func27,Tryz.ntmps27;go_wp2_with fail
 go_quiet ((go_at_call 47;exact Calls.quiet_of_same (F1.out _ rfl)))
 have hW1:Below w.heap.size w (w.drewN nq):=Wc _ _ _;have HW1:Hid ((w.drewN nq).heap=w.heap):=rfl;have H1':Xa b T A (w.drewN nq):=H0.out.heap rfl;generalize w.drewN nq=w1 at *;clear d0 d1 d2 d3 d4 d5 d6;obtain⟨d0,d1,d2,d3,d4,d5,d6⟩:=H1';cases p1
 ·have HN2:Hid (¬SG T):=fun h=>by have:=N1.out h;cases this
  go_wp2_with fail;go_ret;exact X2.f HN2.out hW1
 have HQ1:=hyd (K1.out.1 rfl);clear K1 N1;go_wp2_with fail;refine Calls.mono (F2.out _ HW1.out) ?_;rintro e w' ⟨rfl,rfl⟩;cases p2
 ·have HN2:Hid (¬SG T):=fun h=>by have:=N2.out h;cases this
  go_wp2_with fail;go_ret;exact X2.f HN2.out hW1
 have q2:=K2.out.1 rfl;have HQ2:=hyd q2;have K3':Hid (p3=true->∀i,i<T.nlb->0<=T.bs i/\T.bs i<=T.nck):=fun h i hi=>K3.out.1 h i (by rw[q2.1];exact hi)
 have K4':Hid (p4=true->∀i:Nat,i<T.nlb->-1<=T.df i/\T.df i<i):=fun h i hi=>K4.out.1 h i (by rw[q2.2.1];exact hi)
 clear K2 N2 q2 K3 K4;go_wp2_with fail
 go_quiet ((go_at_call 48;refine Calls.quiet_of_same (F3.out _ ?_);exact HW1.out))
 cases p3
 ·have HN2:Hid (¬SG T):=fun h=>by have:=N3.out h;cases this
  go_wp2_with fail;go_ret;exact X2.f HN2.out (hW1.trans (Wc _ _ _))
 have HQ3:=hyd (K3'.out rfl);clear K3' N3;go_wp2_with fail;refine Calls.mono (F4.out _ ?hh) ?_
 case hh=>exact HW1.out
 rintro e w' ⟨rfl,rfl⟩;cases p4
 ·have HN2:Hid (¬SG T):=fun h=>by have:=N4.out h;cases this
  go_wp2_with fail;go_ret;exact X2.f HN2.out (hW1.trans (Wc _ _ _))
 have HQ4:=hyd (K4'.out rfl);clear K4' N4;go_wp2_with fail;refine Calls.mono (F5.out _ ?hh) ?_
 case hh=>exact HW1.out
 rintro e w' ⟨rfl,rfl⟩;go_wp2_with fail;refine Calls.mono (F6.out _ ?hh HQ2.out.1 HQ2.out.2.2.1 HQ2.out.2.2.2 HQ3.out) ?_
 case hh=>exact HW1.out
 rintro e w' ⟨b6,rfl,hb6,rfl⟩;have HB6:=hyd hb6;clear hb6;go_wp2_with fail;go_ret;refine⟨b6,rfl,?_,hW1.trans (Wc _ _ _)⟩;rw[HB6.out];exact⟨fun h=>⟨HQ1.out,HQ2.out.1,HQ2.out.2.1,HQ2.out.2.2.1,HQ2.out.2.2.2,HQ3.out,HQ4.out,h.1,h.2⟩,fun h=>⟨h.cs,h.la⟩⟩
def FG:Nat:=79764919
def Fo (l:List UInt8) (j:Nat):Bool:=decide (j<8*l.length)&&(l.getD (j/8) 0).toNat.testBit (7-j%8)
def Uh (r:Nat) (b:Bool):Nat:=(2*r%4294967296) ^^^ (if (b ^^ r.testBit 31) then FG else 0)
def KU (l:List UInt8):Nat->Nat
 |0=>4294967295
 |i+1=>Uh (KU l i) (Fo l i)
theorem UU (x t:Nat):(2*x%4294967296).testBit t=(decide (t<32)&&decide (1<=t)&&x.testBit (t-1)):=by
 rw[show(4294967296:Nat)=2 ^ 32 from rfl,Nat.testBit_mod_two_pow];rcases t with _|t
 ·simp
 ·rw[Nat.testBit_succ,show 2*x/2=x by omega];simp
def VI (r:Nat):Nat:=Uh r false
theorem GY (r x:Nat):VI (r ^^^ x)=Uh r (x.testBit 31) ^^^ (2*x%4294967296):=by
 unfold VI Uh;have h:2*(r ^^^ x)%4294967296=(2*r%4294967296) ^^^ (2*x%4294967296):=by
  apply Nat.eq_of_testBit_eq;intro i;rw[Nat.testBit_xor,UU,UU,UU,Nat.testBit_xor];cases decide (i<32)<;>cases decide (1<=i)<;>simp
 rw[h,Nat.testBit_xor,Bool.false_xor,Bool.xor_comm (x.testBit 31)];rw[Nat.xor_assoc,Nat.xor_comm (2*x%4294967296),<-Nat.xor_assoc]
def XT (b:UInt8) (k:Nat):Nat:=b.toNat*2 ^ (24+k)%4294967296
theorem Pv (b:UInt8) (k:Nat):XT b k<4294967296:=Nat.mod_lt _ (by omega)
theorem Nz (b:UInt8) (k:Nat):2*XT b k%4294967296=XT b (k+1):=by
 unfold XT;rw[show 24+(k+1)=(24+k)+1 by omega,Nat.pow_succ,<-Nat.mul_assoc];omega
theorem OJ (b:UInt8):XT b 8=0:=by
 unfold XT;rw[show(2:Nat) ^ (24+8)=4294967296 by decide];omega
theorem NA (b:UInt8):XT b 0=b.toNat*16777216:=by
 have:=b.toNat_lt;unfold XT;rw[show(2:Nat) ^ (24+0)=16777216 by decide];omega
theorem Ms (b:UInt8) (k:Nat) (hk:k<8):(XT b k).testBit 31=b.toNat.testBit (7-k):=by
 unfold XT;rw[show(4294967296:Nat)=2 ^ 32 from rfl,Nat.testBit_mod_two_pow,Nat.mul_comm,Nat.testBit_two_pow_mul];rw[show 31-(24+k)=7-k by omega];simp;omega
theorem Gk (l:List UInt8) (i k:Nat) (hi:i<l.length) (hk:k<8):Fo l (8*i+k)=l[i].toNat.testBit (7-k):=by
 unfold Fo;rw[show(8*i+k)/8=i by omega,show(8*i+k)%8=k by omega,List.getD_eq_getElem?_getD,List.getElem?_eq_getElem hi];simp;omega
theorem JQ (l:List UInt8) (i k:Nat) (hi:i<l.length) (hk:k<8):VI (KU l (8*i+k) ^^^ XT l[i] k)=KU l (8*i+(k+1)) ^^^ XT l[i] (k+1):=by
 rw[GY,Ms _ _ hk,Nz,<-Nat.add_assoc,KU,Gk l i k hi hk]
theorem JP (l:List UInt8) (i:Nat) (b:UInt8):KU l (8*i+8) ^^^ XT b 8=KU l (8*(i+1)):=by
 rw[OJ,Nat.xor_zero];rfl
theorem Md {x:Nat} (h:2147483648<=x) (hx:x<4294967296):VI x=(2*x%4294967296) ^^^ 79764919:=by
 have:x.testBit 31=true:=by
  rw[Nat.testBit_eq_decide_div_mod_eq];simp;omega
 simp[VI,Uh,this,FG]
theorem Me {x:Nat} (h:x<2147483648):VI x=2*x%4294967296:=by
 have:x.testBit 31=false:=by
  rw[Nat.testBit_eq_decide_div_mod_eq];simp;omega
 simp[VI,Uh,this]
def Kl (l:List UInt8):Nat:=4294967295-KU l (8*l.length)
def Vt (l:List UInt8):List UInt8:=[YX ((Kl l/16777216:Nat):Int),YX ((Kl l/65536:Nat):Int),YX ((Kl l/256:Nat):Int),YX ((Kl l:Nat):Int)]
def TZ (t:Nat) (L:List Value) (w:World):Prop:=∀k v,L[k]?=some v->w.cell? ⟨t,k,none⟩=some v/\w.frozen? ⟨t,k,none⟩=false
variable {t:Nat}
theorem TZ.block (h:TZ t L w) (hb:w'.heap[t]?=w.heap[t]?):TZ t L w':=fun k v hv=>by
 rw[World.cell?_of_block (w:=w) (a:=⟨t,k,none⟩) hb,World.frozen?_of_block (w:=w) (a:=⟨t,k,none⟩) hb];exact h k v hv
theorem TZ.lt (h:TZ t (v::L) w):t<w.heap.size:=World.block_lt_of_cell? w _ (h 0 v rfl).1
theorem TZ.below (h:TZ t (v::L) w) (hW:Below w.heap.size w w'):TZ t (v::L) w':=h.block (hW.block t h.lt)
theorem TZ.set (h:TZ t L w) (q:Nat) (hq:q<L.length) (u:Value):TZ t (L.set q u) (w.setCell ⟨t,q,none⟩ u):=fun k v hv=>by
 rw[World.frozen?_setCell];by_cases e:k=q
 ·subst e;rw[List.getElem?_set_self hq]at hv;obtain⟨h1,h2⟩:=h k L[k] (List.getElem?_eq_getElem hq);cases hv;exact⟨World.cell?_setCell_same w ⟨t,k,none⟩ u (by rw[h1]),h2⟩
 ·rw[List.getElem?_set_ne (fun x=>e x.symm)]at hv;obtain⟨h1,h2⟩:=h k v hv;exact⟨by rw[World.cell?_setCell_other _ _ _ _ (by intro he;cases he;exact e rfl)];exact h1,h2⟩
theorem TZ.range (h:TZ t L w):w.rangeAt t 0 L:=fun k v hv=>by rw[Nat.zero_add];exact(h k v hv).1
theorem TZ.boxed (w:World) (L:List Value) (ty:TypeId):TZ w.heap.size L (w.alloc (.cells L.toArray ty)):=fun k v hv=>by
 refine⟨by rw[World.cell?_alloc_new];simpa using hv,?_⟩;go_simp
theorem Ne {e:TypeId} (h:w.ownsRow base e sz v n xs) (hW:Below w.heap.size w w'):w'.ownsRow base e sz v n xs:=by
 refine⟨h.1,?_⟩;rcases h.2 with h0|⟨g',cap',cur,hv',hb,hg,hrest⟩
 ·exact Or.inl h0
 ·refine Or.inr ⟨g',cap',cur,hv',hb,?_,hrest⟩;rw[hW.block g' ?_];exact hg;rcases Nat.lt_or_ge g' w.heap.size with hlt|hge
  ·exact hlt
  ·rw[Array.getElem?_eq_none hge]at hg;cases hg
end
end Go.Proofs.YtoaaklhpmhjhkabGreat
