import Derived.WalkSpells
import Derived.WalkLawsBesides
import Derived.Deep.QuietTactic
import Derived.BigQuiet
import Derived.Deep.RegionHeld3
import Derived.ArgAppend
import Derived.Laws.IdiomCopy
import Derived.Laws.IdiomStrings
import Derived.Laws.BitsAllLaws
import Derived.Lib.SlBytesConst
import Derived.Test.YtoaaklhpmhjhkaaGreatSp
import Derived.Test.YtoaaklhpmhjhkaaGreatC01
set_option maxRecDepth 100000
set_option maxHeartbeats 4000000
set_option linter.all false
namespace Go.Proofs.YtoaaklhpmhjhkaaGreat
section
open Go.RowKit
def IL (ad:Option Addr) (f:Nat->Int) (n:Nat) (w:World):Prop:=
 ∀i,i<n->∃b off,ad=some ⟨b,off,none⟩/\w.cell? ⟨b,off+i,none⟩=some (.int .i64 (f i))
variable {a:Act}{ops:Array Oper}{Q:Exit->Act->World->Prop}{rest:List Oper}{cs xs:List Value}{b base base' g gb k m n sz:Nat}{o:Oper}{ad ta:Option Addr}{v:Value}{w w':World}
theorem IL.below {f:Nat->Int} (h:IL ad f n w) (y:Bl w w'):IL ad f n w':=λi c=>by
 obtain⟨b,a,h1,h2⟩:=h i c;refine⟨b,a,h1,?_⟩;rw[y.cell (p:=(a_ b (a+i))) (Ze w (a_ b (a+i)) h2)];exact h2
theorem Wi:∃i,Tryz.prog.info? 3=some i/\i.zero=some (I6 0)/\i.size=1/\i.bytes=8:=by
 have h1:(Tryz.prog.info? 3).isSome=true:=by kernel_rfl
 obtain⟨i,a⟩:=Zx.1 h1;refine⟨i,a,?_,?_,?_⟩
 ·have:((Tryz.prog.info? 3).bind (·.zero))=some (I6 0):=by kernel_rfl
  rw[a]at this;exact this
 ·have:((Tryz.prog.info? 3).map (·.size))=some 1:=by kernel_rfl
  rw[a]at this;simpa using this
 have:((Tryz.prog.info? 3).map (·.bytes))=some 8:=by kernel_rfl
 rw[a]at this;simpa using this
theorem Sq:∃i,Tryz.prog.info? 5=some i/\i.zero=some (.int .u8 0)/\i.size=1/\i.bytes=1:=by
 have h1:(Tryz.prog.info? 5).isSome=true:=by kernel_rfl
 obtain⟨i,a⟩:=Zx.1 h1;refine⟨i,a,?_,?_,?_⟩
 ·have:((Tryz.prog.info? 5).bind (·.zero))=some (.int .u8 0):=by kernel_rfl
  rw[a]at this;exact this
 ·have:((Tryz.prog.info? 5).map (·.size))=some 1:=by kernel_rfl
  rw[a]at this;simpa using this
 have:((Tryz.prog.info? 5).map (·.bytes))=some 1:=by kernel_rfl
 rw[a]at this;simpa using this
theorem Qh:∃i,Tryz.prog.info? 4=some i/\i.zero=some (.bool false)/\i.size=1/\i.bytes=1:=by
 have h1:(Tryz.prog.info? 4).isSome=true:=by kernel_rfl
 obtain⟨i,a⟩:=Zx.1 h1;refine⟨i,a,?_,?_,?_⟩
 ·have:((Tryz.prog.info? 4).bind (·.zero))=some (.bool false):=by kernel_rfl
  rw[a]at this;exact this
 ·have:((Tryz.prog.info? 4).map (·.size))=some 1:=by kernel_rfl
  rw[a]at this;simpa using this
 have:((Tryz.prog.info? 4).map (·.bytes))=some 1:=by kernel_rfl
 rw[a]at this;simpa using this
def X7 (base:Nat) (v:Value) (cs:List Value) (w:World):Prop:=
 (v=.slice none 0 0/\cs=[])\/∃g cap,v=.slice (some ⟨g,0,none⟩) cs.length cap/\base<=g/\g<w.heap.size/\cs.length<=cap /\
  (∀j u,cs[j]?=some u->w.cell? ⟨g,j,none⟩=some u)/\∀j,j<cap->(w.cell? ⟨g,j,none⟩).isSome=true/\w.frozen? ⟨g,j,none⟩=false
theorem X7.nil (base:Nat) (w:World):X7 base (sN) [] w:=Or.inl ⟨rfl,rfl⟩
theorem X7.ge (h:X7 base v cs w):∀k,v.ownBlock=some k->base<=k:=by
 intro k a;rcases h with ⟨rfl,_⟩|⟨g,cap,rfl,b,_⟩
 ·cases a
 cases a;exact b
theorem X7.block (h:X7 base v cs w) (hs:w.heap.size<=w'.heap.size) (y:∀k,k<w.heap.size->v.ownBlock=some k->w'.heap[k]?=w.heap[k]?):X7 base v cs w':=by
 rcases h with h|⟨g,cap,rfl,h1,h2,h3,c,d⟩
 ·exact Or.inl h
 have b:=y g h2 rfl;refine Or.inr ⟨g,cap,rfl,h1,by omega,h3,λj u f=>?_,λj e=>?_⟩
 ·rw[World.cell?_of_block (w:=w) (a:=(a_ g j)) b];exact c j u f
 rw[World.cell?_of_block (w:=w) (a:=(a_ g j)) b,World.frozen?_of_block (w:=w) (a:=(a_ g j)) b];exact d j e
theorem X7.below (h:X7 base v cs w) (y:Bl w w'):X7 base v cs w':=
 h.block y.size (λk a _=>y.block k a)
theorem X7.alloc (h:X7 base v cs w) (o:Obj):X7 base v cs (w.alloc o):=
 h.below ((Zk _ _).alloc (Zg _) o)
theorem X7.mono (h:X7 base v cs w) (y:base'<=base):X7 base' v cs w:=by
 rcases h with h|⟨g,cap,h0,h1,h2⟩
 ·exact Or.inl h
 exact Or.inr ⟨g,cap,h0,ZJ y h1,h2⟩
theorem X7.ofOwns {e:TypeId} (h:w.ownsRow base e 1 v n cs):X7 base v cs w:=by
 have b:cs.length=n:=by simpa using h.1
 rcases h.2 with ⟨rfl,h0⟩|⟨g,cap,a,rfl,h1,h2,h3,d,f,i⟩
 ·exact Or.inl ⟨rfl,List.eq_nil_of_length_eq_zero (by omega)⟩
 refine Or.inr ⟨g,cap,by rw[b],h1,(Array.getElem?_eq_some_iff.1 h2).1,by omega,λj u c=>?_,λj k=>?_⟩
 ·have:=h.cells (g:=g) rfl j u c;rw[Addr.add_lit]at this;simpa using this
 rw[cell_of_row w g j a e (0,0) h2];refine⟨by simp;omega,?_⟩;simp[World.frozen?,h2]
theorem VQ (b:Nat):∀(vs:List Value) (o:Nat) (w:World),(w.setCells b o vs).heap.size=w.heap.size
 |[],_,_=>rfl
 |v::r,o,w=>by rw[World.setCells,VQ b r];simp[World.setCell]
theorem Y8 (b:Nat):∀(vs:List Value) (o:Nat) (w:World),w.grownBy (w.setCells b o vs) (some b)
 |[],_,w=>⟨rfl,rfl,rfl,Zg _,λ_ _ _=>rfl⟩
 |v::r,o,w=>by
  have h:=Y8 b r (o+1) (w.setCell (a_ b o) v);refine⟨h.os,h.tape,h.output,?_,λk c a=>?_⟩
  ·rw[VQ];exact Zg _
  rw[World.setCells,h.block k (by simpa[World.setCell]using c) a];exact Zq w (a_ b o) v k (λe=>a (by rw[e]))
theorem Tt (hgd:o.guard=none) (s x:Operand) (t e:TypeId)
  (ho:o.op=.call { callee:=.builtin .append,args:=#[s,x],argTypes:=#[t,t] }) (i:TypeInfo) (z:Value) (bytes:Nat)
  (ht:Tryz.prog.underlying t=some (.slice e)) (hi:Tryz.prog.info? e=some i) (hz:i.zero=some z) (hsize:i.size=1) (hby:i.bytes=bytes) (hzs:z.cells.size=1) (hbyt:bytes<=8) (base:Nat)
  (v:Value) (cs:List Value) (hs:a.eval s=v) (hG:X7 base v cs w)
  (B m:Nat) (news:List Value) (hx:a.eval x=sL B m m) (hl:news.length=m) (hnews:∀j u,news[j]?=some u->w.cell? (a_ B j)=some u) (h1c:∀u∈news,u.oneCell'=true)
  (hb:cs.length+m<=100000000) (hbase:base<=w.heap.size) (hm:0<m)
  (h:∀g cap w',X7 base (sL g (cs.length+m) cap) (cs++news) w'->w.grownBy w' v.ownBlock->wpList Tryz.prog ops Q rest (a.put o.dst (sL g (cs.length+m) cap)) w'):wpList Tryz.prog ops Q (o::rest) a w:=by
 have p:(cs.length+m)*bytes<=140737488355328:=by
  have:(cs.length+m)*bytes<=100000000*8:=Nat.mul_le_mul hb hbyt;omega
 have A:∀j u,news[j]?=some u->w.cell? (((a_ B 0):Addr).add j)=some u:=λj u d=>by rw[Addr.add_lit,Zn];exact hnews j u d
 have r:∀v' w' (row:Option Nat),w'.ownsRow w.heap.size e 1 v' (cs.length+m) (cs++news)->w.grownBy w' none->∃g cap,v'=sL g (cs.length+m) cap/\X7 base (sL g (cs.length+m) cap) (cs++news) w'/\w.grownBy w' row:=by
  intro v' w' row f c;have C:=(X7.ofOwns f).mono hbase;rcases f.2 with ⟨_,h0⟩|⟨g,cap,K,rfl,_⟩
  ·omega
  exact⟨g,cap,rfl,C,⟨c.os,c.tape,c.output,c.size,λk N _=>c.block k N (by simp)⟩⟩
 rcases hG with ⟨rfl,rfl⟩|⟨g,cap,rfl,h1,h2,h3,I,n⟩
 ·refine wpList_append_grows w hgd s x t ho e i z 1 bytes ht hi hz hsize hby hzs (by omega) none 0 0 [] hs (λ_=>⟨rfl,rfl⟩) rfl (λb hb=>by cases hb) (a_ B 0) m m news hx (by omega) A h1c (by omega) (by unfold maxLen;simp at hb;omega) (by simpa using p) ?_;intro v' w' f c;obtain⟨g,cap,rfl,G,H⟩:=r v' w' (Value.ownBlock (sN)) (by simpa using f) c;exact h g cap w' G H
 refine wpList_append_arg w hgd s x t ho e i z 1 bytes ht hi hz hsize hby hzs (by omega) g 0 cs.length cap cs hs (by omega) (λj u d=>by rw[Zn];exact I j u d) (a_ B 0) m m news hx (by omega) A h1c (λJ j D=>?_) (by unfold maxLen;omega) p (λJ=>?_) (λJ v' w' f c=>?_)
 ·rw[Zn,Nat.mul_one];exact n _ (by omega)
 ·rw[Zn,Nat.mul_one];refine h g cap _ (Or.inr ⟨g,cap,by rw[Zl,hl],h1,by rw[VQ];exact h2,by rw[Zl];omega,λj u d=>?_,λj D=>?_⟩) (Y8 g news _ w)
  ·by_cases y:j<cs.length
   ·rw[Zv y]at d;rw[World.cell?_setCells_out g news cs.length w (a_ g j) (λ_ _=>Or.inl y)];exact I j u d
   rw[ZG (by omega)]at d;obtain⟨E,F⟩:=Zi.1 d;have:=World.cell?_setCells_in g news cs.length w (λq O=>(n _ (by omega)).1) (j-cs.length) E;rw[show cs.length+(j-cs.length)=j by omega]at this;rw[this,F]
  rw[World.frozen?_setCells];refine⟨?_,(n j D).2⟩;by_cases M:cs.length<=j/\j<cs.length+news.length
  ·have:=World.cell?_setCells_in g news cs.length w (λq O=>(n _ (by omega)).1) (j-cs.length) (by omega);rw[show cs.length+(j-cs.length)=j by omega]at this;rw[this];rfl
  rw[World.cell?_setCells_out g news cs.length w (a_ g j) (λ_ _=>by simp only;omega)];exact(n j D).1
 obtain⟨L,l,rfl,G,H⟩:=r v' w' (Value.ownBlock (sL g cs.length cap)) f c;exact h L l w' G H
def Tv (l:List UInt8):List Value:=l.map λx=>.int .u8 (x.toNat:Int)
theorem Nz (a b:List UInt8):Tv (a++b)=Tv a++Tv b:=by simp[Tv]
theorem TJ (a:List UInt8):(Tv a).length=a.length:=by simp[Tv]
def Y3 (x:Int):UInt8:=UInt8.ofNat (x%256).toNat
theorem Yq (x:Int):((Y3 x).toNat:Int)=x%256:=by
 unfold Y3;rw[UInt8.toNat_ofNat'];omega
open Bm (Aut fl gAt Tg)
structure Gr (gb:Nat) (A:Aut) (ta:Option Addr) (tc:Nat) (sv:Value) (w:World):Prop where
 c0:w.cell? ⟨gb,0,none⟩=some (.int .i64 A.K)
 c1:w.cell? ⟨gb,1,none⟩=some sv
 c2:w.cell? ⟨gb,2,none⟩=some (.slice ta (A.N*A.K) tc)
 l:IL ta (fl A) (A.N*A.K) w
variable {A:Aut}
theorem Gr.below {tc:Nat}{z:Value} (h:Gr gb A ta tc z w) (y:Bl w w'):Gr gb A ta tc z w':=by
 have a:=Ze w _ h.c0;have e:∀k,w'.cell? (a_ gb k)=w.cell? (a_ gb k):=λk=>y.cell (p:=(a_ gb k)) a
 exact⟨by rw[e];exact h.c0,by rw[e];exact h.c1,by rw[e];exact h.c2,h.l.below y⟩
structure Aut.Small (A:Aut):Prop where
 n:A.N<=200
 k:A.K<=256
theorem I1 {a:Nat} (h1:a<=m) (h2:b<=n):a*b<=m*n:=Nat.mul_le_mul h1 h2
theorem PK (gb:Nat) (A:Aut) (ta:Option Addr) (tc:Nat) (sv:Value) (oa:Option Addr) (oc:Nat) (of:Nat->Int) (a k:Nat) (w:World) (J:Aut.Small A) (hr:∀s k,s<A.N->k<A.K->-1<=A.to s k/\A.to s k<A.N) (H:Gr gb A ta tc sv w) (Z:IL oa of A.N w) (ha:a<A.N) (Y:k<A.K):
  Cp 177 #[pT gb,.slice oa A.N oc,I6 a,I6 k] w λe w'=>e=.returned (I6 (gAt A of a k))/\Bl w w':=by
 obtain⟨R,b⟩:=nam (gAt A of a k);rw[<-b];unfold gAt at b;obtain⟨p,d⟩:=nam (a*A.K);have B:(a:Int)*(A.K:Int)=(p:Int):=by rw[d];simp
 obtain⟨t,h⟩:=nam (p+k);have C:(p:Int)+(k:Int)=(t:Int):=by omega
 have c:t<A.N*A.K:=by rw[h,d];exact Bm.time_lt ha Y
 have x:=I1 J.n J.k;have y:=J.k;have o:fl A t=A.to a k:=by rw[h,d];exact Bm.fl_at A Y
 obtain⟨tb,z,rfl,c3⟩:=H.l t c;rw[o]at c3;have c0:=H.c0;have c2:=H.c2;obtain⟨M,j⟩:=nam (A.N*A.K);rw[<-j]at c2 c x;have u:(t:Int)<M:=by omega
 have g:=hr a k ha Y;have i:=hyd Z;clear Z H d h j o hr;by_cases h1:A.to a k=-1
 ·rw[if_pos h1]at b;have v:(A.to a k==-1)=true:=by simpa using h1
  subst b;go_enter Tryz.func177,Tryz.ntmps177;go_wp2
  go_quiet (fail)
  go_wp2;go_ret;exact⟨rfl,(Zk _ _).trans ⟨rfl,rfl,rfl,Zg _,λ_ _=>rfl⟩⟩
 rw[if_neg h1]at b;have v:(A.to a k==-1)=false:=by simpa using h1
 obtain⟨m,q⟩:=ZA (show 0<=A.to a k by omega);have f:m<A.N:=by omega
 have r:(m:Int)<(A.N:Int):=by omega
 rw[q]at b c3 v;rw[ZE]at b;obtain⟨ob,D,rfl,c4⟩:=i.out m f;subst b;clear i h1 q g;go_enter Tryz.func177,Tryz.ntmps177;go_wp2
 go_quiet (fail)
 go_wp2;go_ret;exact⟨rfl,(Zk _ _).trans ⟨rfl,rfl,rfl,Zg _,λ_ _=>rfl⟩⟩
theorem WL (B:Nat) (w:World) (q:Nat):Below B w (w.drewN q):=⟨rfl,rfl,rfl,Zg _,λ_ _=>rfl⟩
theorem L1 (gb:Nat) (A:Aut) (ta:Option Addr) (tc:Nat) (sv:Value) (oa:Option Addr) (oc:Nat) (of:Nat->Int) (a b:Nat) (w:World) (hA:Aut.Small A) (hr:∀s k,s<A.N->k<A.K->-1<=A.to s k/\A.to s k<A.N) (Y:Gr gb A ta tc sv w) (Z:IL oa of A.N w) (ha:a<A.N) (hb:b<A.N):
  Cp 176 #[pT gb,.slice oa A.N oc,I6 a,I6 b] w λe w'=>e=.returned (.bool (Tg A of a b))/\Bl w w':=by
 obtain⟨R,g⟩:=nam (Tg A of a b);rw[<-g];have l:Hid (R=true<->of a=of b/\∀k,k<A.K->gAt A of a k=gAt A of b k):=by rw[g];exact Bm.Tg_iff A of a b
 clear g;have u:Hid (∀(s k:Nat) (w':World),s<A.N->k<A.K->Bl w w'->Cp 177 #[pT gb,.slice oa A.N oc,I6 s,I6 k] w' λe w''=>e=.returned (I6 (gAt A of s k))/\Bl w' w''):=λs k w' hs z p=>PK gb A ta tc sv oa oc of s k w' hA hr (Y.below p) (Z.below p) hs z
 have C:Hid (∀w',Bl w w'->w'.cell? (a_ gb 0)=some (I6 A.K)):=λw' p=>(Y.below p).c0
 have I:=hA.k;obtain⟨Q,O,D,c1⟩:=Z a ha;obtain⟨S,P,e2,c2⟩:=Z b hb;subst D;cases e2;have F:(a:Int)<(A.N:Int):=by omega
 have G:(b:Int)<(A.N:Int):=by omega
 have c0:=Y.c0;clear Y Z hr;by_cases h1:of a=of b
 case neg=>
  have c:Hid (R=false):=by
   show _=_;cases g:R
   ·rfl
   exact absurd (l.out.1 g).1 h1
  have J:(of a != of b)=true:=by simp[h1]
  clear l;go_enter Tryz.func176,Tryz.ntmps176;go_wp2
  go_quiet (fail)
  go_wp2;go_ret;exact⟨YN c.out.symm,WL _ _ _⟩
 have J:(of a != of b)=false:=by simp[h1]
 have m:Hid (R=true<->∀k,k<A.K->gAt A of a k=gAt A of b k):=⟨λh=>(l.out.1 h).2,λh=>l.out.2 ⟨h1,h⟩⟩;clear l h1;go_enter Tryz.func176,Tryz.ntmps176;go_wp2
 go_quiet (fail)
 go_wp2
 go_loopw [9] (λx w'=>∃k:Nat,k<=A.K/\x=I6 k/\Bl w w'/\Hid (∀j,j<k->gAt A of a j=gAt A of b j)) (λx _=>A.K-(intOf x).toNat)
 ·exact⟨0,by omega,rfl,WL _ _ _,λj y=>by omega⟩
 obtain⟨k,z,rfl,o,v⟩:=hrel;have c0:=C.out wr o;by_cases i:k<A.K
 ·have B:(k:Int)<(A.K:Int):=by omega
  go_wp2_with fail;refine(u a k _ ha i o).mono ?_;rintro e w1 ⟨rfl,r⟩;have f:=o.trans (r.mono o.size);go_wp2_with fail;refine(u b k _ hb i f).mono ?_;rintro e w2 ⟨rfl,t⟩;have n:=f.trans (t.mono f.size);by_cases d:gAt A of a k=gAt A of b k
  ·have L:(gAt A of a k==gAt A of b k)=true:=by simpa using d
   have M:(gAt A of a k != gAt A of b k)=false:=by simp[d]
   have q:Hid (∀j,j<k+1->gAt A of a j=gAt A of b j):=λj y=>by
    by_cases E:j=k
    ·subst E;exact d
    exact v j (by omega)
   clear d;go_wp2;go_roundw
   ·exact⟨k+1,by omega,by go_num,n,q⟩
   simp[intOf];omega
  have L:(gAt A of a k==gAt A of b k)=false:=by simpa using d
  have M:(gAt A of a k != gAt A of b k)=true:=by simp[d]
  have c:Hid (R=false):=by
   show _=_;cases g:R
   ·rfl
   exact absurd (m.out.1 g k i) d
  clear d;go_wp2;go_ret;exact⟨YN c.out.symm,n⟩
 have H:¬(k:Int)<(A.K:Int):=by omega
 have c:=hyd (m.out.2 (λj y=>v.out j (by omega)));go_wp2;go_ret;exact⟨YN c.out.symm,o⟩
end
section
open Go.RowKit
def Vy (n:Nat):Array Value:=madeCells #[.int .i64 0] n
theorem F9 (n k:Nat) (h:k<n):(Vy n)[k]?=some (I6 0):=by
 simp[Vy,madeCells,h,Nat.mod_one]
theorem Ow (w:World) (n:Nat) (y:n<=17592186044416):(Instr.makeSlice 23 (I6 (n:Int)) (I6 (n:Int))).run Tryz.prog w=.ok (.slice (some (a_ w.heap.size 0)) n n) (w.alloc (.cells (Vy n) 3)):=by
 obtain⟨i,b,hz,hs,a⟩:=Wi;have h:=run_make (P:=Tryz.prog) w 23 3 i (I6 0) u_f b hz .i64 .i64 n n (by omega) (by omega) (by rw[a];omega) (by omega);rw[hs]at h;simp only[ZE,Nat.mul_one]at h;exact h
def XB (g:Nat) (f:Nat->Int) (n:Nat) (w:World):Prop:=∀k,k<n->w.cell? ⟨g,k,none⟩=some (.int .i64 (f k))/\w.frozen? ⟨g,k,none⟩=false
theorem XB.blank (w:World) (n:Nat) (t:TypeId):XB w.heap.size (λ_=>0) n (w.alloc (.cells (Vy n) t)):=λk a=>by
 refine⟨?_,?_⟩
 ·rw[Zm];exact F9 n k a
 go_simp
variable {xs:List Value}{b base g k m n sz:Nat}{ad:Option Addr}{v:Value}{w w':World}
theorem XB.congr {f f':Nat->Int} (h:XB g f n w) (e:∀k,k<n->f k=f' k):XB g f' n w:=λk a=>by
 rw[<-e k a];exact h k a
theorem XB.lt {f:Nat->Int} (h:XB g f n w) (y:0<n):g<w.heap.size:=Ze w (a_ g 0) (h 0 y).1
theorem XB.below {f:Nat->Int} (h:XB g f n w) (y:Bl w w'):XB g f n w':=λk b=>by
 have a:=Ze w (a_ g k) (h k b).1;rw[y.cell (p:=(a_ g k)) a,y.frozen (p:=(a_ g k)) a];exact h k b
theorem XB.il {f:Nat->Int} (h:XB g f n w) (y:m<=n):IL (some (a_ g 0)) f m w:=λi a=>⟨g,0,rfl,by rw[Zn];exact(h i (by omega)).1⟩
theorem QN (B b:Nat) (y:B<=b):∀(vs:List Value) (w:World) (o:Nat),Below B w (w.setCells b o vs)
 |[],_,_=>Zk _ _
 |v::r,w,o=>((Zk B w).setCell (p:=(a_ b o)) y v).trans (QN B b y r _ _)
theorem Lg (w:World) (b k:Nat) (v:Value):Below b w (w.setCell (a_ b k) v):=
 (Zk b w).setCell (p:=(a_ b k)) (Zg b) v
theorem Ve (B:Nat) (w:World) (q:Nat):Below B w (w.drewN q):=⟨rfl,rfl,rfl,Zg _,λ_ _=>rfl⟩
theorem Mm:(Tryz.prog.info? 3).map (·.size)=some 1:=by kernel_rfl
theorem Mz (ad:Option Addr) (n cap m:Nat) (f:Nat->Int) (w:World) (H:n<=m) (z:IL ad f n w):
  ∃w2,(Builtin.copy_ #[23,23] 3 #[.slice (some (a_ w.heap.size 0)) m m,.slice ad n cap]).run Tryz.prog (w.alloc (.cells (Vy m) 3))=.ok (goInt n) w2 /\
   Bl w w2/\XB w.heap.size (λi=>if i<n then f i else 0) m w2:=by
 rcases Nat.eq_zero_or_pos n with rfl|p
 ·refine⟨w.alloc (.cells (Vy m) 3),?_,(Zk _ _).alloc (Zg _) _,XB.congr (XB.blank w m _) (λk _=>by simp)⟩;exact run_copy_none (P:=Tryz.prog) (w.alloc (.cells (Vy m) 3)) 23 23 3 3 (some (a_ w.heap.size 0)) ad m m 0 cap u_f Mm (by simp)
 obtain⟨b,d,rfl,q⟩:=z 0 p;have u:=Ze w _ q
 let cs:List Value:=(List.range n).map (λj=>Value.int .i64 (f j))
 have c:cs.length=n:=by simp[cs]
 have g:∀j v,cs[j]?=some v->j<n/\v=I6 (f j):=by
  intro j v h;obtain⟨l,h2⟩:=Zi.1 h;refine⟨by omega,?_⟩;rw[<-h2];simp[cs]
 have a:=XB.blank w m 3;have e:∀j:Nat,((a_ b d):Addr).add j=(a_ b (d+j)):=λj=>by unfold Addr.add;split<;>simp_all
 refine⟨(w.alloc (.cells (Vy m) 3)).setCells w.heap.size 0 cs,?_,?_,?_⟩
 ·have:=run_copy_cells (P:=Tryz.prog) (w.alloc (.cells (Vy m) 3)) 23 23 3 3 w.heap.size 0 m m (a_ b d) n cap cs u_f Mm
   (by rw[c];exact(Nat.min_eq_left (by omega)).symm)
   (λj v h=>by
    obtain⟨l,rfl⟩:=g j v h;obtain⟨b',t,y,x⟩:=z j l;cases y;rw[e,World.cell?_alloc_lt _ _ _ (by exact u)];exact x)
   (λj l=>by have:=(a j (by omega)).1;rw[Zn,this];rfl)
   (λj l=>by have:=(a j (by omega)).2;rw[Zn];exact this)
   (λv s=>by simp only[cs,List.mem_map]at s;obtain⟨j,_,rfl⟩:=s;rfl)
  rw[c]at this;exact this
 ·exact((Zk _ _).alloc (Zg _) _).trans (QN _ _ (Zg _) cs _ 0)
 intro k r;refine⟨?_,by rw[World.frozen?_setCells];exact(a k r).2⟩;by_cases o:k<n
 ·have:=World.cell?_setCells_in w.heap.size cs 0 (w.alloc (.cells (Vy m) 3)) (λj l=>by have:=(a j (by omega)).1;rw[Zn,this];rfl) k (by omega);rw[Zn]at this;rw[this];simp[cs,o]
 rw[World.cell?_setCells_out w.heap.size cs 0 _ _ (λ_ _=>Or.inr (by simp[c];omega))];rw[(a k r).1];simp[o]
def XW (f:Nat->Int):Nat->Option Nat
 |0=>some 0
 |k+1=>match XW f k with
  |none=>none
  |some n=>if f k<0\/(n:Int)<f k then none else if f k=n then some (n+1) else some n
def Vg (f:Nat->Int) (n:Nat):Nat:=if n=256 then (XW f 256).getD 0 else 0
theorem RB {f:Nat->Int} (h:XW f k=none):∀d,XW f (k+d)=none
 |0=>h
 |d+1=>by rw[<-ZN,XW,RB h d]
theorem NB {f:Nat->Int}:∀ {k n:Nat},XW f k=some n->n<=k
 |0,n,h=>by simp[XW]at h;omega
 |k+1,n,h=>by
  rw[XW]at h;rcases hc:XW f k with _|m
  ·rw[hc]at h;cases h
  have:=NB hc;rw[hc]at h;simp only at h;split at h
  ·cases h
  split at h
  ·simp at h;omega
  simp at h;omega
theorem SS (f:Nat->Int) (n:Nat):Vg f n<=256:=by
 unfold Vg;split
 ·rcases h:XW f 256 with _|m
  ·simp
  simpa using NB h
 omega
def YC (P:Prop) (w:World) (e:Ending) (w':World):Prop:=∃b,e=.returned (.bool b)/\(b=true<->P)/\w'=w
theorem YC.t {P:Prop} (h:P):YC P w (.returned (.bool true)) w:=⟨true,rfl,by simpa using h,rfl⟩
theorem YC.f {P:Prop} (h:¬P):YC P w (.returned (.bool false)) w:=⟨false,rfl,by simpa using h,rfl⟩
theorem Se (ad:Option Addr) (n cap:Nat) (f:Nat->Int) (lo y:Int) (w:World) (z:n<=maxLen) (h:IL ad f n w):
  Cp 167 #[.slice ad n cap,I6 lo,I6 y] w (YC (∀i,i<n->lo<=f i/\f i<=y) w):=by
 unfold maxLen at z;have H:=hyd h;go_enter Tryz.func167,Tryz.ntmps167;go_wp2
 go_loop [7] (λi=>∃k:Nat,k<=n/\i=I6 k/\Hid (∀i,i<k->lo<=f i/\f i<=y)) (λi=>n-(intOf i).toNat)
 ·exact⟨0,by omega,rfl,λi y=>by omega⟩
 obtain⟨k,l,rfl,d⟩:=hrel;by_cases a:k<n
 ·have g:(k:Int)<n:=by omega
  obtain⟨b,j,rfl,c1⟩:=H.out k a;by_cases h1:f k<lo
  ·go_wp2;go_ret;exact YC.f (λh=>by have:=h k a;omega)
  by_cases h2:y<f k
  ·go_wp2;go_ret;exact YC.f (λh=>by have:=h k a;omega)
  go_wp2
  go_round
  ·exact⟨k+1,by omega,by go_num,λi c=>by
   by_cases e:i=k
   ·subst e;omega
   exact d i (by omega)⟩
  simp[intOf];omega
 have⟨hge,hkn⟩:¬(k:Int)<n/\k=n:=by omega
 go_wp2;go_ret;exact YC.t (λi c=>d.out i (by omega))
theorem UD (ad:Option Addr) (n cap:Nat) (f:Nat->Int) (lo y:Int) (w:World) (z:n<=maxLen) (h:IL ad f n w):
  Cp 135 #[.slice ad n cap,I6 lo,I6 y] w (YC (∀i,i<n->lo<=f i/\f i<=y) w):=by
 unfold maxLen at z;have H:=hyd h;go_enter Tryz.func135,Tryz.ntmps135;go_wp2
 go_loop [11] (λi=>∃k:Nat,k<=n/\i=I6 k/\Hid (∀i,i<k->lo<=f i/\f i<=y)) (λi=>n-(intOf i).toNat)
 ·exact⟨0,by omega,rfl,λi y=>by omega⟩
 obtain⟨k,l,rfl,d⟩:=hrel;by_cases a:k<n
 ·have g:(k:Int)<n:=by omega
  obtain⟨b,j,rfl,c1⟩:=H.out k a;by_cases h1:f k<lo
  ·go_wp2;go_ret;exact YC.f (λh=>by have:=h k a;omega)
  by_cases h2:y<f k
  ·go_wp2;go_ret;exact YC.f (λh=>by have:=h k a;omega)
  go_wp2
  go_round
  ·exact⟨k+1,by omega,by go_num,λi c=>by
   by_cases e:i=k
   ·subst e;omega
   exact d i (by omega)⟩
  simp[intOf];omega
 have⟨hge,hkn⟩:¬(k:Int)<n/\k=n:=by omega
 go_wp2;go_ret;exact YC.t (λi c=>d.out i (by omega))
theorem WZ (ad:Option Addr) (n cap:Nat) (f:Nat->Int) (w:World) (y:n<=maxLen) (h:IL ad f n w):
  Cp 120 #[.slice ad n cap] w λe w'=>e=.returned (I6 (Vg f n))/\w'=w:=by
 unfold maxLen at y;by_cases a:n=256
 ·subst a;have H:=hyd h;go_enter Tryz.func120,Tryz.ntmps120;go_wp2
  go_loop [3,4] (λc i=>∃k m:Nat,k<=256/\i=I6 k/\c=I6 m/\m<=k/\Hid (XW f k=some m)) (λ_ i=>256-(intOf i).toNat)
  ·exact⟨0,0,by omega,rfl,rfl,by omega,rfl⟩
  obtain⟨k,m,t,rfl,rfl,u,l⟩:=hrel;by_cases j:k<256
  ·have q:(k:Int)<256:=by omega
   obtain⟨b,s,rfl,c1⟩:=H.out k j;have HS:Hid (XW f (k+1)=if f k<0\/(m:Int)<f k then none else if f k=m then some (m+1) else some m):=by show _=_;rw[XW,l.out]
   have g:Hid (Vg f 256=(XW f 256).getD 0):=rfl;have o:Hid (XW f (k+1)=none->XW f 256=none):=λh=>by have:=RB h (256-(k+1));rwa [show k+1+(256-(k+1))=256 by omega]at this
   by_cases h1:f k<0
   ·go_wp2;go_ret;refine⟨YY ?_,rfl⟩;rw[g.out,o.out (by rw[HS.out,if_pos (Or.inl h1)])];rfl
   by_cases h2:(m:Int)<f k
   ·go_wp2;go_ret;refine⟨YY ?_,rfl⟩;rw[g.out,o.out (by rw[HS.out,if_pos (Or.inr h2)])];rfl
   by_cases h3:f k=m
   ·have p:(f k==(m:Int))=true:=by simpa using h3
    have d:Hid (XW f (k+1)=some (m+1)):=by show _=_;rw[HS.out,g_,if_pos h3]
    go_wp2
    go_round
    ·exact⟨k+1,m+1,by omega,by go_num,by go_num,by omega,d⟩
    simp[intOf];omega
   have p:(f k==(m:Int))=false:=by simpa using h3
   have d:Hid (XW f (k+1)=some m):=by show _=_;rw[HS.out,g_,if_neg h3]
   go_wp2
   go_round
   ·exact⟨k+1,m,by omega,by go_num,rfl,by omega,d⟩
   simp[intOf];omega
  have⟨hge,hkn⟩:¬(k:Int)<256/\k=256:=by omega
  subst hkn;go_wp2;go_ret;refine⟨YY ?_,rfl⟩;rw[Vg,if_pos rfl,l.out];rfl
 have p:((n:Int)==256)=false:=beq_eq_false_iff_ne.2 (by omega);have r:((n:Int) != 256)=true:=by simp;omega
 have g:Hid (Vg f n=0):=if_neg a;go_enter Tryz.func120,Tryz.ntmps120;go_wp2;go_ret;exact⟨YY (by rw[g.out];rfl),rfl⟩
theorem Xa (ad:Option Addr) (n cap:Nat) (f:Nat->Int) (w:World) (y:n<=maxLen) (h:IL ad f n w):
  Cp 71 #[.slice ad n cap] w λe w'=>e=.returned (I6 (Vg f n))/\w'=w:=by
 unfold maxLen at y;by_cases a:n=256
 ·subst a;have H:=hyd h;go_enter Tryz.func71,Tryz.ntmps71;go_wp2
  go_loop [3,11] (λc i=>∃k m:Nat,k<=256/\i=I6 k/\c=I6 m/\m<=k/\Hid (XW f k=some m)) (λ_ i=>256-(intOf i).toNat)
  ·exact⟨0,0,by omega,rfl,rfl,by omega,rfl⟩
  obtain⟨k,m,t,rfl,rfl,u,l⟩:=hrel;by_cases j:k<256
  ·have q:(k:Int)<256:=by omega
   obtain⟨b,s,rfl,c1⟩:=H.out k j;have HS:Hid (XW f (k+1)=if f k<0\/(m:Int)<f k then none else if f k=m then some (m+1) else some m):=by show _=_;rw[XW,l.out]
   have g:Hid (Vg f 256=(XW f 256).getD 0):=rfl;have o:Hid (XW f (k+1)=none->XW f 256=none):=λh=>by have:=RB h (256-(k+1));rwa [show k+1+(256-(k+1))=256 by omega]at this
   by_cases h1:f k<0
   ·go_wp2;go_ret;refine⟨YY ?_,rfl⟩;rw[g.out,o.out (by rw[HS.out,if_pos (Or.inl h1)])];rfl
   by_cases h2:(m:Int)<f k
   ·go_wp2;go_ret;refine⟨YY ?_,rfl⟩;rw[g.out,o.out (by rw[HS.out,if_pos (Or.inr h2)])];rfl
   by_cases h3:f k=m
   ·have p:(f k==(m:Int))=true:=by simpa using h3
    have d:Hid (XW f (k+1)=some (m+1)):=by show _=_;rw[HS.out,g_,if_pos h3]
    go_wp2
    go_round
    ·exact⟨k+1,m+1,by omega,by go_num,by go_num,by omega,d⟩
    simp[intOf];omega
   have p:(f k==(m:Int))=false:=by simpa using h3
   have d:Hid (XW f (k+1)=some m):=by show _=_;rw[HS.out,g_,if_neg h3]
   go_wp2
   go_round
   ·exact⟨k+1,m,by omega,by go_num,rfl,by omega,d⟩
   simp[intOf];omega
  have⟨hge,hkn⟩:¬(k:Int)<256/\k=256:=by omega
  subst hkn;go_wp2;go_ret;refine⟨YY ?_,rfl⟩;rw[Vg,if_pos rfl,l.out];rfl
 have p:((n:Int)==256)=false:=beq_eq_false_iff_ne.2 (by omega);have r:((n:Int) != 256)=true:=by simp;omega
 have g:Hid (Vg f n=0):=if_neg a;go_enter Tryz.func71,Tryz.ntmps71;go_wp2;go_ret;exact⟨YY (by rw[g.out];rfl),rfl⟩
def Hd (rules:Int) (cl:Nat->Int) (ncl:Nat) (lb:Nat->Int) (nlb:Nat):Prop:=
 (1<=rules/\rules<=8)/\(1<=nlb/\nlb<=96)/\0<Vg cl ncl/\∀i,i<nlb->-1<=lb i/\lb i<=rules-1
theorem Re (rules:Int) (ad z:Option Addr) (n cap n' y:Nat) (cl lb:Nat->Int) (w:World) (J:n<=maxLen) (H:n'<=maxLen) (h:IL ad cl n w) (Y:IL z lb n' w):
  Cp 166 #[I6 rules,.slice ad n cap,.slice z n' y] w (YC (Hd rules cl n lb n') w):=by
 have j:=hyd (WZ ad n cap cl w J h);have k:=hyd (Se z n' y lb (-1) (rules-1) w H Y);unfold maxLen at J H;by_cases d:(1<=rules/\rules<=8)/\(1<=n'/\n'<=96)
 ·have⟨l,m⟩:¬rules<1/\¬8<rules:=by omega
  have⟨o,p⟩:¬(n':Int)<1/\¬(96:Int)<(n':Int):=by omega
  go_enter Tryz.func166,Tryz.ntmps166;go_wp2_with fail;refine j.out.mono ?_;rintro e w' ⟨rfl,rfl⟩;have a:Hid (Hd rules cl n lb n'<->0<Vg cl n/\∀i,i<n'->-1<=lb i/\lb i<=rules-1):=⟨λh=>h.2.2,λh=>⟨d.1,d.2,h⟩⟩;generalize Vg cl n=c at *;by_cases r:0<c
  ·have g:(0:Int)<c:=by omega
   go_wp2_with fail;refine k.out.mono ?_;rintro e w' ⟨b,rfl,q,rfl⟩;go_wp2;go_ret;exact⟨b,rfl,by rw[q,a.out];exact⟨λh=>⟨r,h⟩,λh=>h.2⟩,rfl⟩
  have g:¬(0:Int)<c:=by omega
  go_wp2;go_ret;exact YC.f (λh=>by have:=(a.out.1 h).1;omega)
 have a:Hid (¬Hd rules cl n lb n'):=λh=>d ⟨h.1,h.2.1⟩
 by_cases l:rules<1
 ·go_enter Tryz.func166,Tryz.ntmps166;go_wp2;go_ret;exact YC.f a.out
 by_cases m:8<rules
 ·go_enter Tryz.func166,Tryz.ntmps166;go_wp2;go_ret;exact YC.f a.out
 by_cases o:(n':Int)<1
 ·go_enter Tryz.func166,Tryz.ntmps166;go_wp2;go_ret;exact YC.f a.out
 have p:(96:Int)<(n':Int):=by omega
 go_enter Tryz.func166,Tryz.ntmps166;go_wp2;go_ret;exact YC.f a.out
theorem P9 (rules:Int) (ad z:Option Addr) (n cap n' y:Nat) (cl lb:Nat->Int) (w:World) (J:n<=maxLen) (H:n'<=maxLen) (h:IL ad cl n w) (Y:IL z lb n' w):
  Cp 134 #[I6 rules,.slice ad n cap,.slice z n' y] w (YC (Hd rules cl n lb n') w):=by
 have g:=hyd (Xa ad n cap cl w J h);have j:=hyd (UD z n' y lb (-1) (rules-1) w H Y);unfold maxLen at J H;by_cases d:(1<=rules/\rules<=8)/\(1<=n'/\n'<=96)
 ·have⟨k,l⟩:¬rules<1/\¬8<rules:=by omega
  have⟨m,o⟩:¬(n':Int)<1/\¬(96:Int)<(n':Int):=by omega
  go_enter Tryz.func134,Tryz.ntmps134;go_wp2_with fail;refine g.out.mono ?_;rintro e w' ⟨rfl,rfl⟩;have a:Hid (Hd rules cl n lb n'<->0<Vg cl n/\∀i,i<n'->-1<=lb i/\lb i<=rules-1):=⟨λh=>h.2.2,λh=>⟨d.1,d.2,h⟩⟩;generalize Vg cl n=c at *;by_cases q:c=0
  ·subst q;go_wp2;go_ret;exact YC.f (λh=>by have:=(a.out.1 h).1;omega)
  have r:((c:Int)==0)=false:=beq_eq_false_iff_ne.2 (by omega);go_wp2_with fail;refine j.out.mono ?_;rintro e w' ⟨b,rfl,p,rfl⟩;go_wp2;go_ret;exact⟨b,rfl,by rw[p,a.out];exact⟨λh=>⟨by omega,h⟩,λh=>h.2⟩,rfl⟩
 have a:Hid (¬Hd rules cl n lb n'):=λh=>d ⟨h.1,h.2.1⟩
 by_cases k:rules<1
 ·go_enter Tryz.func134,Tryz.ntmps134;go_wp2;go_ret;exact YC.f a.out
 by_cases l:8<rules
 ·go_enter Tryz.func134,Tryz.ntmps134;go_wp2;go_ret;exact YC.f a.out
 by_cases m:(n':Int)<1
 ·go_enter Tryz.func134,Tryz.ntmps134;go_wp2;go_ret;exact YC.f a.out
 have o:(96:Int)<(n':Int):=by omega
 go_enter Tryz.func134,Tryz.ntmps134;go_wp2;go_ret;exact YC.f a.out
structure Tb where
 rules:Int
 cl:Nat->Int
 ncl:Nat
 lb:Nat->Int
 nlb:Nat
 bs:Nat->Int
 nbs:Nat
 df:Nat->Int
 ndf:Nat
 ck:Nat->Int
 nck:Nat
 nx:Nat->Int
 nnx:Nat
structure Pc where
 a1:Option Addr
 c1:Nat
 a2:Option Addr
 c2:Nat
 a3:Option Addr
 c3:Nat
 a4:Option Addr
 c4:Nat
 a5:Option Addr
 c5:Nat
 a6:Option Addr
 c6:Nat
def Pc.cells (A:Pc) (T:Tb):Array Value:=#[.int .i64 T.rules,.slice A.a1 T.ncl A.c1,.slice A.a2 T.nlb A.c2,.slice A.a3 T.nbs A.c3,.slice A.a4 T.ndf A.c4,.slice A.a5 T.nck A.c5,.slice A.a6 T.nnx A.c6]
structure Sh (T:Tb) (A:Pc) (w:World):Prop where
 l1:IL A.a1 T.cl T.ncl w
 l2:IL A.a2 T.lb T.nlb w
 l3:IL A.a3 T.bs T.nbs w
 l4:IL A.a4 T.df T.ndf w
 l5:IL A.a5 T.ck T.nck w
 l6:IL A.a6 T.nx T.nnx w
theorem Sh.below {T:Tb}{A:Pc} (h:Sh T A w) (y:Bl w w'):Sh T A w':=
 ⟨h.l1.below y,h.l2.below y,h.l3.below y,h.l4.below y,h.l5.below y,h.l6.below y⟩
structure IF (T:Tb):Prop where
 s1:T.ncl+3<=17592186044416
 s2:T.nlb+3<=17592186044416
 s3:T.nbs+3<=17592186044416
 s4:T.ndf+3<=17592186044416
 s5:T.nck+3<=17592186044416
 s6:T.nnx+3<=17592186044416
structure UP (b:Nat) (T:Tb) (A:Pc) (w:World):Prop where
 c0:w.cell? ⟨b,0,none⟩=some (.int .i64 T.rules)
 c1:w.cell? ⟨b,1,none⟩=some (.slice A.a1 T.ncl A.c1)
 c2:w.cell? ⟨b,2,none⟩=some (.slice A.a2 T.nlb A.c2)
 c3:w.cell? ⟨b,3,none⟩=some (.slice A.a3 T.nbs A.c3)
 c4:w.cell? ⟨b,4,none⟩=some (.slice A.a4 T.ndf A.c4)
 c5:w.cell? ⟨b,5,none⟩=some (.slice A.a5 T.nck A.c5)
 c6:w.cell? ⟨b,6,none⟩=some (.slice A.a6 T.nnx A.c6)
theorem UP.below {T:Tb}{A:Pc} (h:UP b T A w) (y:Bl w w'):UP b T A w':=by
 have a:=Ze w _ h.c0;have e:∀k,w'.cell? (a_ b k)=w.cell? (a_ b k):=λk=>y.cell (p:=(a_ b k)) a
 exact⟨by rw[e];exact h.c0,by rw[e];exact h.c1,by rw[e];exact h.c2,by rw[e];exact h.c3,by rw[e];exact h.c4,by rw[e];exact h.c5,by rw[e];exact h.c6⟩
theorem UP.boxed (T:Tb) (A:Pc) (w:World) (t:TypeId):UP w.heap.size T A (w.alloc (.cells (A.cells T) t)):=by
 refine⟨?_,?_,?_,?_,?_,?_,?_⟩<;>(rw[Zm];rfl)
theorem UP.lt {T:Tb}{A:Pc} (h:UP b T A w):b<w.heap.size:=Ze w _ h.c0
def We (T:Tb) (k:Nat):Prop:=
 (T.ck k=-1/\T.nx k=-1)\/((0<=T.ck k/\T.ck k<T.nlb)/\(-1<=T.nx k/\T.nx k<T.nlb)/\0<=(k:Int)-T.bs (T.ck k).toNat/\(k:Int)-T.bs (T.ck k).toNat<Vg T.cl T.ncl)
structure QE (T:Tb):Prop where
 hd:Hd T.rules T.cl T.ncl T.lb T.nlb
 e3:T.nbs=T.nlb
 e4:T.ndf=T.nlb
 e6:T.nnx=T.nck
 e5:T.nck<=24576
 b3:∀i,i<T.nlb->0<=T.bs i/\T.bs i<=T.nck
 b4:∀i,i<T.nlb->-1<=T.df i/\T.df i<i
 cs:∀k,k<T.nck->We T k
 la:T.nck=0\/T.ck (T.nck-1)≠-1
def YD (P:Prop) (w:World) (e:Ending) (w':World):Prop:=∃b,e=.returned (.bool b)/\(b=true<->P)/\Below w.heap.size w w'
theorem YD.t {P:Prop} (h:P) (y:Bl w w'):YD P w (.returned (.bool true)) w':=⟨true,rfl,by simpa using h,y⟩
theorem YD.f {P:Prop} (h:¬P) (y:Bl w w'):YD P w (.returned (.bool false)) w':=⟨false,rfl,by simpa using h,y⟩
theorem Yg (w:World) (o:Obj):Bl w (w.alloc o):=(Zk _ _).alloc (Zg _) o
theorem LS (T:Tb) (A:Pc) (w:World) (hs:IF T) (h:Sh T A w):Cp 123 #[.agg (A.cells T)] w (YD (QE T) w):=by
 have q:=Yg w (.cells (A.cells T) 83);have E:=h.below q;have HH:Hid (Cp 166 #[I6 T.rules,.slice A.a1 T.ncl A.c1,.slice A.a2 T.nlb A.c2] (w.alloc (.cells (A.cells T) 83)) (YC (Hd T.rules T.cl T.ncl T.lb T.nlb) (w.alloc (.cells (A.cells T) 83)))):=
  Re _ _ _ _ _ _ _ _ _ _ (by have:=hs.s1;unfold maxLen;omega) (by have:=hs.s2;unfold maxLen;omega) E.l1 E.l2
 have HC:Hid (Cp 120 #[.slice A.a1 T.ncl A.c1] (w.alloc (.cells (A.cells T) 83)) λe w'=>e=.returned (I6 (Vg T.cl T.ncl))/\w'=(w.alloc (.cells (A.cells T) 83))):=
  WZ _ _ _ _ _ (by have:=hs.s1;unfold maxLen;omega) E.l1
 obtain⟨z1,z2,z3,z4,z5,z6⟩:=hs;obtain⟨rules,cl,ncl,lb,nlb,bs,o,df,d,ck,r,nx,a⟩:=T;obtain⟨a1,c1,a2,c2,a3,c3,a4,c4,a5,c5,a6,c6⟩:=A;simp only[Pc.cells]at *;have N:=hyd E.l3;have W:=hyd E.l4;have O:=hyd E.l5;have X:=hyd E.l6;clear E h;go_enter Tryz.func123,Tryz.ntmps123;go_wp2_with fail;refine HH.out.mono ?_;rintro e w' ⟨b,rfl,hb,rfl⟩;have V:=hyd hb;clear hb HH;cases b
 ·have g:Hid (¬QE ⟨rules,cl,ncl,lb,nlb,bs,o,df,d,ck,r,nx,a⟩):=λh=>by have:=V.out.2 h.hd;cases this
  go_wp2;go_ret;exact YD.f g q
 have M:=hyd (V.out.1 rfl);have af:=M.out.2.1.2;clear V;by_cases e3:o=nlb
 case neg=>
  have g:Hid (¬QE ⟨rules,cl,ncl,lb,nlb,bs,o,df,d,ck,r,nx,a⟩):=λh=>e3 h.e3
  have I:((o:Int)==(nlb:Int))=false:=beq_eq_false_iff_ne.2 (by omega);have U:((o:Int) != (nlb:Int))=true:=by simp;omega
  go_wp2;go_ret;exact YD.f g q
 subst e3;by_cases e4:d=o
 case neg=>
  have g:Hid (¬QE ⟨rules,cl,ncl,lb,o,bs,o,df,d,ck,r,nx,a⟩):=λh=>e4 h.e4
  have I:((d:Int)==(o:Int))=false:=beq_eq_false_iff_ne.2 (by omega);have U:((d:Int) != (o:Int))=true:=by simp;omega
  go_wp2;go_ret;exact YD.f g q
 subst e4;by_cases e6:a=r
 case neg=>
  have g:Hid (¬QE ⟨rules,cl,ncl,lb,d,bs,d,df,d,ck,r,nx,a⟩):=λh=>e6 h.e6
  have I:((a:Int)==(r:Int))=false:=beq_eq_false_iff_ne.2 (by omega);have U:((a:Int) != (r:Int))=true:=by simp;omega
  go_wp2;go_ret;exact YD.f g q
 subst e6;by_cases e5:a<=24576
 case neg=>
  have g:Hid (¬QE ⟨rules,cl,ncl,lb,d,bs,d,df,d,ck,a,nx,a⟩):=λh=>e5 h.e5
  have I:(24576:Int)<a:=by omega
  go_wp2;go_ret;exact YD.f g q
 have q5:¬(24576:Int)<a:=by omega
 go_wp2
 go_loop [6] (λi=>∃k:Nat,k<=d/\i=I6 k/\Hid (∀i,i<k->(0<=bs i/\bs i<=a)/\(-1<=df i/\df i<i))) (λi=>d-(intOf i).toNat)
 ·exact⟨0,by omega,rfl,λi P=>by omega⟩
 obtain⟨k,hk,rfl,R⟩:=hrel;by_cases D:k<d
 ·have ab:(k:Int)<d:=by omega
  obtain⟨b3,o3,rfl,d3⟩:=N.out k D;obtain⟨b4,o4,rfl,d4⟩:=W.out k D;have g:Hid (¬((0<=bs k/\bs k<=a)/\(-1<=df k/\df k<k))->¬QE ⟨rules,cl,ncl,lb,d,bs,d,df,d,ck,a,nx,a⟩):=λh h2=>h ⟨h2.b3 k D,h2.b4 k D⟩
  by_cases h1:bs k<0
  ·go_wp2;go_ret;exact YD.f (g (by omega)) q
  by_cases h2:(a:Int)<bs k
  ·go_wp2;go_ret;exact YD.f (g (by omega)) q
  by_cases h3:df k < -1
  ·go_wp2;go_ret;exact YD.f (g (by omega)) q
  by_cases h4:(k:Int)<=df k
  ·go_wp2;go_ret;exact YD.f (g (by omega)) q
  go_wp2
  go_round
  ·exact⟨k+1,by omega,by go_num,λi Z=>by
   by_cases e:i=k
   ·subst e;omega
   exact R i (by omega)⟩
  simp[intOf];omega
 have⟨hge,hkn⟩:¬(k:Int)<d/\k=d:=by omega
 subst hkn;go_wp2_with fail;refine HC.out.mono ?_;rintro e w' ⟨rfl,rfl⟩;have ae:=SS cl ncl;have L:Hid (∀s<a,We ⟨rules,cl,ncl,lb,k,bs,k,df,k,ck,a,nx,a⟩ s<->((ck s=-1/\nx s=-1)\/((0<=ck s/\ck s<k)/\(-1<=nx s/\nx s<k)/\0<=(s:Int)-bs (ck s).toNat/\(s:Int)-bs (ck s).toNat<Vg cl ncl))):=λs _=>Iff.rfl
 generalize Vg cl ncl=c at *;clear HC;go_wp2
 go_loop [8] (λi=>∃j:Nat,j<=a/\i=I6 j/\Hid (∀i,i<j->We ⟨rules,cl,ncl,lb,k,bs,k,df,k,ck,a,nx,a⟩ i)) (λi=>a-(intOf i).toNat)
 ·exact⟨0,by omega,rfl,λi P=>by omega⟩
 obtain⟨j,hj,rfl,HJ⟩:=hrel;by_cases C:j<a
 ·have aa:(j:Int)<a:=by omega
  obtain⟨b5,o5,rfl,S⟩:=O.out j C;obtain⟨b6,o6,rfl,d6⟩:=X.out j C;have g:Hid (¬We ⟨rules,cl,ncl,lb,k,bs,k,df,k,ck,a,nx,a⟩ j->¬QE ⟨rules,cl,ncl,lb,k,bs,k,df,k,ck,a,nx,a⟩):=λh h2=>h (h2.cs j C)
  have n:Hid (We ⟨rules,cl,ncl,lb,k,bs,k,df,k,ck,a,nx,a⟩ j->∀i,i<j+1->We ⟨rules,cl,ncl,lb,k,bs,k,df,k,ck,a,nx,a⟩ i):=λh i Z=>by
   by_cases e:i=j
   ·subst e;exact h
   exact HJ i (by omega)
  have p:=L.out j C;by_cases F:ck j=-1
  ·rw[F]at S;by_cases K:nx j=-1
   ·rw[K]at d6;have G:=hyd (n (p.2 (Or.inl ⟨F,K⟩)));clear p n g F K;go_wp2
    go_round
    ·exact⟨j+1,by omega,by go_num,G⟩
    simp[intOf];omega
   have l:=hyd (g (λh=>by have:=p.1 h;omega));have I:(nx j==-1)=false:=by simpa using K
   have U:(nx j != -1)=true:=by simpa using K
   clear p n g F K;go_wp2;go_ret;exact YD.f l q
  have I:(ck j==-1)=false:=by simpa using F
  by_cases h1:ck j<0
  ·have l:=hyd (g (λh=>by have:=p.1 h;omega));clear p n g F;go_wp2;go_ret;exact YD.f l q
  by_cases h2:(k:Int)<=ck j
  ·have l:=hyd (g (λh=>by have:=p.1 h;omega));clear p n g F;go_wp2;go_ret;exact YD.f l q
  obtain⟨m,J⟩:=ZA (show 0<=ck j by omega);rw[J]at S h1 h2 I p;simp only[ZE]at p;have Q:m<k:=by omega
  obtain⟨b7,o7,h7,d7⟩:=N.out m Q;subst h7;have ac:=(R m Q).1;clear F J;generalize bs m=z at *;generalize nx j=y at *;by_cases h3:(j:Int)-z<0
  ·have l:=hyd (g (λh=>by have:=p.1 h;omega));clear p n g;go_wp2;go_ret;exact YD.f l q
  by_cases h4:(c:Int)<=j-z
  ·have l:=hyd (g (λh=>by have:=p.1 h;omega));clear p n g;go_wp2;go_ret;exact YD.f l q
  by_cases h5:y < -1
  ·have l:=hyd (g (λh=>by have:=p.1 h;omega));clear p n g;go_wp2;go_ret;exact YD.f l q
  by_cases h6:(k:Int)<=y
  ·have l:=hyd (g (λh=>by have:=p.1 h;omega));clear p n g;go_wp2;go_ret;exact YD.f l q
  have G:=hyd (n (p.2 (by omega)));clear p n g;go_wp2
  go_round
  ·exact⟨j+1,by omega,by go_num,G⟩
  simp[intOf];omega
 have⟨hge,hjn⟩:¬(j:Int)<a/\j=a:=by omega
 subst hjn;have x:Hid (j=0\/ck (j-1)≠-1->QE ⟨rules,cl,ncl,lb,k,bs,k,df,k,ck,j,nx,j⟩):=λh=>⟨M,rfl,rfl,rfl,e5,λi P=>(R i P).1,λi P=>(R i P).2,HJ,h⟩
 clear L;by_cases B:j=0
 ·have HT:=hyd (x (Or.inl B));subst B;clear x;go_wp2;go_ret;exact YD.t HT q
 have q0:((j:Int)==0)=false:=beq_eq_false_iff_ne.2 (by omega);obtain⟨m,J⟩:∃m,j-1=m:=⟨_,rfl⟩;obtain⟨b5,o5,rfl,S⟩:=O.out m (by omega);have u:Hid (ck m≠-1->QE ⟨rules,cl,ncl,lb,k,bs,k,df,k,ck,j,nx,j⟩):=λh=>x.out (Or.inr (by rw[J];exact h))
 have v:Hid (ck m=-1->¬QE ⟨rules,cl,ncl,lb,k,bs,k,df,k,ck,j,nx,j⟩):=λh h2=>by
  rcases h2.la with h3|h3
  ·exact B h3
  exact h3 (by rw[show j-1=m from J];exact h)
 have⟨i1,i2⟩:(j:Int)-1=(m:Int)/\(m:Int)<j:=by omega
 clear x B J;by_cases H:ck m=-1
 ·have l:=hyd (v H);rw[H]at S;clear H u v;go_wp2;go_ret;exact YD.f l q
 have I:(ck m==-1)=false:=by simpa using H
 have U:(ck m != -1)=true:=by simpa using H
 have Y:=hyd (u H);clear H u v;go_wp2;go_ret;exact YD.t Y q
theorem M7 (ad:Option Addr) (n cap:Nat) (f:Nat->Int) (w:World) (y:n<=maxLen) (h:IL ad f n w):
  Cp 139 #[.slice ad n cap] w (YC (∀i:Nat,i<n->-1<=f i/\f i<i) w):=by
 unfold maxLen at y;have H:=hyd h;go_enter Tryz.func139,Tryz.ntmps139;go_wp2
 go_loop [7] (λi=>∃k:Nat,k<=n/\i=I6 k/\Hid (∀i:Nat,i<k->-1<=f i/\f i<i)) (λi=>n-(intOf i).toNat)
 ·exact⟨0,by omega,rfl,λi l=>by omega⟩
 obtain⟨k,m,rfl,d⟩:=hrel;by_cases a:k<n
 ·have g:(k:Int)<n:=by omega
  obtain⟨b,j,rfl,c1⟩:=H.out k a;by_cases h1:f k < -1
  ·go_wp2;go_ret;exact YC.f (λh=>by have:=h k a;omega)
  by_cases h2:(k:Int)<=f k
  ·go_wp2;go_ret;exact YC.f (λh=>by have:=h k a;omega)
  go_wp2
  go_round
  ·exact⟨k+1,by omega,by go_num,λi c=>by
   by_cases e:i=k
   ·subst e;omega
   exact d i (by omega)⟩
  simp[intOf];omega
 have⟨hge,hkn⟩:¬(k:Int)<n/\k=n:=by omega
 go_wp2;go_ret;exact YC.t (λi c=>d.out i (by omega))
theorem Qy (b:Nat) (T:Tb) (A:Pc) (w:World) (hs:IF T) (h:UP b T A w):
  Cp 138 #[pT b] w (YC (T.nbs=T.nlb/\T.ndf=T.nlb/\T.nnx=T.nck/\T.nck<=24576) w):=by
 obtain⟨s,u,v,x,y,z⟩:=hs;obtain⟨rules,cl,ncl,lb,nlb,bs,nbs,df,ndf,ck,nck,nx,nnx⟩:=T;obtain⟨l,m,n,o,p,q,r⟩:=h;simp only at *;generalize c:(nbs=nlb/\ndf=nlb/\nnx=nck/\nck<=24576)=P;by_cases e:nbs=nlb
 case neg=>
  have d:((nbs:Int)==(nlb:Int))=false:=beq_eq_false_iff_ne.2 (by omega);have a:Hid (¬P):=by show ¬P;rw[<-c];exact λh=>e h.1
  go_enter Tryz.func138,Tryz.ntmps138;go_wp2;go_ret;exact YC.f a.out
 subst e;by_cases g:ndf=nbs
 case neg=>
  have d:((ndf:Int)==(nbs:Int))=false:=beq_eq_false_iff_ne.2 (by omega);have a:Hid (¬P):=by show ¬P;rw[<-c];exact λh=>g h.2.1
  go_enter Tryz.func138,Tryz.ntmps138;go_wp2;go_ret;exact YC.f a.out
 subst g;by_cases j:nnx=nck
 case neg=>
  have d:((nnx:Int)==(nck:Int))=false:=beq_eq_false_iff_ne.2 (by omega);have a:Hid (¬P):=by show ¬P;rw[<-c];exact λh=>j h.2.2.1
  go_enter Tryz.func138,Tryz.ntmps138;go_wp2;go_ret;exact YC.f a.out
 subst j;by_cases i:nnx<=24576
 ·have d:(nnx:Int)<=24576:=by omega
  have k:Hid P:=by show P;rw[<-c];exact⟨rfl,rfl,rfl,i⟩
  go_enter Tryz.func138,Tryz.ntmps138;go_wp2;go_ret;exact YC.t k.out
 have d:¬(nnx:Int)<=24576:=by omega
 have a:Hid (¬P):=by show ¬P;rw[<-c];exact λh=>i h.2.2.2
 go_enter Tryz.func138,Tryz.ntmps138;go_wp2;go_ret;exact YC.f a.out
theorem OE (b:Nat) (T:Tb) (A:Pc) (w:World) (hs:IF T) (h:UP b T A w) (hI:Sh T A w) (e3:T.nbs=T.nlb) (e6:T.nnx=T.nck) (e5:T.nck<=24576) (ac:∀i,i<T.nlb->0<=T.bs i/\T.bs i<=T.nck):
  Cp 140 #[pT b,I6 (Vg T.cl T.ncl)] w (YC ((∀k,k<T.nck->We T k)/\(T.nck=0\/T.ck (T.nck-1)≠-1)) w):=by
 obtain⟨z1,z2,z3,z4,z5,z6⟩:=hs;have Z:=SS T.cl T.ncl;have E:Hid (∀d<T.nck,We T d<->((T.ck d=-1/\T.nx d=-1)\/((0<=T.ck d/\T.ck d<T.nlb)/\(-1<=T.nx d/\T.nx d<T.nlb)/\0<=(d:Int)-T.bs (T.ck d).toNat/\(d:Int)-T.bs (T.ck d).toNat<Vg T.cl T.ncl))):=λd _=>Iff.rfl
 have V:Hid (∀d ,d<T.nck->¬We T d->¬((∀k,k<T.nck->We T k)/\(T.nck=0\/T.ck (T.nck-1)≠-1))):=λd h1 h2 h3=>h2 (h3.1 d h1)
 generalize M:((∀k,k<T.nck->We T k)/\(T.nck=0\/T.ck (T.nck-1)≠-1))=PP at *;have q:=hyd M;generalize X:We T=CO at *;obtain⟨rules,cl,ncl,lb,nlb,bs,nbs,df,ab,ck,nck,nx,nnx⟩:=T;simp only at *;subst e3 e6;obtain⟨d0,d1,d2,d3,d4,d5,d6⟩:=h;have F:=hyd hI.l3;have G:=hyd hI.l5;have H:=hyd hI.l6;have D:=hyd ac;simp only at *;generalize Vg cl ncl=c at *;obtain⟨a1,c1,a2,c2,a3,c3,a4,c4,a5,c5,a6,c6⟩:=A;simp only at *;go_enter Tryz.func140,Tryz.ntmps140;go_wp2
 go_loop [6,21] (λu i=>∃j:Nat,j<=nnx/\i=I6 j/\u=I6 (if j=0 then -1 else ck (j-1))/\Hid (∀i,i<j->CO i)) (λ_ i=>nnx-(intOf i).toNat)
 ·exact⟨0,by omega,rfl,rfl,λi hi=>by omega⟩
 obtain⟨j,hj,rfl,rfl,I⟩:=hrel;generalize N:(if j=0 then -1 else ck (j-1))=u;have K:=hyd N;by_cases n:j<nnx
 ·have R:(j:Int)<nnx:=by omega
  obtain⟨b5,o5,rfl,L⟩:=G.out j n;obtain⟨b6,o6,rfl,W⟩:=H.out j n;have p:=hyd (V j n);have v:Hid (CO j->∀i,i<j+1->CO i):=λh i aa=>by
   by_cases e:i=j
   ·subst e;exact h
   exact I i (by omega)
  have l:Hid ((if j+1=0 then -1 else ck (j+1-1))=ck j):=by show _=_;simp
  have g:=E.out j n;by_cases C:ck j=-1
  ·by_cases O:nx j=-1
   ·have o:=hyd (v.out (g.2 (Or.inl ⟨C,O⟩)));have r:Hid ((if j+1=0 then -1 else ck (j+1-1))=-1):=by show _=_;rw[l.out,C]
    rw[C]at L;rw[O]at W;go_wp2
    go_round
    ·exact⟨j+1,by omega,by go_num,by rw[r.out],o.out⟩
    simp[intOf];omega
   have a:=hyd (p (λh=>by have:=g.1 h;omega));have P:(nx j==-1)=false:=by simpa using O
   rw[C]at L;go_wp2;go_ret;exact YC.f a.out
  have P:(ck j==-1)=false:=by simpa using C
  by_cases h1:ck j<0
  ·have a:=hyd (p (λh=>by have:=g.1 h;omega));go_wp2;go_ret;exact YC.f a.out
  by_cases h2:(nbs:Int)<=ck j
  ·have a:=hyd (p (λh=>by have:=g.1 h;omega));go_wp2;go_ret;exact YC.f a.out
  obtain⟨m,S⟩:=ZA (show 0<=ck j by omega);have r:Hid ((if j+1=0 then -1 else ck (j+1-1))=(m:Int)):=by show _=_;rw[l.out,S]
  rw[S]at L h1 h2 P g;simp only[ZE]at g;have B:m<nbs:=by omega
  obtain⟨b7,o7,rfl,g7⟩:=F.out m B;have Y:=D.out m B;have U:(m:Int)<nbs:=by omega
  generalize bs m=z at *;generalize nx j=y at *;by_cases h5:y < -1
  ·have a:=hyd (p (λh=>by have:=g.1 h;omega));go_wp2;go_ret;exact YC.f a.out
  by_cases h6:(nbs:Int)<=y
  ·have a:=hyd (p (λh=>by have:=g.1 h;omega));go_wp2;go_ret;exact YC.f a.out
  by_cases h3:(j:Int)-z<0
  ·have a:=hyd (p (λh=>by have:=g.1 h;omega));go_wp2;go_ret;exact YC.f a.out
  by_cases h4:(c:Int)<=j-z
  ·have a:=hyd (p (λh=>by have:=g.1 h;omega));go_wp2;go_ret;exact YC.f a.out
  have o:=hyd (v (g.2 (by omega)));go_wp2
  go_round
  ·exact⟨j+1,by omega,by go_num,by rw[r.out],o.out⟩
  simp[intOf];omega
 have⟨hge,hjn⟩:¬(j:Int)<nnx/\j=nnx:=by omega
 subst hjn;by_cases s:j=0
 ·subst s;have J:Hid PP:=by show PP;rw[<-q.out];exact⟨I.out,Or.inl rfl⟩
  go_wp2;go_ret;exact YC.t J.out
 have q0:((j:Int)==0)=false:=beq_eq_false_iff_ne.2 (by omega);have Q:Hid (u=ck (j-1)):=by show _=_;rw[<-K.out,if_neg s]
 by_cases x:u=-1
 ·have a:Hid (¬PP):=by
   show ¬PP;rw[<-q.out];intro h;rcases h.2 with h2|h2
   ·exact s h2
   exact h2 (by rw[<-Q.out];exact x)
  subst x;go_wp2;go_ret;exact YC.f a.out
 have J:Hid PP:=by show PP;rw[<-q.out];exact⟨I.out,Or.inr (by rw[<-Q.out];exact x)⟩
 have P:(u==-1)=false:=by simpa using x
 have q2:(u != -1)=true:=by simpa using x
 go_wp2;go_ret;exact YC.t J.out
theorem IL.heapE {f:Nat->Int} (h:IL ad f n w) (y:w'.heap=w.heap):IL ad f n w':=λi d=>by
 obtain⟨b,c,h1,h2⟩:=h i d;exact⟨b,c,h1,by rw[World.cell?_of_block (w:=w) (a:=(a_ b (c+i))) (by rw[y])];exact h2⟩
theorem Sh.heap {T:Tb}{A:Pc} (h:Sh T A w) (y:w'.heap=w.heap):Sh T A w':=
 ⟨h.l1.heapE y,h.l2.heapE y,h.l3.heapE y,h.l4.heapE y,h.l5.heapE y,h.l6.heapE y⟩
theorem UP.heap {T:Tb}{A:Pc} (h:UP b T A w) (y:w'.heap=w.heap):UP b T A w':=by
 have e:∀k,w'.cell? (a_ b k)=w.cell? (a_ b k):=λk=>World.cell?_of_block (w:=w) (a:=(a_ b k)) (by rw[y])
 exact⟨by rw[e];exact h.c0,by rw[e];exact h.c1,by rw[e];exact h.c2,by rw[e];exact h.c3,by rw[e];exact h.c4,by rw[e];exact h.c5,by rw[e];exact h.c6⟩
theorem Ui (f:FuncId) (y:Array Value) (P:Prop) (w:World) (h:∀w',w'.heap=w.heap->Cp f y w' (YC P w')):
  ∃b,(b=true<->P)/\∀w',w'.heap=w.heap->Cp f y w' λe w''=>e=.returned (.bool b)/\w''=w':=by
 by_cases a:P
 ·refine⟨true,by simpa using a,λw' d=>(h w' d).mono ?_⟩;rintro e w2 ⟨b,rfl,c,rfl⟩;have:b=true:=c.2 a;subst this;exact⟨rfl,rfl⟩
 refine⟨false,by simpa using a,λw' d=>(h w' d).mono ?_⟩;rintro e w2 ⟨b,rfl,c,rfl⟩;have:b=false:=by
  cases b
  ·rfl
  exact absurd (c.1 rfl) a
 subst this;exact⟨rfl,rfl⟩
theorem LZ (b:Nat) (T:Tb) (A:Pc) (w:World) (hs:IF T) (h:UP b T A w) (hI:Sh T A w):
  Cp 76 #[pT b] w (YD (QE T) w):=by
 have B:T.ncl<=maxLen:=by have:=hs.s1;unfold maxLen;omega
 have m2:T.nlb<=maxLen:=by have:=hs.s2;unfold maxLen;omega
 have Y:T.nbs<=maxLen:=by have:=hs.s3;unfold maxLen;omega
 have Z:T.ndf<=maxLen:=by have:=hs.s4;unfold maxLen;omega
 obtain⟨p1,k1,U⟩:=Ui 134 #[I6 T.rules,.slice A.a1 T.ncl A.c1,.slice A.a2 T.nlb A.c2] _ w (λw' g=>P9 _ _ _ _ _ _ _ _ _ w' B m2 (hI.l1.heapE g) (hI.l2.heapE g));obtain⟨p2,x,V⟩:=Ui 138 #[pT b] _ w (λw' g=>Qy b T A w' hs (h.heap g));obtain⟨C,y,W⟩:=Ui 135 #[.slice A.a3 T.nbs A.c3,I6 0,I6 T.nck] _ w (λw' g=>UD _ _ _ _ _ _ w' Y (hI.l3.heapE g));obtain⟨D,z,X⟩:=Ui 139 #[.slice A.a4 T.ndf A.c4] _ w (λw' g=>M7 _ _ _ _ w' Z (hI.l4.heapE g));have F1:=hyd U;have F2:=hyd V;have F3:=hyd W;have F4:=hyd X;have F5:Hid (∀w',w'.heap=w.heap->Cp 71 #[.slice A.a1 T.ncl A.c1] w' λe w''=>e=.returned (I6 (Vg T.cl T.ncl))/\w''=w'):=λw' g=>Xa _ _ _ _ _ B (hI.l1.heapE g)
 have F6:Hid (∀w',w'.heap=w.heap->T.nbs=T.nlb->T.nnx=T.nck->T.nck<=24576->(∀i,i<T.nlb->0<=T.bs i/\T.bs i<=T.nck)->Cp 140 #[pT b,I6 (Vg T.cl T.ncl)] w' (YC ((∀k,k<T.nck->We T k)/\(T.nck=0\/T.ck (T.nck-1)≠-1)) w')):=λw' g e3 e6 e5 hb=>OE b T A _ hs (h.heap g) (hI.heap g) e3 e6 e5 hb
 have E:=hyd k1;have F:=hyd x;have G:=hyd y;have H:=hyd z;have H0:=hyd h;obtain⟨M,N,O,P,Q,R,S⟩:=h;have I:Hid (QE T->p1=true):=λh=>k1.2 h.hd
 have J:Hid (QE T->p2=true):=λh=>x.2 ⟨h.e3,h.e4,h.e6,h.e5⟩
 have K:Hid (QE T->C=true):=λh=>y.2 (λi m=>h.b3 i (by rw[<-h.e3];exact m))
 have L:Hid (QE T->D=true):=λh=>z.2 (λi m=>h.b4 i (by rw[<-h.e4];exact m))
 clear hI U V W X k1 x y z B m2 Y Z hs;generalize Vg T.cl T.ncl=c at *;go_enter Tryz.func76,Tryz.ntmps76;go_wp2
 go_quiet ((go_at_call 134;exact Calls.quiet_of_same (F1.out _ rfl)))
 have l:Bl w (w.drewN nq):=Ve _ _ _;have j:Hid ((w.drewN nq).heap=w.heap):=rfl;have s:UP b T A (w.drewN nq):=H0.out.heap rfl;generalize w.drewN nq=w1 at *;clear M N O P Q R S;obtain⟨M,N,O,P,Q,R,S⟩:=s;cases p1
 ·have a:Hid (¬QE T):=λh=>by have:=I.out h;cases this
  go_wp2;go_ret;exact YD.f a l
 have u:=hyd (E.out.1 rfl);clear E I;go_wp2_with fail;refine Calls.mono (F2.out _ j) ?_;rintro e w' ⟨rfl,rfl⟩;cases p2
 ·have a:Hid (¬QE T):=λh=>by have:=J.out h;cases this
  go_wp2;go_ret;exact YD.f a l
 have r:=F.out.1 rfl;have d:=hyd r;have o:Hid (C=true->∀i,i<T.nlb->0<=T.bs i/\T.bs i<=T.nck):=λh i m=>G.out.1 h i (by rw[r.1];exact m)
 have p:Hid (D=true->∀i:Nat,i<T.nlb->-1<=T.df i/\T.df i<i):=λh i m=>H.out.1 h i (by rw[r.2.1];exact m)
 clear F J r G H;go_wp2
 go_quiet ((go_at_call 135;refine Calls.quiet_of_same (F3.out _ ?_);exact j))
 cases C
 ·have a:Hid (¬QE T):=λh=>by have:=K.out h;cases this
  go_wp2;go_ret;exact YD.f a (l.trans (Ve _ _ _))
 have n:=hyd (o.out rfl);clear o K;go_wp2_with fail;refine Calls.mono (F4.out _ ?hh) ?_
 case hh=>exact j.out
 rintro e w' ⟨rfl,rfl⟩;cases D
 ·have a:Hid (¬QE T):=λh=>by have:=L.out h;cases this
  go_wp2;go_ret;exact YD.f a (l.trans (Ve _ _ _))
 have v:=hyd (p.out rfl);clear p L;go_wp2_with fail;refine Calls.mono (F5.out _ ?hh) ?_
 case hh=>exact j.out
 rintro e w' ⟨rfl,rfl⟩;go_wp2_with fail;refine Calls.mono (F6.out _ ?hh d.out.1 d.out.2.2.1 d.out.2.2.2 n) ?_
 case hh=>exact j.out
 rintro e w' ⟨b6,rfl,q,rfl⟩;have t:=hyd q;clear q;go_wp2;go_ret;refine⟨b6,rfl,?_,l.trans (Ve _ _ _)⟩;rw[t.out];exact⟨λh=>⟨u.out,d.out.1,d.out.2.1,d.out.2.2.1,d.out.2.2.2,n.out,v.out,h.1,h.2⟩,λh=>⟨h.cs,h.la⟩⟩
def JT:Nat:=79764919
def N9 (l:List UInt8) (j:Nat):Bool:=decide (j<8*l.length)&&(l.getD (j/8) 0).toNat.testBit (7-j%8)
def VN (r:Nat) (b:Bool):Nat:=(2*r%4294967296) ^^^ (if (b ^^ r.testBit 31) then JT else 0)
def Nf (l:List UInt8):Nat->Nat
 |0=>4294967295
 |i+1=>VN (Nf l i) (N9 l i)
theorem IH (r:Nat) (b:Bool):VN r b<4294967296:=by
 have:VN r b<2 ^ 32:=Nat.xor_lt_two_pow (by omega) (by split<;>simp[JT]);simpa using this
theorem CW (l:List UInt8):∀i,Nf l i<4294967296
 |0=>by simp[Nf]
 |i+1=>IH _ _
theorem VK (x t:Nat):(2*x%4294967296).testBit t=(decide (t<32)&&decide (1<=t)&&x.testBit (t-1)):=by
 rw[show(4294967296:Nat)=2 ^ 32 from rfl,Nat.testBit_mod_two_pow];rcases t with _|t
 ·simp
 rw[Nat.testBit_succ,show 2*x/2=x by omega];simp
def UK (r:Nat):Nat:=VN r false
theorem Dx (r x:Nat):UK (r ^^^ x)=VN r (x.testBit 31) ^^^ (2*x%4294967296):=by
 unfold UK VN;have h:2*(r ^^^ x)%4294967296=(2*r%4294967296) ^^^ (2*x%4294967296):=by
  apply Nat.eq_of_testBit_eq;intro i;rw[Nat.testBit_xor,VK,VK,VK,Nat.testBit_xor];cases decide (i<32)<;>cases decide (1<=i)<;>simp
 rw[h,Nat.testBit_xor,Bool.false_xor,Bool.xor_comm (x.testBit 31)];rw[Nat.xor_assoc,Nat.xor_comm (2*x%4294967296),<-Nat.xor_assoc]
def Xx (b:UInt8) (k:Nat):Nat:=b.toNat*2 ^ (24+k)%4294967296
theorem Mo (b:UInt8) (k:Nat):Xx b k<4294967296:=Nat.mod_lt _ (by omega)
theorem Km (b:UInt8) (k:Nat):2*Xx b k%4294967296=Xx b (k+1):=by
 unfold Xx;rw[show 24+(k+1)=(24+k)+1 by omega,Nat.pow_succ,<-Nat.mul_assoc];omega
theorem Lt (b:UInt8):Xx b 8=0:=by
 unfold Xx;rw[show(2:Nat) ^ (24+8)=4294967296 by decide];omega
theorem Kn (b:UInt8):Xx b 0=b.toNat*16777216:=by
 have:=b.toNat_lt;unfold Xx;rw[show(2:Nat) ^ (24+0)=16777216 by decide];omega
theorem IZ (b:UInt8) (k:Nat) (y:k<8):(Xx b k).testBit 31=b.toNat.testBit (7-k):=by
 unfold Xx;rw[show(4294967296:Nat)=2 ^ 32 from rfl,Nat.testBit_mod_two_pow,Nat.mul_comm,Nat.testBit_two_pow_mul];rw[show 31-(24+k)=7-k by omega];simp;omega
theorem E5 (l:List UInt8) (i k:Nat) (y:i<l.length) (z:k<8):N9 l (8*i+k)=l[i].toNat.testBit (7-k):=by
 unfold N9;rw[show(8*i+k)/8=i by omega,show(8*i+k)%8=k by omega,Zf,Zd y];simp;omega
theorem FC (l:List UInt8) (i k:Nat) (z:i<l.length) (y:k<8):UK (Nf l (8*i+k) ^^^ Xx l[i] k)=Nf l (8*i+(k+1)) ^^^ Xx l[i] (k+1):=by
 rw[Dx,IZ _ _ y,Km,<-ZN,Nf,E5 l i k z y]
theorem FB (l:List UInt8) (i:Nat) (b:UInt8):Nf l (8*i+8) ^^^ Xx b 8=Nf l (8*(i+1)):=by
 rw[Lt,Nat.xor_zero];rfl
theorem IP {x:Nat} (h:2147483648<=x) (y:x<4294967296):UK x=(2*x%4294967296) ^^^ 79764919:=by
 have:x.testBit 31=true:=by
  rw[Nat.testBit_eq_decide_div_mod_eq];simp;omega
 simp[UK,VN,this,JT]
theorem IQ {x:Nat} (h:x<2147483648):UK x=2*x%4294967296:=by
 have:x.testBit 31=false:=by
  rw[Nat.testBit_eq_decide_div_mod_eq];simp;omega
 simp[UK,VN,this]
def Lk (l:List UInt8):Nat:=4294967295-Nf l (8*l.length)
theorem Dw (l:List UInt8) (t:Nat) (y:t<32):(Lk l).testBit t=!(Nf l (8*l.length)).testBit t:=by
 have h:=CW l (8*l.length);unfold Lk;generalize Nf l (8*l.length)=r at *;have:4294967295-r=2 ^ 32-(r+1):=by omega
 rw[this,Nat.testBit_two_pow_sub_succ (by omega)];simp[y]
def Uv (l:List UInt8):List UInt8:=[Y3 ((Lk l/16777216:Nat):Int),Y3 ((Lk l/65536:Nat):Int),Y3 ((Lk l/256:Nat):Int),Y3 ((Lk l:Nat):Int)]
def VX (l:List UInt8) (i j:Nat):Bool:=if j<i then false else N9 l j ^^ (decide (j<i+32)&&(Nf l i).testBit (31-(j-i)))
def ST (l:List UInt8) (i k j:Nat):Bool:=if j=i then false else VX l i j ^^ (VX l i i&&decide (i+32-k<j)&&decide (j<=i+32)&&JT.testBit (i+32-j))
theorem JS (l:List UInt8) (i:Nat):VX l i i=(N9 l i ^^ (Nf l i).testBit 31):=by simp[VX]
theorem Gj (l:List UInt8) (i j:Nat) (h:j≠i):ST l i 0 j=VX l i j:=by
 unfold ST;rw[if_neg h];by_cases h1:i+32-0<j
 ·have:¬j<=i+32:=by omega
  simp[this]
 have e:=decide_eq_false h1;rw[e];simp
theorem Gi (l:List UInt8) (i k:Nat):ST l i k i=false:=by simp[ST]
theorem JR (l:List UInt8) (i j:Nat) (h:VX l i i=false):VX l (i+1) j=VX l i j:=by
 rw[JS]at h;unfold VX;by_cases h1:j<i
 ·rw[p_,if_pos h1]
 by_cases h2:j=i
 ·subst h2;rw[p_,g_];simp[h]
 rw[g_,if_neg h1,Nf,VN,h];simp only[Bool.false_eq_true,if_false,Nat.xor_zero,VK];by_cases h3:j<i+32
 ·have a:decide (j<i+1+32)=true:=by simp;omega
  have e2:decide (31-(j-(i+1))<32)=true:=by simp;omega
  have b:decide (1<=31-(j-(i+1)))=true:=by simp;omega
  rw[a,e2,b,show 31-(j-(i+1))-1=31-(j-i) by omega];simp[h3]
 by_cases c:j=i+32
 ·subst c;simp
 have a:decide (j<i+1+32)=false:=by simp;omega
 simp[a,h3]
theorem EA (l:List UInt8) (i j:Nat) (h:VX l i i=true):ST l i 32 j=VX l (i+1) j:=by
 have c:=h;rw[JS]at c;unfold ST;by_cases h2:j=i
 ·subst h2;rw[if_pos rfl,VX,p_]
 rw[if_neg h2,h];unfold VX;by_cases h1:j<i
 ·rw[if_pos h1,p_];have e:decide (i+32-32<j)=false:=decide_eq_false (by omega);rw[e];simp
 rw[if_neg h1,g_,Nf,VN,c];simp only[if_true,Nat.testBit_xor,VK];have e0:decide (i+32-32<j)=true:=by simp;omega
 rw[e0];by_cases h3:j<i+32
 ·have a:decide (j<i+1+32)=true:=by simp;omega
  have e2:decide (31-(j-(i+1))<32)=true:=by simp;omega
  have d:decide (1<=31-(j-(i+1)))=true:=by simp;omega
  have b:decide (j<=i+32)=true:=by simp;omega
  rw[a,e2,d,b,show 31-(j-(i+1))-1=31-(j-i) by omega,show 31-(j-(i+1))=i+32-j by omega];simp[h3]
 by_cases f:j=i+32
 ·subst f;simp
 have a:decide (j<i+1+32)=false:=by simp;omega
 have b:decide (j<=i+32)=false:=by simp;omega
 simp[a,h3,b]
theorem Mh (l:List UInt8) (i k j:Nat) (y:k<32) (h:VX l i i=true):ST l i (k+1) j=if j=i+32-k/\JT.testBit k=true then !ST l i k j else ST l i k j:=by
 unfold ST;by_cases h2:j=i
 ·rw[if_pos h2,g_,if_pos h2]
 rw[if_neg h2,if_neg h2,h];by_cases h3:j=i+32-k
 ·subst h3;have a:decide (i+32-(k+1)<i+32-k)=true:=by simp;omega
  have e2:decide (i+32-k<i+32-k)=false:=by simp
  have c:decide (i+32-k<=i+32)=true:=by simp
  rw[a,e2,c,show i+32-(i+32-k)=k by omega];cases JT.testBit k<;>simp
 rw[if_neg (λh=>h3 h.1)];by_cases d:j<=i+32
 ·by_cases b:i+32-k<j
  ·have a:decide (i+32-(k+1)<j)=true:=decide_eq_true (by omega);have e2:=decide_eq_true b;rw[a,e2]
  have a:decide (i+32-(k+1)<j)=false:=decide_eq_false (by omega);have e2:=decide_eq_false b;rw[a,e2]
 simp[d]
theorem Gk (l:List UInt8) (j:Nat):VX l 0 j=(N9 l j ^^ decide (j<32)):=by
 unfold VX;rw[g_,Nf];by_cases h:j<32
 ·have:(4294967295:Nat).testBit (31-j)=true:=by
   rw[show(4294967295:Nat)=2 ^ 32-1 from rfl,Nat.testBit_two_pow_sub_one];simp;omega
  simp[h,this]
 simp[h]
theorem EB (l:List UInt8) (k:Nat) (y:k<32):VX l (8*l.length) (8*l.length+k)=!(Lk l).testBit (31-k):=by
 rw[Dw l _ (by omega)];unfold VX;rw[g_];have:N9 l (8*l.length+k)=false:=by
  have h:decide (8*l.length+k<8*l.length)=false:=decide_eq_false (by omega);unfold N9;rw[h];rfl
 rw[this,show 8*l.length+k-8*l.length=k by omega];simp[y]
theorem Fc (r:Nat) (h:r<4294967296):4294967295 ^^^ r=4294967295-r:=by
 apply Nat.eq_of_testBit_eq;intro i;rw[Nat.testBit_xor,show(4294967295:Nat)=2 ^ 32-1 from rfl,Nat.testBit_two_pow_sub_one,show 2 ^ 32-1-r=2 ^ 32-(r+1) by omega,Nat.testBit_two_pow_sub_succ (by omega)];by_cases a:i<32
 ·simp[a]
 have:r.testBit i=false:=Nat.testBit_lt_two_pow (ZH h (by
  have:2 ^ 32<=2 ^ i:=Nat.pow_le_pow_right (by omega) (by omega);simpa using this))
 simp[a,this]
theorem JL (w:World) (o:Obj):Bl w (w.alloc o):=(Zk _ _).alloc (Zg _) o
theorem Fz (s:ByteArray) (w:World) (hs:s.size<=1000000):
  Cp 141 #[.string s] w λe w'=>e=.returned (.int .u32 (Lk s.data.toList))/\w'=w:=by
 have u:s.data.toList.length=s.size:=by simp
 go_enter Tryz.func141,Tryz.ntmps141;go_wp2
 go_loop [3,8] (λx i=>∃k r:Nat,k<=s.size/\i=I6 k/\x=.int .u32 r/\r<4294967296/\Hid (r=Nf s.data.toList (8*k))) (λ_ i=>s.size-(intOf i).toNat)
 ·exact⟨0,4294967295,by omega,rfl,rfl,by omega,rfl⟩
 obtain⟨k,r,C,rfl,rfl,l,d⟩:=hrel;by_cases v:k<s.size
 ·have n:(k:Int)<(s.size:Int):=by omega
  have p:Hid (s.data.toList[k]'(by omega)=s[k]):=rfl;go_wp2;have A:=s[k].toNat_lt
  go_loop [3,18] (λx i=>∃j y:Nat,j<=8/\i=I6 j/\x=.int .u32 y/\y<4294967296/\Hid (y=Nf s.data.toList (8*k+j) ^^^ Xx s[k] j)) (λ_ i=>8-(intOf i).toNat)
  ·refine⟨0,r ^^^ Xx s[k] 0,by omega,rfl,?_,?_,?_⟩
   ·have e:((s[k].toNat:Int)%4294967296*16777216%4294967296)=((Xx s[k] 0:Nat):Int):=by rw[Kn];omega
    rw[e,u32_xor_nat r _ l (Mo _ _)]
   ·have:r ^^^ Xx s[k] 0<2 ^ 32:=Nat.xor_lt_two_pow (by omega) (by have:=Mo s[k] 0;omega);omega
   show _=_;rw[d.out];rfl
  obtain⟨j,y,B,rfl,rfl,o,f⟩:=hrel;by_cases h:j<8
  ·have m:(j:Int)<8:=by omega
   have a:Hid (UK y=Nf s.data.toList (8*k+(j+1)) ^^^ Xx s[k] (j+1)):=by
    show _=_;have:=FC s.data.toList k j (by omega) h;rw[show s.data.toList[k]=s[k] from p.out]at this;rw[f.out];exact this
   by_cases g:2147483648<=y
   ·have z:((y:Int)/2147483648==1)=true:=by simp;omega
    have b:=IP g o;rw[a.out]at b;have c:Hid (Nf s.data.toList (8*k+(j+1)) ^^^ Xx s[k] (j+1)=(2*y%4294967296) ^^^ 79764919):=b;clear b a g;go_wp2
    go_round
    ·refine⟨j+1,(2*y%4294967296) ^^^ 79764919,by omega,by go_num,?_,?_,c.out.symm⟩
     ·have e:((y:Int)*2%4294967296)=((2*y%4294967296:Nat):Int):=by omega
      rw[e];exact congrArg _ (u32_xor_nat (2*y%4294967296) 79764919 (by omega) (by omega))
     have:(2*y%4294967296) ^^^ 79764919<2 ^ 32:=Nat.xor_lt_two_pow (by omega) (by omega);omega
    simp[intOf];omega
   have z:((y:Int)/2147483648==1)=false:=by simp;omega
   have b:=IQ (show y<2147483648 by omega);rw[a.out]at b;have c:Hid (Nf s.data.toList (8*k+(j+1)) ^^^ Xx s[k] (j+1)=2*y%4294967296):=b;clear b a g;go_wp2
   go_round
   ·refine⟨j+1,2*y%4294967296,by omega,by go_num,?_,by omega,c.out.symm⟩;have e:((y:Int)*2%4294967296)=((2*y%4294967296:Nat):Int):=by omega
    rw[e]
   simp[intOf];omega
  have⟨hge,hj8⟩:¬(j:Int)<8/\j=8:=by omega
  subst hj8;have t:Hid (y=Nf s.data.toList (8*(k+1))):=by show _=_;rw[f.out,FB]
  clear f;go_wp2
  go_round
  ·exact⟨k+1,y,by omega,by go_num,rfl,o,t⟩
  simp[intOf];omega
 have⟨hge,hkn⟩:¬(k:Int)<(s.size:Int)/\k=s.size:=by omega
 have q:Hid ((Lk s.data.toList:Int)=4294967295-(r:Int)):=by
  show _=_;rw[Lk,u,<-hkn,<-d.out];omega
 clear d;go_wp2;go_ret;refine⟨?_,rfl⟩;show Ending.returned (.int .u32 (bits .xor .u32 IntKind.u32.max (r:Int)))=_;rw[q.out,show IntKind.u32.max=((4294967295:Nat):Int) from rfl,u32_xor_nat 4294967295 r (by omega) l,Fc r l,Int.ofNat_sub (by omega)];rfl
theorem Fv (s:ByteArray) (w:World) (hs:s.size<=1000000):
  Cp 83 #[.string s] w λe w'=>e=.returned (.string ⟨(Uv s.data.toList).toArray⟩)/\Bl w w':=by
 have HS:Hid (Cp 141 #[.string s] w λe w'=>e=.returned (.int .u32 (Lk s.data.toList))/\w'=w):=Fz s w hs;have d:Hid (Uv s.data.toList=[Y3 ((Lk s.data.toList/16777216:Nat):Int),Y3 ((Lk s.data.toList/65536:Nat):Int),Y3 ((Lk s.data.toList/256:Nat):Int),Y3 ((Lk s.data.toList:Nat):Int)]):=rfl;generalize Uv s.data.toList=L at *;generalize Lk s.data.toList=c at *;have b:(convert 99 9 (.slice (some (a_ w.heap.size 0)) 4 4)).run Tryz.prog (w.alloc (.cells #[.int .u8 ((c:Int)/16777216%256),.int .u8 ((c:Int)/65536%256),.int .u8 ((c:Int)/256%256),.int .u8 ((c:Int)%256)] 5))=.ok (.string ⟨L.toArray⟩) (w.alloc (.cells #[.int .u8 ((c:Int)/16777216%256),.int .u8 ((c:Int)/65536%256),.int .u8 ((c:Int)/256%256),.int .u8 ((c:Int)%256)] 5)):=by
  have f:L.length=4:=by rw[d.out];rfl
  have:=run_convert_bytes_back (P:=Tryz.prog) (w.alloc (.cells #[.int .u8 ((c:Int)/16777216%256),.int .u8 ((c:Int)/65536%256),.int .u8 ((c:Int)/256%256),.int .u8 ((c:Int)%256)] 5)) 99 9 5 (a_ w.heap.size 0) 4 L u_e u_g u_i (λj h=>by
   rw[Addr.add_lit,Zn,Zm];have g:j<4:=by omega
   have a:=d.out;subst a;rcases j with _|_|_|_|j
   ·simp[Yq]
   ·simp[Yq]
   ·simp[Yq]
   ·simp[Yq]
   omega)
  rw[f]at this;exact this
 go_enter Tryz.func83,Tryz.ntmps83;go_wp2_with fail;refine HS.out.mono ?_;rintro e w ⟨rfl,rfl⟩;go_wp2;go_ret;exact⟨rfl,JL _ _⟩
theorem JU {e:TypeId} (h:w.ownsRow base e sz v n xs) (y:Bl w w'):w'.ownsRow base e sz v n xs:=by
 refine⟨h.1,?_⟩;rcases h.2 with h0|⟨d,b,c,j,k,f,a⟩
 ·exact Or.inl h0
 refine Or.inr ⟨d,b,c,j,k,?_,a⟩;rw[y.block d ?_];exact f;rcases ZD d w.heap.size with i|g
 ·exact i
 rw[Array.getElem?_eq_none g]at f;cases f
end
end Go.Proofs.YtoaaklhpmhjhkaaGreat
