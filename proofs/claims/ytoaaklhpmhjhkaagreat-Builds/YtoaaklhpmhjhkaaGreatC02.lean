import Derived.Test.YtoaaklhpmhjhkaaGreatRows
import Derived.WalkSpells
import Derived.WalkLawsBesides
import Derived.Deep.QuietTactic
import Derived.BigQuiet
import Derived.Deep.RegionHeld3
import Derived.ArgAppend
import Derived.Laws.IdiomCopy
import Derived.Laws.IdiomStrings
import Derived.Laws.BitsAllLaws
import Derived.Lib.SlBytesConst
import Derived.Test.YtoaaklhpmhjhkaaGreatC01
set_option maxRecDepth 100000
set_option maxHeartbeats 4000000
set_option linter.all false
namespace Go.Proofs.YtoaaklhpmhjhkaaGreat
open Go.RowKit
def IL (ad:Option Addr) (f:Nat->Int) (n:Nat) (w:World):Prop:=
 ∀i,i<n->∃b off,ad=some ⟨b,off,none⟩/\w.cell? ⟨b,off+i,none⟩=some (.int .i64 (f i))
variable {b g gb m n : Nat}{ad ta : Option Addr}{w w' : World}
theorem IL.below {f:Nat->Int} (h:IL ad f n w) (hW:Below w.heap.size w w'):IL ad f n w':=λi d=>by
 obtain⟨b,off,c,a⟩:=h i d;refine⟨b,off,c,?_⟩;rw[hW.cell (p:=⟨b,off+i,none⟩) (World.block_lt_of_cell? w ⟨b,off+i,none⟩ a)];exact a
theorem eInfoInt:∃i,Tryz.prog.info? 3=some i/\i.zero=some (.int .i64 0)/\i.size=1/\i.bytes=8:=by
 have b:(Tryz.prog.info? 3).isSome=true:=by kernel_rfl
 obtain⟨i,a⟩:=Option.isSome_iff_exists.1 b;refine⟨i,a,?_,?_,?_⟩
 ·have:((Tryz.prog.info? 3).bind (·.zero))=some (.int .i64 0):=by kernel_rfl
  rw[a]at this;exact this
 ·have:((Tryz.prog.info? 3).map (·.size))=some 1:=by kernel_rfl
  rw[a]at this;simpa using this
 have:((Tryz.prog.info? 3).map (·.bytes))=some 8:=by kernel_rfl
 rw[a]at this;simpa using this
theorem eInfoU8:∃i,Tryz.prog.info? 5=some i/\i.zero=some (.int .u8 0)/\i.size=1/\i.bytes=1:=by
 have b:(Tryz.prog.info? 5).isSome=true:=by kernel_rfl
 obtain⟨i,a⟩:=Option.isSome_iff_exists.1 b;refine⟨i,a,?_,?_,?_⟩
 ·have:((Tryz.prog.info? 5).bind (·.zero))=some (.int .u8 0):=by kernel_rfl
  rw[a]at this;exact this
 ·have:((Tryz.prog.info? 5).map (·.size))=some 1:=by kernel_rfl
  rw[a]at this;simpa using this
 have:((Tryz.prog.info? 5).map (·.bytes))=some 1:=by kernel_rfl
 rw[a]at this;simpa using this
theorem eInfoBool:∃i,Tryz.prog.info? 4=some i/\i.zero=some (.bool false)/\i.size=1/\i.bytes=1:=by
 have b:(Tryz.prog.info? 4).isSome=true:=by kernel_rfl
 obtain⟨i,a⟩:=Option.isSome_iff_exists.1 b;refine⟨i,a,?_,?_,?_⟩
 ·have:((Tryz.prog.info? 4).bind (·.zero))=some (.bool false):=by kernel_rfl
  rw[a]at this;exact this
 ·have:((Tryz.prog.info? 4).map (·.size))=some 1:=by kernel_rfl
  rw[a]at this;simpa using this
 have:((Tryz.prog.info? 4).map (·.bytes))=some 1:=by kernel_rfl
 rw[a]at this;simpa using this
theorem q3f (b:Nat):∀(vs:List Value) (o:Nat) (w:World),(w.setCells b o vs).heap.size=w.heap.size
 |[],_,_=>rfl
 |v::r,o,w=>by rw[World.setCells,q3f b r];simp[World.setCell]
theorem q0e (b:Nat):∀(vs:List Value) (o:Nat) (w:World),w.grownBy (w.setCells b o vs) (some b)
 |[],_,w=>⟨rfl,rfl,rfl,Nat.le_refl _,λ_ _ _=>rfl⟩
 |v::r,o,w=>by
  have h:=q0e b r (o+1) (w.setCell ⟨b,o,none⟩ v);refine⟨h.os,h.tape,h.output,?_,λk c a=>?_⟩
  ·rw[q3f];exact Nat.le_refl _
  rw[World.setCells,h.block k (by simpa[World.setCell]using c) a];exact Below.heap_setCell w ⟨b,o,none⟩ v k (λe=>a (by rw[e]))
open Bm (Aut fl gAt Tg)
structure Gr (gb:Nat) (A:Aut) (ta:Option Addr) (tc:Nat) (sv:Value) (w:World):Prop where
 c0:w.cell? ⟨gb,0,none⟩=some (.int .i64 A.K)
 c1:w.cell? ⟨gb,1,none⟩=some sv
 c2:w.cell? ⟨gb,2,none⟩=some (.slice ta (A.N*A.K) tc)
 l:IL ta (fl A) (A.N*A.K) w
variable {A : Aut}
theorem Gr.below {tc:Nat}{sv:Value} (h:Gr gb A ta tc sv w) (hW:Below w.heap.size w w'):Gr gb A ta tc sv w':=by
 have a:=World.block_lt_of_cell? w _ h.c0;have e:∀k,w'.cell? ⟨gb,k,none⟩=w.cell? ⟨gb,k,none⟩:=λk=>hW.cell (p:=⟨gb,k,none⟩) a
 exact⟨by rw[e];exact h.c0,by rw[e];exact h.c1,by rw[e];exact h.c2,h.l.below hW⟩
structure Aut.Small (A:Aut):Prop where
 n:A.N<=200
 k:A.K<=256
theorem y0s {a:Nat} (h1:a<=m) (h2:b<=n):a*b<=m*n:=Nat.mul_le_mul h1 h2
theorem q4N (gb:Nat) (A:Aut) (ta:Option Addr) (tc:Nat) (sv:Value) (oa:Option Addr) (oc:Nat) (of:Nat->Int) (a k:Nat) (w:World) (hA:Aut.Small A) (hr:∀s k,s<A.N->k<A.K->-1<=A.to s k/\A.to s k<A.N) (hG:Gr gb A ta tc sv w) (hO:IL oa of A.N w) (ha:a<A.N) (hk:k<A.K):
  Calls Tryz.prog 177 #[.pointer (some ⟨gb,0,none⟩),.slice oa A.N oc,.int .i64 a,.int .i64 k] w λe w'=>e=.returned (.int .i64 (gAt A of a k))/\Below w.heap.size w w':=by
 obtain⟨R,b⟩:=nam (gAt A of a k);rw[<-b];unfold gAt at b;obtain⟨p,f⟩:=nam (a*A.K);have C:(a:Int)*(A.K:Int)=(p:Int):=by rw[f];simp
 obtain⟨t,i⟩:=nam (p+k);have D:(p:Int)+(k:Int)=(t:Int):=by omega
 have d:t<A.N*A.K:=by rw[i,f];exact Bm.time_lt ha hk
 have y:=y0s hA.n hA.k;have z:=hA.k;have q:fl A t=A.to a k:=by rw[i,f];exact Bm.fl_at A hk
 obtain⟨tb,B,rfl,c3⟩:=hG.l t d;rw[q]at c3;have c0:=hG.c0;have c2:=hG.c2;obtain⟨M,o⟩:=nam (A.N*A.K);rw[<-o]at c2 d y;have v:(t:Int)<M:=by omega
 have h:=hr a k ha hk;have j:=hyd hO;clear hO hG f i o q hr;by_cases c:A.to a k=-1
 ·rw[if_pos c]at b;have x:(A.to a k==-1)=true:=by simpa using c
  subst b;go_enter Tryz.func177,Tryz.ntmps177;go_wp2_with fail
  go_quiet (fail)
  go_wp2_with fail;go_ret;exact⟨rfl,(Below.refl _ _).trans ⟨rfl,rfl,rfl,Nat.le_refl _,λ_ _=>rfl⟩⟩
 rw[if_neg c]at b;have x:(A.to a k==-1)=false:=by simpa using c
 obtain⟨m,r⟩:=Int.eq_ofNat_of_zero_le (show 0<=A.to a k by omega);have g:m<A.N:=by omega
 have u:(m:Int)<(A.N:Int):=by omega
 rw[r]at b c3 x;rw[Int.toNat_natCast]at b;obtain⟨ob,E,rfl,c4⟩:=j.out m g;subst b;clear j c r h;go_enter Tryz.func177,Tryz.ntmps177;go_wp2_with fail
 go_quiet (fail)
 go_wp2_with fail;go_ret;exact⟨rfl,(Below.refl _ _).trans ⟨rfl,rfl,rfl,Nat.le_refl _,λ_ _=>rfl⟩⟩
theorem q1w (B:Nat) (w:World) (q:Nat):Below B w (w.drewN q):=⟨rfl,rfl,rfl,Nat.le_refl _,λ_ _=>rfl⟩
theorem q6L (gb:Nat) (A:Aut) (ta:Option Addr) (tc:Nat) (sv:Value) (oa:Option Addr) (oc:Nat) (of:Nat->Int) (a b:Nat) (w:World) (hA:Aut.Small A) (hr:∀s k,s<A.N->k<A.K->-1<=A.to s k/\A.to s k<A.N) (hG:Gr gb A ta tc sv w) (hO:IL oa of A.N w) (ha:a<A.N) (hb:b<A.N):
  Calls Tryz.prog 176 #[.pointer (some ⟨gb,0,none⟩),.slice oa A.N oc,.int .i64 a,.int .i64 b] w λe w'=>e=.returned (.bool (Tg A of a b))/\Below w.heap.size w w':=by
 obtain⟨R,g⟩:=nam (Tg A of a b);rw[<-g];have l:Hid (R=true<->of a=of b/\∀k,k<A.K->gAt A of a k=gAt A of b k):=by rw[g];exact Bm.Tg_iff A of a b
 clear g;have v:Hid (∀(s k:Nat) (w':World),s<A.N->k<A.K->Below w.heap.size w w'->Calls Tryz.prog 177 #[.pointer (some ⟨gb,0,none⟩),.slice oa A.N oc,.int .i64 s,.int .i64 k] w' λe w''=>e=.returned (.int .i64 (gAt A of s k))/\Below w'.heap.size w' w''):=λs k w' hs B q=>q4N gb A ta tc sv oa oc of s k w' hA hr (hG.below q) (hO.below q) hs B
 have D:Hid (∀w',Below w.heap.size w w'->w'.cell? ⟨gb,0,none⟩=some (.int .i64 A.K)):=λw' q=>(hG.below q).c0
 have J:=hA.k;obtain⟨S,P,E,c1⟩:=hO a ha;obtain⟨T,Q,e2,c2⟩:=hO b hb;subst E;cases e2;have G:(a:Int)<(A.N:Int):=by omega
 have H:(b:Int)<(A.N:Int):=by omega
 have c0:=hG.c0;clear hG hO hr;by_cases n:of a=of b
 case neg=>
  have c:Hid (R=false):=by
   show _=_;cases g:R
   ·rfl
   exact absurd (l.out.1 g).1 n
  have L:(of a != of b)=true:=by simp[n]
  clear l;go_enter Tryz.func176,Tryz.ntmps176;go_wp2_with fail
  go_quiet (fail)
  go_wp2_with fail;go_ret;exact⟨q0v c.out.symm,q1w _ _ _⟩
 have L:(of a != of b)=false:=by simp[n]
 have m:Hid (R=true<->∀k,k<A.K->gAt A of a k=gAt A of b k):=⟨λh=>(l.out.1 h).2,λh=>l.out.2 ⟨n,h⟩⟩;clear l n;go_enter Tryz.func176,Tryz.ntmps176;go_wp2_with fail
 go_quiet (fail)
 go_wp2_with fail
 go_loopw [9] (λx w'=>∃k:Nat,k<=A.K/\x=.int .i64 k/\Below w.heap.size w w'/\Hid (∀j,j<k->gAt A of a j=gAt A of b j)) (λx _=>A.K-(intOf x).toNat)
 ·exact⟨0,by omega,rfl,q1w _ _ _,λj z=>by omega⟩
 obtain⟨k,B,rfl,p,y⟩:=hrel;have c0:=D.out wr p;by_cases i:k<A.K
 ·have C:(k:Int)<(A.K:Int):=by omega
  go_wp2_with fail;refine(v.out a k _ ha i p).mono ?_;rintro e w1 ⟨rfl,t⟩;have f:=p.trans (t.mono p.size);go_wp2_with fail;refine(v.out b k _ hb i f).mono ?_;rintro e w2 ⟨rfl,u⟩;have o:=f.trans (u.mono f.size);by_cases d:gAt A of a k=gAt A of b k
  ·have M:(gAt A of a k==gAt A of b k)=true:=by simpa using d
   have O:(gAt A of a k != gAt A of b k)=false:=by simp[d]
   have r:Hid (∀j,j<k+1->gAt A of a j=gAt A of b j):=λj z=>by
    by_cases F:j=k
    ·subst F;exact d
    exact y.out j (by omega)
   clear d;go_wp2_with fail;go_roundw
   ·exact⟨k+1,by omega,by go_num,o,r⟩
   simp[intOf];omega
  have M:(gAt A of a k==gAt A of b k)=false:=by simpa using d
  have O:(gAt A of a k != gAt A of b k)=true:=by simp[d]
  have c:Hid (R=false):=by
   show _=_;cases g:R
   ·rfl
   exact absurd (m.out.1 g k i) d
  clear d;go_wp2_with fail;go_ret;exact⟨q0v c.out.symm,o⟩
 have I:¬(k:Int)<(A.K:Int):=by omega
 have c:=hyd (m.out.2 (λj z=>y.out j (by omega)));go_wp2_with fail;go_ret;exact⟨q0v c.out.symm,p⟩
end Go.Proofs.YtoaaklhpmhjhkaaGreat
namespace Go.Proofs.YtoaaklhpmhjhkaaGreat
open Go.RowKit
def NRow (g:Nat) (f:Nat->Int) (n:Nat) (w:World):Prop:=∀k,k<n->w.cell? ⟨g,k,none⟩=some (.int .i64 (f k))/\w.frozen? ⟨g,k,none⟩=false
variable {g n : Nat}{w w' : World}
theorem NRow.below {f:Nat->Int} (h:NRow g f n w) (hW:Below w.heap.size w w'):NRow g f n w':=λk b=>by
 have a:=World.block_lt_of_cell? w ⟨g,k,none⟩ (h k b).1;rw[hW.cell (p:=⟨g,k,none⟩) a,hW.frozen (p:=⟨g,k,none⟩) a];exact h k b
theorem y0V (B:Nat) (w:World) (q:Nat):Below B w (w.drewN q):=⟨rfl,rfl,rfl,Nat.le_refl _,λ_ _=>rfl⟩
theorem q6S (ad ad':Option Addr) (n cap cap':Nat) (f:Nat->Int) (w:World) (hn:n<=17592186044416) (h1:IL ad f n w) (h2:IL ad' f n w):
  Calls Tryz.prog 32 #[.slice ad n cap,.slice ad' n cap'] w λe w'=>e=.returned (.bool true)/\Below w.heap.size w w':=by
 have h:=hyd h1;have j:=hyd h2;clear h1 h2;go_enter Tryz.func32,Tryz.ntmps32;go_wp2_with fail
 go_loopw [5] (λi w'=>∃k:Nat,k<=n/\i=.int .i64 k/\Below w.heap.size w w') (λi _=>n-(intOf i).toNat)
 ·exact⟨0,by omega,rfl,Below.refl _ _⟩
 obtain⟨k,m,rfl,c⟩:=hrel;by_cases a:k<n
 ·have d:(k:Int)<n:=by omega
  obtain⟨b,off,rfl,c1⟩:=h.out.below c k a;obtain⟨b',g,rfl,c2⟩:=j.out.below c k a;have o:(0:Int)<=k:=by omega
  go_wp2_with fail
  go_quiet (fail)
  go_wp2_with fail;go_roundw
  ·exact⟨k+1,by omega,by go_num,c.trans (y0V _ _ _)⟩
  simp[intOf];omega
 have l:¬(k:Int)<n:=by omega
 go_wp2_with fail;go_ret;exact⟨rfl,c⟩
end Go.Proofs.YtoaaklhpmhjhkaaGreat
