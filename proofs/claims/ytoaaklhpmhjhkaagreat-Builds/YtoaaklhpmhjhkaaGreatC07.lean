import Derived.Test.YtoaaklhpmhjhkaaGreatC06
set_option maxRecDepth 100000
set_option maxHeartbeats 4000000
set_option linter.all false
namespace Go.Proofs.YtoaaklhpmhjhkaaGreat
open Go.RowKit
theorem q4i (s:ByteArray) (e a:Int) (w:World) (hm:s.size<=maxLen) (h:Rf.WrongIs s.data.toList e a):
  Calls Tryz.prog 50 #[.string s] w λe' w'=>e'=.returned (.tuple #[.int .i64 e,.int .i64 a])/\Below w.heap.size w w':=by
 unfold maxLen at hm;rcases h with ⟨j,rfl,rfl⟩|⟨j,h⟩
 ·have t:40<s.size:=by simpa using j
  clear j;go_enter Tryz.func50,Tryz.ntmps50;go_wp2_with fail;go_ret2;exact⟨rfl,Below.refl _ _⟩
 have hs:s.size<=40:=by simpa using j
 clear j hm;rcases h with ⟨r,rfl,rfl⟩|⟨r,h⟩
 ·go_enter Tryz.func50,Tryz.ntmps50;go_wp2_with fail;refine(q4g s _ hs).mono ?_;rintro e w1 ⟨rfl,b⟩;go_wp2_with fail;go_ret2;exact⟨rfl,b⟩
 rcases h with ⟨q,rfl,rfl⟩|⟨q,f,v,k,h⟩
 ·go_enter Tryz.func50,Tryz.ntmps50;go_wp2_with fail;refine(q4g s _ hs).mono ?_;rintro e w1 ⟨rfl,b⟩;go_wp2_with fail;refine(q6B s _ hs).mono ?_;rintro e w2 ⟨rfl,c⟩;go_wp2_with fail;go_ret2;exact⟨rfl,b.trans (c.mono b.size)⟩
 rcases h with ⟨n,rfl,rfl⟩|⟨n,g,u,p,h⟩
 ·go_enter Tryz.func50,Tryz.ntmps50;go_wp2_with fail;refine(q4g s _ hs).mono ?_;rintro e w1 ⟨rfl,b⟩;go_wp2_with fail;refine(q6B s _ hs).mono ?_;rintro e w2 ⟨rfl,c⟩;have i:=b.trans (c.mono b.size);go_wp2_with fail;refine(q6K s _ f _ hs k).mono ?_;rintro e x ⟨rfl,d⟩;clear k;go_wp2_with fail;go_ret2;exact⟨rfl,i.trans (d.mono i.size)⟩
 rcases h with ⟨m,rfl,rfl⟩|⟨m,rfl,rfl⟩
 all_goals
  go_enter Tryz.func50,Tryz.ntmps50;go_wp2_with fail;refine(q4g s _ hs).mono ?_;rintro e w1 ⟨rfl,b⟩;go_wp2_with fail;refine(q6B s _ hs).mono ?_;rintro e w2 ⟨rfl,c⟩;have i:=b.trans (c.mono b.size);go_wp2_with fail;refine(q6K s _ f _ hs k).mono ?_;rintro e x ⟨rfl,d⟩;clear k;have o:=i.trans (d.mono i.size);go_wp2_with fail;refine(y0N s _ g _ hs p).mono ?_;rintro e y ⟨rfl,l⟩;clear p;go_wp2_with fail;go_ret2;exact⟨rfl,o.trans (l.mono o.size)⟩
theorem q6Z (ad:Option Addr) (len cap:Nat) (w:World) (hl:len<=maxLen) (h:len=0\/8<len):
  Calls Tryz.prog 26 #[.slice ad len cap] w λe' w'=>e'=.returned (.tuple #[.int .i64 1,.int .i64 0,.int .i64 0])/\w'=w:=by
 unfold maxLen at hl;rcases h with h|h
 ·subst h;go_enter Tryz.func26,Tryz.ntmps26;go_wp2_with fail;go_ret3;exact⟨rfl,rfl⟩
 have a:((len:Int)==0)=false:=by simp;omega
 go_enter Tryz.func26,Tryz.ntmps26;go_wp2_with fail;go_ret3;exact⟨rfl,rfl⟩
def SRow (b off:Nat) (f:Nat->ByteArray) (n:Nat) (w:World):Prop:=∀i,i<n->w.cell? ⟨b,off+i,none⟩=some (.string (f i))
variable {B b n off : Nat}{w w' : World}
theorem SRow.below {f:Nat->ByteArray} (h:SRow b off f n w) (hb:b<B) (hW:Below B w w'):SRow b off f n w':=λi a=>by
 rw[hW.cell (p:=⟨b,off+i,none⟩) hb];exact h i a
def CheckIs (f:Nat->ByteArray) (n:Nat) (e r a:Int):Prop:=
 (∃i:Nat,i<n/\(∀j,j<i->Rf.WrongIs (f j).data.toList 0 0)/\Rf.WrongIs (f i).data.toList e a/\e≠0/\r=i) \/
 ((∀j,j<n->Rf.WrongIs (f j).data.toList 0 0/\(f j).size<=40)/\r=0/\a=0 /\
  ∃vs:Nat->Int,(∀j,j<n->∃g,Rf.cnt g true (f j).data.toList=some (vs j))/\e=if 96<sumTo vs n then 7 else 0)
theorem q4w (b off cap n:Nat) (f:Nat->ByteArray) (e r a:Int) (w:World) (h1:1<=n) (h8:n<=8) (hb:b<w.heap.size) (hm:∀i,i<n->(f i).size<=maxLen) (hr:SRow b off f n w) (h:CheckIs f n e r a):
  Calls Tryz.prog 26 #[.slice (some ⟨b,off,none⟩) n cap] w λe' w'=>e'=.returned (.tuple #[.int .i64 e,.int .i64 r,.int .i64 a])/\Below w.heap.size w w':=by
 have Q:((n:Int)==0)=false:=beq_eq_false_iff_ne.2 (by omega);have B:=hyd hm;have C:=hyd hr;clear hm hr;rcases h with ⟨K,G,l,A,L,rfl⟩|⟨l,rfl,rfl,vs,t,rfl⟩
 ·have m:=hyd l;have E:=hyd A;have R:(e==0)=false:=by simpa using L
  clear l A L;go_enter Tryz.func26,Tryz.ntmps26;go_wp2_with fail
  go_loopw [5] (λi w'=>∃k:Nat,k<=K/\i=.int .i64 k/\Below w.heap.size w w') (λi _=>9-(intOf i).toNat)
  ·exact⟨0,by omega,rfl,Below.refl _ _⟩
  obtain⟨k,M,rfl,q⟩:=hrel;have p:=C.out.below hb q k (by omega);by_cases z:k=K
  ·subst z;go_wp2_with fail;refine(q4i (f k) e a _ (B.out k G) E.out).mono ?_;rintro e' w1 ⟨rfl,d⟩;go_wp2_with fail;go_ret3;exact⟨rfl,q.trans (d.mono q.size)⟩
  have H:k<K:=by omega
  clear z;go_wp2_with fail;refine(q4i (f k) 0 0 _ (B.out k (by omega)) (m.out k H)).mono ?_;rintro e' w1 ⟨rfl,d⟩;go_wp2_with fail;go_roundw
  ·exact⟨k+1,by omega,by go_num,q.trans (d.mono q.size)⟩
  simp[intOf];omega
 have m:=hyd l;have D:=hyd t;have v:∀k,k<=n->0<=sumTo vs k/\sumTo vs k<=9094947017729282*k:=by
  intro k
  induction k with
  |zero=>intro _;simp[sumTo]
  |succ k ih=>
   intro M;have:=ih (by omega);obtain⟨g,y⟩:=t k (by omega);have S:=Rf.cnt_small y (by have:=(l k (by omega)).2;simpa using this);simp only[sumTo];omega
 have u:=hyd v;clear l t v;go_enter Tryz.func26,Tryz.ntmps26;go_wp2_with fail
 go_loopw [5] (λi w'=>∃k:Nat,k<=n/\i=.int .i64 k/\Below w.heap.size w w') (λi _=>9-(intOf i).toNat)
 ·exact⟨0,by omega,rfl,Below.refl _ _⟩
 obtain⟨k,M,rfl,q⟩:=hrel;by_cases s:k<n
 ·have p:=C.out.below hb q k s;go_wp2_with fail;refine(q4i (f k) 0 0 _ (B.out k s) (m.out k s).1).mono ?_;rintro e' w1 ⟨rfl,d⟩;go_wp2_with fail;go_roundw
  ·exact⟨k+1,by omega,by go_num,q.trans (d.mono q.size)⟩
  simp[intOf];omega
 go_wp2_with fail
 go_loopw [8,9] (λx i w'=>∃k:Nat,k<=n/\i=.int .i64 k/\x=.int .i64 (sumTo vs k)/\Below w.heap.size w w') (λ_ i _=>9-(intOf i).toNat)
 ·exact⟨0,by omega,rfl,rfl,q⟩
 obtain⟨j,I,rfl,rfl,o⟩:=hrel;have O:=u.out j I;by_cases c:j<n
 ·have p:=C.out.below hb o j c;have F:=u.out (j+1) c;obtain⟨g,y⟩:=D.out j c;have P:=Rf.cnt_small y (by have:=(m.out j c).2;simpa using this);have HS:Hid (sumTo vs (j+1)=sumTo vs j+vs j):=rfl;clear F;go_wp2_with fail;refine((q6D g).1 (f j) (vs j) _ (m.out j c).2 y).mono ?_;rintro e' w1 ⟨rfl,d⟩;clear y;go_wp2_with fail;go_roundw
  ·exact⟨j+1,by omega,by go_num,by rw[HS.out],o.trans (d.mono o.size)⟩
  simp[intOf];omega
 have J:j=n:=by omega
 subst J;by_cases N:96<sumTo vs j
 ·go_wp2_with fail;go_ret3;exact⟨by first|rfl|rw[if_pos (by omega)],o⟩
 go_wp2_with fail;go_ret3;exact⟨by first|rfl|rw[if_neg (by omega)],o⟩
end Go.Proofs.YtoaaklhpmhjhkaaGreat
