import Derived.Test.YtoaaklhpmhjhkaaGreatC06
set_option maxRecDepth 100000
set_option maxHeartbeats 4000000
set_option linter.all false
namespace Go.Proofs.YtoaaklhpmhjhkaaGreat
open Go.RowKit
theorem y0M (s:ByteArray) (k n:Nat):(s.extract k (k+n)).data.toList=(s.data.toList.drop k).take n:=by
 rw[q2J,List.drop_take];congr 1;omega
def PlacesAt (f:Nat):Prop:=∀(s:ByteArray) (v:Int) (w:World),s.size<=40->Rf.cnt f true s.data.toList=some v ->
 Calls Tryz.prog 51 #[.string s] w fun e w'=>e=.returned (.int .i64 v)/\Below w.heap.size w w'
def SizeAt (f:Nat):Prop:=∀(s:ByteArray) (v:Int) (w:World),s.size<=40->Rf.cnt f false s.data.toList=some v ->
 Calls Tryz.prog 113 #[.string s] w fun e w'=>e=.returned (.int .i64 v)/\Below w.heap.size w w'
theorem q7U (f:Nat) (ih:∀g,g<f->SizeAt g):PlacesAt f:=by
 intro s v w hs h;have hv:=Rf.cnt_small h (by simpa using hs);go_enter Tryz.func51,Tryz.ntmps51;go_wp2_with fail
 go_loopw [3,4] (fun n i w'=>∃(g k:Nat) (a b:Int),g<=f/\i=.int .i64 k/\n=.int .i64 a/\0<=a/\k<=s.size/\a+b=v/\Below w.heap.size w w'/\Hid (Rf.cnt g true (s.data.toList.drop k)=some b)) (fun _ i _=>s.size-(intOf i).toNat)
 case atStart=>exact⟨f,0,0,v,Nat.le_refl _,rfl,rfl,by omega,by omega,by omega,Below.refl _ _,h⟩
 case round=>
  clear h;obtain⟨g,k,a,b,hg,rfl,rfl,ha,hks,hab,hW,HS⟩:=hrel;rcases g with _|g
  ·exact absurd HS.out (by simp[Rf.cnt])
  have hI:=HS.out;clear HS;rcases hd:s.data.toList.drop k with _|⟨c,r⟩
  ·simp only[Rf.cnt,hd,Option.some.injEq]at hI;have hk:s.size<=k:=by simpa using hd
   have HI:Hid (a=v):=by show _=_;omega
   clear hd hI hab;go_wp2_with fail;go_ret;exact⟨q0l HI.out,hW⟩
  obtain⟨hk,hc,hr⟩:=q0m hd;simp only[Rf.cnt,hd]at hI;by_cases e124:c=124
  ·have hb124:((s[k].toNat:Int)==124)=true:=by rw[hc,e124];rfl
   rw[if_pos e124,<-hr]at hI;have HI:=hyd hI;have HA:=hyd hab;clear hI hd hc hr e124 hab;go_wp2_with fail;go_roundw
   case rel=>exact⟨g,k+1,a,b,by omega,by go_num,rfl,ha,by omega,HA,hW,HI⟩
   case measure=>simp[intOf];omega
  have hb124:((s[k].toNat:Int)==124)=false:=by rw[hc];exact q0J e124
  rw[if_neg e124]at hI;rcases hp:Rf.piece (c::r)with _|n
  ·rw[hp]at hI;cases hI
  obtain⟨hn1,hn2⟩:=Rf.piece_le hp;rw[hp]at hI;simp only at hI;rcases hx:Rf.cnt g false ((c::r).take n)with _|x
  ·rw[hx]at hI;simp at hI
  rcases hy:Rf.cnt g true ((c::r).drop n)with _|y
  ·rw[hx,hy]at hI;simp at hI
  rw[hx,hy]at hI;simp only[Option.some.injEq]at hI;have hlen:(c::r).length=s.size-k:=by rw[<-hd];simp
  have hp':Rf.piece (s.extract k s.size).data.toList=some n:=by rw[q3u,hd];exact hp
  have hx':Rf.cnt g false (s.extract k (k+n)).data.toList=some x:=by rw[y0M,hd];exact hx
  have hx0:=Rf.cnt_small hx (by rw[List.length_take];omega);have hy0:=Rf.cnt_small hy (by rw[List.length_drop];omega);have HY:Hid (Rf.cnt g true (s.data.toList.drop (k+n))=some y):=by show _=_;rw[<-List.drop_drop,hd];exact hy
  have HA:Hid (a+x+y=v):=by show _=_;omega
  have ax:a+x<=9094947017729282:=by omega
  have hkn:k+n<=s.size:=by omega
  clear hI hd hc hr e124 hab hp hx hy;go_wp2_with fail;refine(q4y _ n _ (q1v s _ _ hs) hp').mono ?_;rintro e w1 ⟨rfl,hW1⟩;go_wp2_with fail;refine(ih g (by omega) _ x _ (q1v s _ _ hs) hx').mono ?_;rintro e w2 ⟨rfl,hW2⟩;go_wp2_with fail;go_roundw
  case rel=>
   have hW3:=hW.trans (hW1.mono hW.size);exact⟨g,k+n,a+x,y,by omega,by go_num,rfl,by omega,hkn,HA.out,hW3.trans (hW2.mono hW3.size),HY⟩
  case measure=>simp[intOf];omega
theorem q9W (f:Nat) (ih:∀g,g<f->SizeAt g) (ih':∀g,g<f->PlacesAt g):SizeAt f:=by
 intro s v w hs h;have hv:=Rf.cnt_small h (by simpa using hs);rcases f with _|f
 ·simp[Rf.cnt]at h
 have IH:=ih f (by omega);have IH':=ih' f (by omega);clear ih ih';simp only[Rf.cnt]at h;rcases hsp:Rf.split s.data.toList with _|cut
 ·rw[hsp]at h;cases h
 have hle:=Rf.split_le hsp;rw[hsp]at h;simp only at h;have hcs:cut<=s.size:=by simpa using hle
 rcases hd:s.data.toList.drop cut with _|⟨u,us⟩
 ·rw[hd]at h;have hcut:cut=s.size:=by
    have:s.size<=cut:=by simpa using hd
    omega
  subst hcut;rcases hl:s.data.toList.drop 0 with _|⟨c,r⟩
  ·rw[List.drop_zero]at hl;rw[hl]at h;simp at h
  obtain⟨hk,hc,hr⟩:=q0m hl;rw[List.drop_zero]at hl;by_cases e40:c=40
  ·have hb:((s[0].toNat:Int)==40)=true:=by rw[hc,e40];rfl
   rw[hl]at h;simp only[if_pos e40]at h;have hrl:r.length=s.size-1:=by rw[<-hr];simp
   by_cases hr0:r.length=0
   ·rw[if_pos hr0]at h;cases h
   rw[if_neg hr0]at h;have hm:Rf.cnt f true (s.extract 1 (s.size-1)).data.toList=some v:=by
    rw[q2J,List.drop_take,hr,show s.size-1-1=r.length-1 by omega];exact h
   have h2:1<=s.size-1:=by omega
   clear hl hc hr h e40 hd hle hr0 hrl;go_enter Tryz.func113,Tryz.ntmps113;go_wp2_with fail;refine(q2u s _ _ hs hsp).mono ?_;rintro e w1 ⟨rfl,hW⟩;go_wp2_with fail;refine(IH' _ v _ (q1v s _ _ hs) hm).mono ?_;rintro e w2 ⟨rfl,hW2⟩;go_wp2_with fail;go_ret;exact⟨rfl,hW.trans (hW2.mono hW.size)⟩
  ·have hb:((s[0].toNat:Int)==40)=false:=by rw[hc];exact q0J e40
   rw[hl]at h;simp only[if_neg e40,Option.some.injEq]at h;subst h;clear hl hc hr e40 hd hle;go_enter Tryz.func113,Tryz.ntmps113;go_wp2_with fail;refine(q2u s _ _ hs hsp).mono ?_;rintro e w1 ⟨rfl,hW⟩;go_wp2_with fail;go_ret;exact⟨rfl,hW⟩
 ·obtain⟨hk,hc,hr⟩:=q0m hd;rw[hd]at h;simp only at h;rcases hx:Rf.cnt f false (s.data.toList.take cut)with _|n
  ·rw[hx]at h;cases h
  rw[hx]at h;simp only at h;have hx':Rf.cnt f false (s.extract 0 cut).data.toList=some n:=by rw[y2o];exact hx
  have hul:(s.extract cut s.size).data.toList=u::us:=by rw[q3u,hd]
  have hus:0<(s.extract cut s.size).size:=by
   have:(s.extract cut s.size).data.toList.length=us.length+1:=by rw[hul];rfl
   simp at this;simp;omega
  have hu0:(s.extract cut s.size)[0]=u:=by
   have:=q6v (s.extract cut s.size) 0 hus;rw[this,hul];rfl
  have hsz:(s.extract cut s.size).size<=40:=q1v s _ _ hs;have Hsp:=hyd (q2u s cut w hs hsp);generalize s.extract cut s.size=ub at *;have hue:ub.toList.isEmpty=false:=by rw[ByteArray.toList_eq,hul];rfl
  by_cases e123:u=123
  ·rw[if_pos e123]at h;have hb:((ub[0].toNat:Int)==123)=true:=by rw[hu0,e123];rfl
   rcases hm:Rf.most (u::us)with _|m
   ·rw[hm]at h;cases h
   rw[hm]at h;simp only[Option.map_some,Option.some.injEq]at h;obtain⟨m0,m1,m2⟩:=Rf.most_bd hm;rw[<-hul]at hm;have HV:=hyd h;have nm:0<=n*m/\n*m<=9094947017729282:=by rw[h];exact hv
   clear h hu0 hul hx hd hc hr e123;go_enter Tryz.func113,Tryz.ntmps113;go_wp2_with fail;refine Hsp.out.mono ?_;rintro e w1 ⟨rfl,hW⟩;go_wp2_with fail;refine(IH _ n _ (q1v s _ _ hs) hx').mono ?_;rintro e w2 ⟨rfl,hW2⟩;go_wp2_with fail;refine(q9H ub m _ hsz hm).mono ?_;rintro e w3 ⟨l,rfl,hW3⟩;go_wp2_with fail;go_ret;have hW4:=hW.trans (hW2.mono hW.size);exact⟨q0l HV.out,hW4.trans (hW3.mono hW4.size)⟩
  ·rw[if_neg e123]at h;have hb:((ub[0].toNat:Int)==123)=false:=by rw[hu0];exact q0J e123
   have HV:=hyd (Option.some.inj h);clear h hu0 hul hx hd hc hr e123;go_enter Tryz.func113,Tryz.ntmps113;go_wp2_with fail;refine Hsp.out.mono ?_;rintro e w1 ⟨rfl,hW⟩;go_wp2_with fail;refine(IH _ n _ (q1v s _ _ hs) hx').mono ?_;rintro e w2 ⟨rfl,hW2⟩;go_wp2_with fail;go_ret;exact⟨q0l HV.out,hW.trans (hW2.mono hW.size)⟩
theorem q6D:∀f:Nat,PlacesAt f/\SizeAt f:=by
 intro f
 induction f using Nat.strongRecOn with
 |ind f ih=>exact⟨q7U f (fun g hg=>(ih g hg).2),q9W f (fun g hg=>(ih g hg).2) (fun g hg=>(ih g hg).1)⟩
theorem q4i (s:ByteArray) (e a:Int) (w:World) (hm:s.size<=maxLen) (h:Rf.WrongIs s.data.toList e a):
  Calls Tryz.prog 50 #[.string s] w fun e' w'=>e'=.returned (.tuple #[.int .i64 e,.int .i64 a])/\Below w.heap.size w w':=by
 unfold maxLen at hm;rcases h with ⟨hl,rfl,rfl⟩|⟨hl,h⟩
 ·have hl':40<s.size:=by simpa using hl
  clear hl;go_enter Tryz.func50,Tryz.ntmps50;go_wp2_with fail;go_ret2;exact⟨rfl,Below.refl _ _⟩
 have hs:s.size<=40:=by simpa using hl
 clear hl hm;rcases h with ⟨hf,rfl,rfl⟩|⟨hf,h⟩
 ·go_enter Tryz.func50,Tryz.ntmps50;go_wp2_with fail;refine(q4g s _ hs).mono ?_;rintro e w1 ⟨rfl,hW1⟩;go_wp2_with fail;go_ret2;exact⟨rfl,hW1⟩
 rcases h with ⟨hd,rfl,rfl⟩|⟨hd,f,v,hv,h⟩
 ·go_enter Tryz.func50,Tryz.ntmps50;go_wp2_with fail;refine(q4g s _ hs).mono ?_;rintro e w1 ⟨rfl,hW1⟩;go_wp2_with fail;refine(q6B s _ hs).mono ?_;rintro e w2 ⟨rfl,hW2⟩;go_wp2_with fail;go_ret2;exact⟨rfl,hW1.trans (hW2.mono hW1.size)⟩
 rcases h with ⟨hv0,rfl,rfl⟩|⟨hv0,g,u,hu,h⟩
 ·go_enter Tryz.func50,Tryz.ntmps50;go_wp2_with fail;refine(q4g s _ hs).mono ?_;rintro e w1 ⟨rfl,hW1⟩;go_wp2_with fail;refine(q6B s _ hs).mono ?_;rintro e w2 ⟨rfl,hW2⟩;have hW:=hW1.trans (hW2.mono hW1.size);go_wp2_with fail;refine(q6K s _ f _ hs hv).mono ?_;rintro e w3 ⟨rfl,hW3⟩;clear hv;go_wp2_with fail;go_ret2;exact⟨rfl,hW.trans (hW3.mono hW.size)⟩
 rcases h with ⟨hu0,rfl,rfl⟩|⟨hu0,rfl,rfl⟩
 all_goals
  go_enter Tryz.func50,Tryz.ntmps50;go_wp2_with fail;refine(q4g s _ hs).mono ?_;rintro e w1 ⟨rfl,hW1⟩;go_wp2_with fail;refine(q6B s _ hs).mono ?_;rintro e w2 ⟨rfl,hW2⟩;have hW:=hW1.trans (hW2.mono hW1.size);go_wp2_with fail;refine(q6K s _ f _ hs hv).mono ?_;rintro e w3 ⟨rfl,hW3⟩;clear hv;have hX:=hW.trans (hW3.mono hW.size);go_wp2_with fail;refine(y0N s _ g _ hs hu).mono ?_;rintro e w4 ⟨rfl,hW4⟩;clear hu;go_wp2_with fail;go_ret2;exact⟨rfl,hX.trans (hW4.mono hX.size)⟩
theorem q6Z (ad:Option Addr) (len cap:Nat) (w:World) (hl:len<=maxLen) (h:len=0\/8<len):
  Calls Tryz.prog 26 #[.slice ad len cap] w fun e' w'=>e'=.returned (.tuple #[.int .i64 1,.int .i64 0,.int .i64 0])/\w'=w:=by
 unfold maxLen at hl;rcases h with h|h
 ·subst h;go_enter Tryz.func26,Tryz.ntmps26;go_wp2_with fail;go_ret3;exact⟨rfl,rfl⟩
 ·have h0:((len:Int)==0)=false:=by simp;omega
  go_enter Tryz.func26,Tryz.ntmps26;go_wp2_with fail;go_ret3;exact⟨rfl,rfl⟩
def SRow (b off:Nat) (f:Nat->ByteArray) (n:Nat) (w:World):Prop:=∀i,i<n->w.cell? ⟨b,off+i,none⟩=some (.string (f i))
variable {B b n off : Nat}{w w' : World}
theorem SRow.below {f:Nat->ByteArray} (h:SRow b off f n w) (hb:b<B) (hW:Below B w w'):SRow b off f n w':=fun i hi=>by
 rw[hW.cell (p:=⟨b,off+i,none⟩) hb];exact h i hi
def CheckIs (f:Nat->ByteArray) (n:Nat) (e r a:Int):Prop:=
 (∃i:Nat,i<n/\(∀j,j<i->Rf.WrongIs (f j).data.toList 0 0)/\Rf.WrongIs (f i).data.toList e a/\e≠0/\r=i) \/
 ((∀j,j<n->Rf.WrongIs (f j).data.toList 0 0/\(f j).size<=40)/\r=0/\a=0 /\
  ∃vs:Nat->Int,(∀j,j<n->∃g,Rf.cnt g true (f j).data.toList=some (vs j))/\e=if 96<sumTo vs n then 7 else 0)
theorem q4w (b off cap n:Nat) (f:Nat->ByteArray) (e r a:Int) (w:World) (h1:1<=n) (h8:n<=8) (hb:b<w.heap.size) (hm:∀i,i<n->(f i).size<=maxLen) (hr:SRow b off f n w) (h:CheckIs f n e r a):
  Calls Tryz.prog 26 #[.slice (some ⟨b,off,none⟩) n cap] w fun e' w'=>e'=.returned (.tuple #[.int .i64 e,.int .i64 r,.int .i64 a])/\Below w.heap.size w w':=by
 have hl0:((n:Int)==0)=false:=beq_eq_false_iff_ne.2 (by omega);have Hm:=hyd hm;have Hr:=hyd hr;clear hm hr;rcases h with ⟨i0,hi0,hok,hwr,he,rfl⟩|⟨hok,rfl,rfl,vs,hvs,rfl⟩
 ·have Hok:=hyd hok;have Hwr:=hyd hwr;have hne:(e==0)=false:=by simpa using he
  clear hok hwr he;go_enter Tryz.func26,Tryz.ntmps26;go_wp2_with fail
  go_loopw [5] (fun i w'=>∃k:Nat,k<=i0/\i=.int .i64 k/\Below w.heap.size w w') (fun i _=>9-(intOf i).toNat)
  case atStart=>exact⟨0,by omega,rfl,Below.refl _ _⟩
  case round=>
   obtain⟨k,hk,rfl,hW⟩:=hrel;have hcell:=Hr.out.below hb hW k (by omega);by_cases hki:k=i0
   ·subst hki;go_wp2_with fail;refine(q4i (f k) e a _ (Hm.out k hi0) Hwr.out).mono ?_;rintro e' w1 ⟨rfl,hW1⟩;go_wp2_with fail;go_ret3;exact⟨rfl,hW.trans (hW1.mono hW.size)⟩
   ·have hk':k<i0:=by omega
    clear hki;go_wp2_with fail;refine(q4i (f k) 0 0 _ (Hm.out k (by omega)) (Hok.out k hk')).mono ?_;rintro e' w1 ⟨rfl,hW1⟩;go_wp2_with fail;go_roundw
    case rel=>exact⟨k+1,by omega,by go_num,hW.trans (hW1.mono hW.size)⟩
    case measure=>simp[intOf];omega
 ·have Hok:=hyd hok;have Hvs:=hyd hvs;have hbd:∀k,k<=n->0<=sumTo vs k/\sumTo vs k<=9094947017729282*k:=by
   intro k
   induction k with
   |zero=>intro _;simp[sumTo]
   |succ k ih=>
    intro hk;have:=ih (by omega);obtain⟨g,hg⟩:=hvs k (by omega);have h2:=Rf.cnt_small hg (by have:=(hok k (by omega)).2;simpa using this);simp only[sumTo];omega
  have Hbd:=hyd hbd;clear hok hvs hbd;go_enter Tryz.func26,Tryz.ntmps26;go_wp2_with fail
  go_loopw [5] (fun i w'=>∃k:Nat,k<=n/\i=.int .i64 k/\Below w.heap.size w w') (fun i _=>9-(intOf i).toNat)
  case atStart=>exact⟨0,by omega,rfl,Below.refl _ _⟩
  case round=>
   obtain⟨k,hk,rfl,hW⟩:=hrel;by_cases hkn:k<n
   ·have hcell:=Hr.out.below hb hW k hkn;go_wp2_with fail;refine(q4i (f k) 0 0 _ (Hm.out k hkn) (Hok.out k hkn).1).mono ?_;rintro e' w1 ⟨rfl,hW1⟩;go_wp2_with fail;go_roundw
    case rel=>exact⟨k+1,by omega,by go_num,hW.trans (hW1.mono hW.size)⟩
    case measure=>simp[intOf];omega
   ·go_wp2_with fail
    go_loopw [8,9] (fun x i w'=>∃k:Nat,k<=n/\i=.int .i64 k/\x=.int .i64 (sumTo vs k)/\Below w.heap.size w w') (fun _ i _=>9-(intOf i).toNat)
    case atStart=>exact⟨0,by omega,rfl,rfl,hW⟩
    case round=>
     obtain⟨k2,hk2,rfl,rfl,hW2⟩:=hrel;have hb0:=Hbd.out k2 hk2;by_cases hkn2:k2<n
     ·have hcell:=Hr.out.below hb hW2 k2 hkn2;have hb1:=Hbd.out (k2+1) hkn2;obtain⟨g,hg⟩:=Hvs.out k2 hkn2;have hg2:=Rf.cnt_small hg (by have:=(Hok.out k2 hkn2).2;simpa using this);have HS:Hid (sumTo vs (k2+1)=sumTo vs k2+vs k2):=rfl;clear hb1;go_wp2_with fail;refine((q6D g).1 (f k2) (vs k2) _ (Hok.out k2 hkn2).2 hg).mono ?_;rintro e' w1 ⟨rfl,hW1⟩;clear hg;go_wp2_with fail;go_roundw
      case rel=>exact⟨k2+1,by omega,by go_num,by rw[HS.out],hW2.trans (hW1.mono hW2.size)⟩
      case measure=>simp[intOf];omega
     ·have hkk:k2=n:=by omega
      subst hkk;by_cases h96:96<sumTo vs k2
      ·go_wp2_with fail;go_ret3;exact⟨by first|rfl|rw[if_pos (by omega)],hW2⟩
      ·go_wp2_with fail;go_ret3;exact⟨by first|rfl|rw[if_neg (by omega)],hW2⟩
end Go.Proofs.YtoaaklhpmhjhkaaGreat
