import Derived.StillTailTactics
import Derived.Test.YtoaaklhpmhjhkabGreatC40
set_option maxRecDepth 100000
set_option maxHeartbeats 4000000
set_option linter.all false
namespace Go.Proofs.YtoaaklhpmhjhkabGreat
open Go.RowKit
open Bm
def XE (M:Mc):ByteArray:=⟨(Yb (XU M)).toArray⟩
variable {s:ByteArray}
theorem RO.not {c:Int} (h:RO s) (h':Vi s c):False:=by
 rcases h' with ⟨h1,_⟩|⟨_,h1,_⟩|⟨_,_,h1,_⟩|⟨_,_,_,h1,_⟩
 ·have:=h.1;rw[h1]at this;cases this
 ·exact h1 h.2.1
 ·have:=h.2.2.1;rw[h1]at this;cases this
 ·exact h1 h.2.2.2
def GO (s:ByteArray) (w:World) (e:Ending) (w':World):Prop:=
 ∃(b:Nat) (A:T8),e=.returned (.tuple #[.pointer (some ⟨b,0,none⟩),.bool true])/\w.heap.size<=b/\Xa b (Yc s) A w'/\GQ w.heap.size (Yc s) A w'/\Below w.heap.size w w'
theorem KF (s:ByteArray) (w:World) (hs:s.size<=140737488355328) (hG:RO s):Calls Tryz.prog 7 #[.string s] w (GO s w):=by
 have HD:=hyd (Jn s w (by omega));have HG:=hyd hG;clear hG;go_enter Tryz.func7,Tryz.ntmps7;go_wp2_with fail;refine HD.out.mono ?_;rintro e w1 ⟨hB1,h⟩;rcases h with ⟨c,hc,_⟩|⟨_,b,A,rfl,hb,hA,hF⟩
 ·exact absurd hc HG.out.not
 have HA:=hyd hA;have HF:=hyd hF;clear hA hF;go_wp2_with fail;go_ret2;exact⟨b,A,by first|rfl|trivial,hb,HA.out,HF.out,hB1⟩
variable {T U:Tb}
theorem OI (h:JY T U) (hS:SG T) (c:Int) (hc:0<=c):∀(u:Nat) (s:Int),-1<=s->s<T.nlb->Qk T u s c=Qk U u s c
 |0,_,_,_=>rfl
 |u+1,s,h1,h2=>by
  rw[Qk,Qk];by_cases e:s=-1
  ·rw[if_pos e,if_pos e]
  ·rw[if_neg e,if_neg e];obtain⟨n,rfl⟩:=Int.eq_ofNat_of_zero_le (show 0<=s by omega);rw[Int.toNat_natCast];have e3:=hS.e3;have e4:=hS.e4;have e6:=hS.e6;have b3:=hS.b3 n (by omega);have b4:=hS.b4 n (by omega);have k3:U.bs n=T.bs n:=(h.f3 n (by omega)).symm;have k4:U.df n=T.df n:=(h.f4 n (by omega)).symm;rw[k3,k4,<-h.n5];obtain⟨k,hk⟩:∃k:Nat,T.bs n+c=(k:Int):=⟨(T.bs n+c).toNat,by omega⟩;rw[hk,Int.toNat_natCast];by_cases hkk:k<T.nck
   ·rw[<-h.f5 k hkk,<-h.f6 k (by omega)];by_cases hcnd:(k:Int)<(T.nck:Int)/\T.ck k=(n:Int)
    ·rw[if_pos hcnd,if_pos hcnd]
    ·rw[if_neg hcnd,if_neg hcnd];exact OI h hS c hc u _ (by omega) (by omega)
   ·rw[if_neg (fun e=>hkk (by omega)),if_neg (fun e=>hkk (by omega))];exact OI h hS c hc u _ (by omega) (by omega)
theorem Im (h:JY T U) (hS:SG T) (s b:Int):Tr T s b=Tr U s b:=by
 unfold Tr;rw[<-h.n2];by_cases e:s<0\/(T.nlb:Int)<=s\/b<0\/256<=b
 ·rw[if_pos e,if_pos e]
 ·rw[if_neg e,if_neg e];have hcl:=hS.cl;have k1:U.cl b.toNat=T.cl b.toNat:=(h.f1 _ (by omega)).symm;rw[k1];exact OI h hS _ (hcl.2 _ (by omega)).1 97 s (by omega) (by omega)
theorem Ia (h:JY T U) (s:Int):Nx T s=Nx U s:=by
 unfold Nx;rw[<-h.n2];by_cases e:s<0\/(T.nlb:Int)<=s
 ·rw[if_pos e,if_pos e]
 ·rw[if_neg e,if_neg e,h.f2 _ (by omega)]
theorem RO.small (h:RO s):s.size<=140737488355328:=by
 have hF:=h.2.1;have h2:=hF.2.2;have b6:=Vy s 6 1 (by omega);have b7:=Vy s 7 2 (by omega);have b9:=Vy s 9 1 (by omega);have p1:(Yo s 6 1).toNat*((Yo s 9 1).toNat+2)<=256*258:=Nat.mul_le_mul (by omega) (by omega);omega
structure FV (M:Mc):Prop where
 good:RO (XE M)
 snd:SG (Yc (XE M))
 teq:JY (XU M) (Yc (XE M))
variable {M:Mc}
theorem UK (h:Xq M):FV M:=by
 obtain⟨h1,h2⟩:=round (XU M) (Uq h);exact⟨h1,h1.2.2.2.1,h2⟩
theorem KK (h:Xq M) (s b:Nat) (hs:s<M.nlb) (hb:b<256):Tr (Yc (XE M)) s b=M.nx (s*M.k+(M.cl b).toNat):=by
 rw[<-Im (UK h).teq (Uq h),KQ h s b hs hb]
theorem KJ (h:Xq M) (s:Nat) (hs:s<M.nlb):Nx (Yc (XE M)) s=M.lb s:=by
 rw[<-Ia (UK h).teq];unfold Nx;rw[if_neg (by have:(XU M).nlb=M.nlb:=rfl;omega),Int.toNat_natCast];rfl
end Go.Proofs.YtoaaklhpmhjhkabGreat
