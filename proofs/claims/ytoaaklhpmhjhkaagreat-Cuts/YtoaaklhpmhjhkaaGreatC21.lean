import Derived.StillTailTactics
import Derived.Test.YtoaaklhpmhjhkaaGreatC20
set_option maxRecDepth 100000
set_option maxHeartbeats 4000000
set_option linter.all false
namespace Go.Proofs.YtoaaklhpmhjhkaaGreat
open Go.RowKit
open Bm
def WE(M:Mc):ByteArray:=⟨(XR (Xw M)).toArray⟩
variable {s:ByteArray}
def Mi.not{c:Int}(h:Mi s)(h':Tx s c):False:=by
 rcases h' with ⟨h1,_⟩|⟨_,h1,_⟩|⟨_,_,h1,_⟩|⟨_,_,_,h1,_⟩
 .have:=h.1;rw[h1]at this;cases this
 .exact h1 h.2.1
 .have:=h.2.2.1;rw[h1]at this;cases this
 exact h1 h.2.2.2
variable {U:Tb}
def J1{T:Tb}(h:Dl T U)(hS:PX T)(c:Int)(hc:0<=c):∀(u:Nat) (s:Int),-1<=s->s<T.nlb->Mf T u s c=Mf U u s c
 |0,_,_,_=>rfl
 |u+1,s,h1,h2=>by
  rw[Mf,Mf];by_cases e:s=-1
  .rw[dF e,dF e]
  rw[dG e,dG e];obtain⟨n,rfl⟩:=ZA (show 0<=s by omega);rw[ZE];have e3:=hS.e3;have e4:=hS.e4;have e6:=hS.e6;have b3:=hS.b3 n (by omega);have b4:=hS.b4 n (by omega);have f:U.bs n=T.bs n:=(h.f3 n (by omega)).symm;have g:U.df n=T.df n:=(h.f4 n (by omega)).symm;rw[f,g,<-h.n5];obtain⟨k,d⟩:∃k:Nat,T.bs n+c=(k:Int):=⟨(T.bs n+c).toNat,by omega⟩;rw[d,ZE];by_cases b:k<T.nck
  .rw[<-h.f5 k b,<-h.f6 k (by omega)];by_cases a:(k:Int)<(T.nck:Int)/\T.ck k=(n:Int)
   .rw[dF a,dF a]
   rw[dG a,dG a];exact J1 h hS c hc u _ (by omega) (by omega)
  rw[dG (λe=>b (by omega)),dG (λe=>b (by omega))];exact J1 h hS c hc u _ (by omega) (by omega)
def AA{T:Tb}(h:Dl T U)(hS:PX T)(s b:Int):QI T s b=QI U s b:=by
 unfold QI;rw[<-h.n2];by_cases e:s<0\/(T.nlb:Int)<=s\/b<0\/256<=b
 .rw[dF e,dF e]
 rw[dG e,dG e];have a:=hS.cl;have k1:U.cl b.toNat=T.cl b.toNat:=(h.f1 _ (by omega)).symm;rw[k1];exact J1 h hS _ (a.2 _ (by omega)).1 97 s (by omega) (by omega)
def Ae{T:Tb}(h:Dl T U)(s:Int):II T s=II U s:=by
 unfold II;rw[<-h.n2];by_cases e:s<0\/(T.nlb:Int)<=s
 .rw[dF e,dF e]
 rw[dG e,dG e,h.f2 _ (by omega)]
def Mi.small(h:Mi s):s.size<=140737488355328:=by
 have a:=h.2.1;have h2:=a.2.2;have b:=Uh s 6 1 (by omega);have c:=Uh s 7 2 (by omega);have d:=Uh s 9 1 (by omega);have e:(X9 s 6 1).toNat*((X9 s 9 1).toNat+2)<=256*258:=dP (by omega) (by omega);omega
structure yt (M:Mc):Prop where
 good:Mi (WE M)
 snd:PX (XM (WE M))
 teq:Dl (Xw M) (XM (WE M))
variable {M:Mc}
def M2(h:WH M):yt M:=by
 obtain⟨h1,h2⟩:=round (Xw M) (Sf h);exact⟨h1,h1.2.2.2.1,h2⟩
def Ee(h:WH M)(s b:Nat)(hs:s<M.nlb)(hb:b<256):QI (XM (WE M)) s b=M.nx (s*M.k+(M.cl b).toNat):=by
 rw[<-AA (M2 h).teq (Sf h),Ej h s b hs hb]
def Ed(h:WH M)(s:Nat)(hs:s<M.nlb):II (XM (WE M)) s=M.lb s:=by
 rw[<-Ae (M2 h).teq];unfold II;rw[dG (by have:(Xw M).nlb=M.nlb:=rfl;omega),ZE];rfl
