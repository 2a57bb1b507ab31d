import Derived.Test.YtoaaklhpmhjhkabGreatC34
import Derived.Test.YtoaaklhpmhjhkabGreatC35
set_option maxRecDepth 100000
set_option maxHeartbeats 4000000
set_option linter.all false
namespace Go.Proofs.YtoaaklhpmhjhkabGreat
open Go.RowKit
open Bm
def KI (n:Nat) (c l x:List Int):Mc:=⟨n,fun i=>c.getD i 0,c.length,fun i=>l.getD i 0,l.length,fun i=>x.getD i 0,x.length⟩
variable {l:List (N_)}{fs:List Nat}{K b n:Nat}{f kf:Nat->Int}{cl cm:Nat->Nat}{rw:Nat->Nat->Int}
theorem LI:∀ {S s c:Nat},s<S->c<fs.length->(WM rw fs S).getD (s*fs.length+c) 0=rw s (fs.getD c 0)
 |S+1,s,c,hs,hc=>by
  rw[Sv,List.getD_eq_getElem?_getD];by_cases h:s<S
  ·have h1:s*fs.length+c<(WM rw fs S).length:=by
    rw[UN];have:(s+1)*fs.length<=S*fs.length:=Nat.mul_le_mul_right _ h;rw[Nat.add_mul]at this;omega
   rw[List.getElem?_append_left h1,<-List.getD_eq_getElem?_getD];exact LI h hc
  ·have e:s=S:=by omega
   subst e;rw[List.getElem?_append_right (by rw[UN];omega),UN,show s*fs.length+c-s*fs.length=c by omega];simp[Te,hc]
structure Fi (es:Nat->Rx) (n:Nat) (A:Aut) (c l x:List Int):Prop where
 good:A.Good
 bfs:Bfs A
 kp:0<A.K
 snd:Xq (KI n c l x)
 k:(KI n c l x).k=cnt (Cl (YT A (alB A)) (cnt (alB A) A.N)) A.K
 nl:l.length=cnt (alB A) A.N
 to:∀s d,s<l.length->d<(KI n c l x).k->x.getD (s*(KI n c l x).k+d) 0=YT A (alB A) s ((reps (Cl (YT A (alB A)) (cnt (alB A) A.N)) A.K).getD d 0)
 lb:∀s,s<l.length->l.getD s 0=A.vd ((reps (alB A) A.N).getD s 0)
variable {A:Aut}{es:Nat->Rx}
theorem Gj {t:List Int} (h1:1<=n) (h8:n<=8) (hP:YV es n<=96) (hfu:∀k,k<n->(es k).Full) (hE:VP (VQ es n) (XQ es n) (Vh es n) l.length 0 l t) (hA:A=Yf l t (Vh es n).length) (h96:¬96<cnt (alB A) A.N) (hk:∀b,b<256->kf b=Gh es n b):
  Fi es n A (Xy (Cl (YT A (alB A)) (cnt (alB A) A.N)) kf 256) (Xu A (alB A) (cnt (alB A) A.N)) (WM (YT A (alB A)) (reps (Cl (YT A (alB A)) (cnt (alB A) A.N)) A.K) (cnt (alB A) A.N)):=by
 have hG:A.Good:=by rw[hA];exact Qv (QT es n h1 h8 hP hfu) (QS es n h8 hP) (Nu _ _) hE
 have hB:Bfs A:=by rw[hA];exact J5 (Ul _ _).1 hE
 have hKp:0<A.K:=by rw[hA];exact(Ul _ _).1
 have hAN:A.N=l.length:=by rw[hA];rfl
 have hKE:A.K=cnt (Kq (XW es n) (YV es n)) 256:=by rw[hA];rfl
 have hCE:=Qm (YT A (alB A)) (cnt (alB A) A.N) A.K;have hS:0<cnt (alB A) A.N:=Nat.lt_of_le_of_lt (Nat.zero_le _) (cnt_lt (Nat.le_zero.1 (least_le _ 0)) hB.pos);have hK:0<cnt (Cl (YT A (alB A)) (cnt (alB A) A.N)) A.K:=Nat.lt_of_le_of_lt (Nat.zero_le _) (cnt_lt (Nat.le_zero.1 (least_le _ 0)) hKp);have hrep:∀s,s<cnt (alB A) A.N->(reps (alB A) A.N).getD s 0<A.N:=fun s hs=>(Vs hs).1
 have hPu:Qq (Kq (XW es n) (YV es n)) (Cl (YT A (alB A)) (cnt (alB A) A.N)) (fun a b=>Cl (YT A (alB A)) (cnt (alB A) A.N) (idx (Kq (XW es n) (YV es n)) a) (idx (Kq (XW es n) (YV es n)) b)) A.K:=by
  have hlt:∀a,a<256->idx (Kq (XW es n) (YV es n)) a<A.K:=fun a ha=>by rw[hKE];exact idx_lt (TD _ _ _) ha
  exact⟨TD _ _ _,hKE,hCE,⟨fun a ha=>hCE.refl _ (hlt a ha),fun a b ha hb h=>hCE.symm _ _ (hlt a ha) (hlt b hb) h,fun a b c ha hb hc h k=>hCE.trans _ _ _ (hlt a ha) (hlt b hb) (hlt c hc) h k⟩,fun _ _ _ _=>rfl⟩
 have hcl:VH (fun i=>(Xy (Cl (YT A (alB A)) (cnt (alB A) A.N)) kf 256).getD i 0) 256=cnt (Cl (YT A (alB A)) (cnt (alB A) A.N)) A.K:=by
  have h2:Yz (fun i=>(Xy (Cl (YT A (alB A)) (cnt (alB A) A.N)) kf 256).getD i 0) 256=some _:=Pn hPu.g (fun b hb=>by
   have e1:(Xy (Cl (YT A (alB A)) (cnt (alB A) A.N)) kf 256).getD b 0=idxI (Cl (YT A (alB A)) (cnt (alB A) A.N)) (kf b).toNat:=by simp[Xy,List.getD_eq_getElem?_getD,hb]
   show(Xy (Cl (YT A (alB A)) (cnt (alB A) A.N)) kf 256).getD b 0=_;rw[e1,hk b hb];have e2:(Gh es n b).toNat=idx (Kq (XW es n) (YV es n)) b:=Int.toNat_natCast _;rw[e2];exact congrArg (fun z:Nat=>(z:Int)) (hPu.ix hb).symm) 256 (Nat.le_refl _)
  unfold VH;rw[if_pos rfl,h2];have h3:=congrArg List.length (hPu.reps_to 256 (Nat.le_refl _));rw[List.length_map,<-hPu.k]at h3;exact h3
 have l1:(Xy (Cl (YT A (alB A)) (cnt (alB A) A.N)) kf 256).length=256:=SS _ _ _;have l2:(Xu A (alB A) (cnt (alB A) A.N)).length=cnt (alB A) A.N:=SX _ _ _;have l3:(WM (YT A (alB A)) (reps (Cl (YT A (alB A)) (cnt (alB A) A.N)) A.K) (cnt (alB A) A.N)).length=cnt (alB A) A.N*cnt (Cl (YT A (alB A)) (cnt (alB A) A.N)) A.K:=by rw[UN];rfl
 have hlab:∀s,s<cnt (alB A) A.N->(Xu A (alB A) (cnt (alB A) A.N)).getD s 0=A.vd ((reps (alB A) A.N).getD s 0):=fun s hs=>by simp[Xu,List.getD_eq_getElem?_getD,hs]
 have hkk:(KI n (Xy (Cl (YT A (alB A)) (cnt (alB A) A.N)) kf 256) (Xu A (alB A) (cnt (alB A) A.N)) (WM (YT A (alB A)) (reps (Cl (YT A (alB A)) (cnt (alB A) A.N)) A.K) (cnt (alB A) A.N))).k=cnt (Cl (YT A (alB A)) (cnt (alB A) A.N)) A.K:=by
  show VH _ (Xy (Cl (YT A (alB A)) (cnt (alB A) A.N)) kf 256).length=_;rw[l1];exact hcl
 refine⟨hG,hB,hKp,⟨⟨?_,?_,?_,?_⟩,?_,?_⟩,hkk,l2,fun s d hs hd=>?_,fun s hs=>hlab s (by rw[<-l2];exact hs)⟩
 ·show(1:Int)<=n/\(n:Int)<=8;omega
 ·show 1<=(Xu A (alB A) (cnt (alB A) A.N)).length/\(Xu A (alB A) (cnt (alB A) A.N)).length<=96;rw[l2];omega
 ·show 0<VH (fun i=>(Xy (Cl (YT A (alB A)) (cnt (alB A) A.N)) kf 256).getD i 0) (Xy (Cl (YT A (alB A)) (cnt (alB A) A.N)) kf 256).length;rw[l1,hcl];exact hK
 ·show ∀i,i<(Xu A (alB A) (cnt (alB A) A.N)).length->-1<=(Xu A (alB A) (cnt (alB A) A.N)).getD i 0/\(Xu A (alB A) (cnt (alB A) A.N)).getD i 0<=(n:Int)-1;intro i hi;rw[l2]at hi;rw[hlab i hi];have hs:=Nat.lt_of_lt_of_le (hrep i hi) (Nat.le_of_eq hAN);have hm:=G8 es n hP hE _ (Nn (d:=R8) hs);have hv:A.vd ((reps (alB A) A.N).getD i 0)=Vf (fun q=>(l.getD ((reps (alB A) A.N).getD i 0) R8) (96+q)) 8 0:=by rw[hA];rfl
  have h2:=Rk (f:=fun q=>(l.getD ((reps (alB A) A.N).getD i 0) R8) (96+q)) n (8-n) 0 (fun q q1 q2=>by
   cases hq:(l.getD ((reps (alB A) A.N).getD i 0) R8) (96+q)
   ·rfl
   ·have:=hm (96+q) (by omega) hq;omega)
  rw[show n+(8-n)=8 by omega]at h2;rw[hv,h2];have:=MQ (fun q=>(l.getD ((reps (alB A) A.N).getD i 0) R8) (96+q)) n 0;omega
 ·show(WM (YT A (alB A)) (reps (Cl (YT A (alB A)) (cnt (alB A) A.N)) A.K) (cnt (alB A) A.N)).length=(Xu A (alB A) (cnt (alB A) A.N)).length*_;rw[hkk,l2,l3]
 ·show ∀i,i<(WM (YT A (alB A)) (reps (Cl (YT A (alB A)) (cnt (alB A) A.N)) A.K) (cnt (alB A) A.N)).length->-1<=(WM (YT A (alB A)) (reps (Cl (YT A (alB A)) (cnt (alB A) A.N)) A.K) (cnt (alB A) A.N)).getD i 0/\(WM (YT A (alB A)) (reps (Cl (YT A (alB A)) (cnt (alB A) A.N)) A.K) (cnt (alB A) A.N)).getD i 0<=((Xu A (alB A) (cnt (alB A) A.N)).length:Int)-1;intro i hi;obtain⟨s,j,hs,hj,e⟩:=Jq (Nn (d:=0) hi);rw[l2,e];rcases To hG hs (Vs (show j<cnt _ _ from hj)).1 with ⟨_,p2⟩|⟨m,m1,_,m3⟩
  ·rw[p2];omega
  ·rw[m3];have:=idx_lt (alB_eqv A A.N) m1;omega
 ·rw[hkk]at hd ⊢;exact LI (by rw[<-l2];exact hs) hd
def qM (M:Mc):Aut:=⟨M.nlb,M.k,fun s c=>M.nx (s*M.k+c),M.lb⟩
theorem FL {c l x:List Int} (h:Fi es n A c l x):Mq A (qM (KI n c l x)):=
 ⟨h.nl,h.k,fun s d hs hd=>h.to s d hs hd,fun s hs=>h.lb s hs⟩
structure Cz (cl cm:Nat->Nat) (K:Nat):Prop where
 z:cm 0=0
 le:∀b,b<256->cl b<=cm b
 s:∀b,b<256->cm (b+1)=if cl b=cm b then cm b+1 else cm b
 k:cm 256=K
theorem Cz.mono (h:Cz cl cm K) {a:Nat}:∀d,a+d<=256->cm a<=cm (a+d)
 |0,_=>Nat.le_refl _
 |d+1,hd=>by
  have h1:=h.mono d (a:=a) (by omega);have h2:=h.s (a+d) (by omega);rw[<-Nat.add_assoc,h2];split<;>omega
theorem Cz.upto {a:Nat} (h:Cz cl cm K) (hab:a<=b) (hb:b<=256):cm a<=cm b:=by
 have:=h.mono (b-a) (a:=a) (by omega)
 rwa [show a+(b-a)=b by omega]at this
theorem Cz.lt (h:Cz cl cm K) (hb:b<256):cl b<cm (b+1):=by
 have h1:=h.le b hb;rw[h.s b hb];split<;>omega
theorem Cz.ltK (h:Cz cl cm K) (hb:b<256):cl b<K:=by
 have:=h.lt hb;have:=h.upto (show b+1<=256 by omega) (Nat.le_refl _);rw[h.k]at this;omega
theorem Cz.sec (h:Cz cl cm K):∀j,j<=256->∀c,c<cm j->∃b,b<j/\cl b=c
 |0,_,c,hc=>by rw[h.z]at hc;omega
 |j+1,hj,c,hc=>by
  rw[h.s j (by omega)]at hc;split at hc
  ·rename_i e;rcases Nat.lt_or_ge c (cm j)with hl|hl
   ·obtain⟨b,h1,h2⟩:=h.sec j (by omega) c hl;exact⟨b,by omega,h2⟩
   ·exact⟨j,by omega,by omega⟩
  ·obtain⟨b,h1,h2⟩:=h.sec j (by omega) c hc;exact⟨b,by omega,h2⟩
theorem Na:∀j {m:Nat},Yz f j=some m->(∀b,b<j->∃q,Yz f b=some q/\0<=f b/\f b<=q/\Yz f (b+1)=some (if f b=q then q+1 else q))
 |0,m,_,b,hb=>by omega
 |j+1,m,h,b,hb=>by
  rcases hc:Yz f j with _|q
  ·rw[Yz,hc]at h;cases h
  ·by_cases e:b=j
   ·subst e;refine⟨q,hc,?_⟩;have h0:=h;rw[Yz,hc]at h;simp only at h;split at h
    ·cases h
    ·rename_i hn;refine⟨by omega,by omega,?_⟩;rw[h0,<-h];split<;>rfl
   ·exact Na j hc b (by omega)
variable {M:Mc}
theorem Gy (h:Xq M):Cz (fun b=>(M.cl b).toNat) (fun b=>(Yz M.cl b).getD 0) M.k/\∀b,b<256->0<=M.cl b:=by
 have hn:=h.ncl;have hp:=h.hd.2.2.1;unfold VH at hp;rw[if_pos hn]at hp;rcases hc:Yz M.cl 256 with _|m
 ·rw[hc]at hp;simp at hp
 have key:=Na 256 hc;refine⟨⟨rfl,fun b hb=>?_,fun b hb=>?_,?_⟩,fun b hb=>?_⟩
 ·obtain⟨q,k1,k2,k3,k4⟩:=key b hb;simp only[k1,Option.getD_some];omega
 ·obtain⟨q,k1,k2,k3,k4⟩:=key b hb;simp only[k1,k4,Option.getD_some];by_cases e:M.cl b=q
  ·rw[if_pos e,if_pos (by omega)]
  ·rw[if_neg e,if_neg (by omega)]
 ·show(Yz M.cl 256).getD 0=VH M.cl M.ncl;unfold VH;rw[if_pos hn]
 ·obtain⟨q,k1,k2,k3,k4⟩:=key b hb;exact k2
theorem JD (A:Aut) (h:0<A.N):(reps (alB A) A.N).getD 0 0=0:=by
 have h1:=Tl (alB_eqv A A.N) h;have h2:least (alB A) 0=0:=Nat.le_zero.1 (least_le _ 0);unfold idx at h1;rw[h2]at h1;exact h1
theorem Ie {ls:List (Nat->Bool)}{t:List Int}{l x:List Int} (hP:YV es n<=96) (hE:VP (VQ es n) (XQ es n) (Vh es n) ls.length 0 ls t) (hA:A=Yf ls t (Vh es n).length) (hk:∀b,b<256->kf b=Gh es n b)
  (h:Fi es n A (Xy (Cl (YT A (alB A)) (cnt (alB A) A.N)) kf 256) l x) (u:List Nat) (hu:∀b∈u,b<256):
  ext (qM (KI n (Xy (Cl (YT A (alB A)) (cnt (alB A) A.N)) kf 256) l x)) 0 (u.map fun b=>((KI n (Xy (Cl (YT A (alB A)) (cnt (alB A) A.N)) kf 256) l x).cl b).toNat)=GA es n u:=by
 have hQ:=FL h;have hN:=h.bfs.pos;have hcl:∀b,b<256->((KI n (Xy (Cl (YT A (alB A)) (cnt (alB A) A.N)) kf 256) l x).cl b).toNat=idx (Cl (YT A (alB A)) (cnt (alB A) A.N)) (idx (Kq (XW es n) (YV es n)) b):=fun b hb=>by
  show((Xy (Cl (YT A (alB A)) (cnt (alB A) A.N)) kf 256).getD b 0).toNat=_;unfold Xy;rw[List.getD_eq_getElem?_getD,List.getElem?_map,List.getElem?_eq_getElem (by simpa using hb)];simp only[List.getElem_range,Option.map_some,Option.getD_some,hk b hb,Gh,idxI,Int.toNat_natCast]
 have hKA:A.K=(Vh es n).length:=by rw[hA];rfl
 have hkd:Kd A (u.map (idx (Kq (XW es n) (YV es n)))):=fun k hk'=>by
  obtain⟨b,hb,rfl⟩:=List.mem_map.1 hk';rw[hKA];exact(Mo (XW es n) (YV es n) (hu b hb)).1
 have hmap:(u.map fun b=>((KI n (Xy (Cl (YT A (alB A)) (cnt (alB A) A.N)) kf 256) l x).cl b).toNat)=(u.map (idx (Kq (XW es n) (YV es n)))).map (idx (Cl (YT A (alB A)) (cnt (alB A) A.N))):=by
  rw[List.map_map];exact List.map_congr_left (fun b hb=>hcl b (hu b hb))
 have hKd:Kd (qM (KI n (Xy (Cl (YT A (alB A)) (cnt (alB A) A.N)) kf 256) l x)) ((u.map (idx (Kq (XW es n) (YV es n)))).map (idx (Cl (YT A (alB A)) (cnt (alB A) A.N)))):=fun k hk'=>by
  obtain⟨q,hq,rfl⟩:=List.mem_map.1 hk';rw[hQ.k];exact idx_lt (Qm _ _ _) (hkd q hq)
 rw[hmap];have h1:=IY h.good hQ _ 0 hKd (by rw[hQ.n];exact Nat.lt_of_le_of_lt (Nat.zero_le _) (cnt_lt (Nat.le_zero.1 (least_le _ 0)) hN));have h2:=Kr h.good (u.map (idx (Kq (XW es n) (YV es n)))) 0 hkd (by omega);have h3:=IX hP hE u hu;rw[<-hA]at h3;rw[JD A hN]at h1;rw[<-h3,h2];refine h1.trans ?_;rw[List.map_map (g:=fk A (alB A))];rfl
end Go.Proofs.YtoaaklhpmhjhkabGreat
