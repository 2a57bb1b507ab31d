import Derived.Test.YtoaaklhpmhjhkabC31
import Derived.Test.YtoaaklhpmhjhkabC34
set_option maxRecDepth 100000
set_option maxHeartbeats 4000000
set_option linter.all false
namespace Go.Proofs.Ytoaaklhpmhjhkab
open Go.RowKit
open Bm
def Xn (n:Nat) (c l x:List Int):Mc:=⟨n,fun i=>c.getD i 0,c.length,fun i=>l.getD i 0,l.length,fun i=>x.getD i 0,x.length⟩
variable {l : List (Nat → Bool)}{fs : List Nat}{K b n : Nat}{rw : Nat → Nat → Int}
theorem Ms:∀ {S s c:Nat},s<S->c<fs.length->(WY rw fs S).getD (s*fs.length+c) 0=rw s (fs.getD c 0)
 |S+1,s,c,hs,hc=>by
  rw[Td,List.getD_eq_getElem?_getD];by_cases h:s<S
  ·have h1:s*fs.length+c<(WY rw fs S).length:=by
    rw[UZ];have:(s+1)*fs.length<=S*fs.length:=Nat.mul_le_mul_right _ h;rw[Nat.add_mul]at this;omega
   rw[List.getElem?_append_left h1,<-List.getD_eq_getElem?_getD];exact Ms h hc
  ·have e:s=S:=by omega
   subst e;rw[List.getElem?_append_right (by rw[UZ];omega),UZ,show s*fs.length+c-s*fs.length=c by omega];simp[TK,hc]
structure GR (es:Nat->Rx) (n:Nat) (A:Aut) (c l x:List Int):Prop where
 good:A.Good
 bfs:Bfs A
 kp:0<A.K
 snd:Wc (Xn n c l x)
 k:(Xn n c l x).k=cnt (Cl (YU A (alB A)) (cnt (alB A) A.N)) A.K
 nl:l.length=cnt (alB A) A.N
 to:∀s d,s<l.length->d<(Xn n c l x).k->x.getD (s*(Xn n c l x).k+d) 0=YU A (alB A) s ((reps (Cl (YU A (alB A)) (cnt (alB A) A.N)) A.K).getD d 0)
 lb:∀s,s<l.length->l.getD s 0=A.vd ((reps (alB A) A.N).getD s 0)
variable {A : Aut}{es : Nat → Rx}
theorem G9 {t:List Int}{kf:Nat->Int} (h1:1<=n) (h8:n<=8) (hP:YR es n<=96) (hfu:∀k,k<n->(es k).Full) (hE:Vz (Us es n) (Xx es n) (TV es n) l.length 0 l t) (hA:A=Yb l t (TV es n).length) (h96:¬96<cnt (alB A) A.N) (hk:∀b,b<256->kf b=If es n b):
  GR es n A (Xy (Cl (YU A (alB A)) (cnt (alB A) A.N)) kf 256) (Xp A (alB A) (cnt (alB A) A.N)) (WY (YU A (alB A)) (reps (Cl (YU A (alB A)) (cnt (alB A) A.N)) A.K) (cnt (alB A) A.N)):=by
 have hG:A.Good:=by rw[hA];exact QW (OA es n h1 h8 hP hfu) (Oy es n h8 hP) (Oe _ _) hE
 have hB:Bfs A:=by rw[hA];exact K0 (UD _ _).1 hE
 have hKp:0<A.K:=by rw[hA];exact(UD _ _).1
 have hAN:A.N=l.length:=by rw[hA];rfl
 have hKE:A.K=cnt (Kq (XN es n) (YR es n)) 256:=by rw[hA];rfl
 have hCE:=UN (YU A (alB A)) (cnt (alB A) A.N) A.K;have hS:0<cnt (alB A) A.N:=Nat.lt_of_le_of_lt (Nat.zero_le _) (cnt_lt (Nat.le_zero.1 (least_le _ 0)) hB.pos);have hK:0<cnt (Cl (YU A (alB A)) (cnt (alB A) A.N)) A.K:=Nat.lt_of_le_of_lt (Nat.zero_le _) (cnt_lt (Nat.le_zero.1 (least_le _ 0)) hKp);have hrep:∀s,s<cnt (alB A) A.N->(reps (alB A) A.N).getD s 0<A.N:=fun s hs=>(Yz hs).1
 have hPu:QS (Kq (XN es n) (YR es n)) (Cl (YU A (alB A)) (cnt (alB A) A.N)) (fun a b=>Cl (YU A (alB A)) (cnt (alB A) A.N) (idx (Kq (XN es n) (YR es n)) a) (idx (Kq (XN es n) (YR es n)) b)) A.K:=by
  have hlt:∀a,a<256->idx (Kq (XN es n) (YR es n)) a<A.K:=fun a ha=>by rw[hKE];exact idx_lt (TW _ _ _) ha
  exact⟨TW _ _ _,hKE,hCE,⟨fun a ha=>hCE.refl _ (hlt a ha),fun a b ha hb h=>hCE.symm _ _ (hlt a ha) (hlt b hb) h,fun a b c ha hb hc h k=>hCE.trans _ _ _ (hlt a ha) (hlt b hb) (hlt c hc) h k⟩,fun _ _ _ _=>rfl⟩
 have hcl:Vo (fun i=>(Xy (Cl (YU A (alB A)) (cnt (alB A) A.N)) kf 256).getD i 0) 256=cnt (Cl (YU A (alB A)) (cnt (alB A) A.N)) A.K:=by
  have h2:Yq (fun i=>(Xy (Cl (YU A (alB A)) (cnt (alB A) A.N)) kf 256).getD i 0) 256=some _:=Qb hPu.g (fun b hb=>by
   have e1:(Xy (Cl (YU A (alB A)) (cnt (alB A) A.N)) kf 256).getD b 0=idxI (Cl (YU A (alB A)) (cnt (alB A) A.N)) (kf b).toNat:=by simp[Xy,List.getD_eq_getElem?_getD,hb]
   show(Xy (Cl (YU A (alB A)) (cnt (alB A) A.N)) kf 256).getD b 0=_;rw[e1,hk b hb];have e2:(If es n b).toNat=idx (Kq (XN es n) (YR es n)) b:=Int.toNat_natCast _;rw[e2];exact congrArg (fun z:Nat=>(z:Int)) (hPu.ix hb).symm) 256 (Nat.le_refl _)
  unfold Vo;rw[if_pos rfl,h2];have h3:=congrArg List.length (hPu.reps_to 256 (Nat.le_refl _));rw[List.length_map,<-hPu.k]at h3;exact h3
 have l1:(Xy (Cl (YU A (alB A)) (cnt (alB A) A.N)) kf 256).length=256:=Ty _ _ _;have l2:(Xp A (alB A) (cnt (alB A) A.N)).length=cnt (alB A) A.N:=TH _ _ _;have l3:(WY (YU A (alB A)) (reps (Cl (YU A (alB A)) (cnt (alB A) A.N)) A.K) (cnt (alB A) A.N)).length=cnt (alB A) A.N*cnt (Cl (YU A (alB A)) (cnt (alB A) A.N)) A.K:=by rw[UZ];rfl
 have hlab:∀s,s<cnt (alB A) A.N->(Xp A (alB A) (cnt (alB A) A.N)).getD s 0=A.vd ((reps (alB A) A.N).getD s 0):=fun s hs=>by simp[Xp,List.getD_eq_getElem?_getD,hs]
 have hkk:(Xn n (Xy (Cl (YU A (alB A)) (cnt (alB A) A.N)) kf 256) (Xp A (alB A) (cnt (alB A) A.N)) (WY (YU A (alB A)) (reps (Cl (YU A (alB A)) (cnt (alB A) A.N)) A.K) (cnt (alB A) A.N))).k=cnt (Cl (YU A (alB A)) (cnt (alB A) A.N)) A.K:=by
  show Vo _ (Xy (Cl (YU A (alB A)) (cnt (alB A) A.N)) kf 256).length=_;rw[l1];exact hcl
 refine⟨hG,hB,hKp,⟨⟨?_,?_,?_,?_⟩,?_,?_⟩,hkk,l2,fun s d hs hd=>?_,fun s hs=>hlab s (by rw[<-l2];exact hs)⟩
 ·show(1:Int)<=n/\(n:Int)<=8;omega
 ·show 1<=(Xp A (alB A) (cnt (alB A) A.N)).length/\(Xp A (alB A) (cnt (alB A) A.N)).length<=96;rw[l2];omega
 ·show 0<Vo (fun i=>(Xy (Cl (YU A (alB A)) (cnt (alB A) A.N)) kf 256).getD i 0) (Xy (Cl (YU A (alB A)) (cnt (alB A) A.N)) kf 256).length;rw[l1,hcl];exact hK
 ·show ∀i,i<(Xp A (alB A) (cnt (alB A) A.N)).length->-1<=(Xp A (alB A) (cnt (alB A) A.N)).getD i 0/\(Xp A (alB A) (cnt (alB A) A.N)).getD i 0<=(n:Int)-1;intro i hi;rw[l2]at hi;rw[hlab i hi];have hs:=Nat.lt_of_lt_of_le (hrep i hi) (Nat.le_of_eq hAN);have hm:=Iz es n hP hE _ (Oa (d:=Sl) hs);have hv:A.vd ((reps (alB A) A.N).getD i 0)=Vb (fun q=>(l.getD ((reps (alB A) A.N).getD i 0) Sl) (96+q)) 8 0:=by rw[hA];rfl
  have h2:=RM (f:=fun q=>(l.getD ((reps (alB A) A.N).getD i 0) Sl) (96+q)) n (8-n) 0 (fun q q1 q2=>by
   cases hq:(l.getD ((reps (alB A) A.N).getD i 0) Sl) (96+q)
   ·rfl
   ·have:=hm (96+q) (by omega) hq;omega)
  rw[show n+(8-n)=8 by omega]at h2;rw[hv,h2];have:=Nw (fun q=>(l.getD ((reps (alB A) A.N).getD i 0) Sl) (96+q)) n 0;omega
 ·show(WY (YU A (alB A)) (reps (Cl (YU A (alB A)) (cnt (alB A) A.N)) A.K) (cnt (alB A) A.N)).length=(Xp A (alB A) (cnt (alB A) A.N)).length*_;rw[hkk,l2,l3]
 ·show ∀i,i<(WY (YU A (alB A)) (reps (Cl (YU A (alB A)) (cnt (alB A) A.N)) A.K) (cnt (alB A) A.N)).length->-1<=(WY (YU A (alB A)) (reps (Cl (YU A (alB A)) (cnt (alB A) A.N)) A.K) (cnt (alB A) A.N)).getD i 0/\(WY (YU A (alB A)) (reps (Cl (YU A (alB A)) (cnt (alB A) A.N)) A.K) (cnt (alB A) A.N)).getD i 0<=((Xp A (alB A) (cnt (alB A) A.N)).length:Int)-1;intro i hi;obtain⟨s,j,hs,hj,e⟩:=JX (Oa (d:=0) hi);rw[l2,e];rcases V7 hG hs (Yz (show j<cnt _ _ from hj)).1 with ⟨_,p2⟩|⟨m,m1,_,m3⟩
  ·rw[p2];omega
  ·rw[m3];have:=idx_lt (alB_eqv A A.N) m1;omega
 ·rw[hkk]at hd ⊢;exact Ms (by rw[<-l2];exact hs) hd
def qM (M:Mc):Aut:=⟨M.nlb,M.k,fun s c=>M.nx (s*M.k+c),M.lb⟩
theorem JV {c l x:List Int} (h:GR es n A c l x):Mq A (qM (Xn n c l x)):=
 ⟨h.nl,h.k,fun s d hs hd=>h.to s d hs hd,fun s hs=>h.lb s hs⟩
def Jc (Q:Aut) (cl:Nat->Nat):Aut:=⟨Q.N,256,fun s b=>Q.to s (cl b),Q.vd⟩
structure Cz (cl cm:Nat->Nat) (K:Nat):Prop where
 z:cm 0=0
 le:∀b,b<256->cl b<=cm b
 s:∀b,b<256->cm (b+1)=if cl b=cm b then cm b+1 else cm b
 k:cm 256=K
theorem Cz.mono {cl cm:Nat->Nat} (h:Cz cl cm K) {a:Nat}:∀d,a+d<=256->cm a<=cm (a+d)
 |0,_=>Nat.le_refl _
 |d+1,hd=>by
  have h1:=h.mono d (a:=a) (by omega);have h2:=h.s (a+d) (by omega);rw[<-Nat.add_assoc,h2];split<;>omega
theorem Cz.upto {cl cm:Nat->Nat}{a:Nat} (h:Cz cl cm K) (hab:a<=b) (hb:b<=256):cm a<=cm b:=by
 have:=h.mono (b-a) (a:=a) (by omega)
 rwa [show a+(b-a)=b by omega]at this
theorem Cz.lt {cl cm:Nat->Nat} (h:Cz cl cm K) (hb:b<256):cl b<cm (b+1):=by
 have h1:=h.le b hb;rw[h.s b hb];split<;>omega
theorem Cz.ltK {cl cm:Nat->Nat} (h:Cz cl cm K) (hb:b<256):cl b<K:=by
 have:=h.lt hb;have:=h.upto (show b+1<=256 by omega) (Nat.le_refl _);rw[h.k]at this;omega
theorem Cz.sec {cl cm:Nat->Nat} (h:Cz cl cm K):∀j,j<=256->∀c,c<cm j->∃b,b<j/\cl b=c
 |0,_,c,hc=>by rw[h.z]at hc;omega
 |j+1,hj,c,hc=>by
  rw[h.s j (by omega)]at hc;split at hc
  ·rename_i e;rcases Nat.lt_or_ge c (cm j)with hl|hl
   ·obtain⟨b,h1,h2⟩:=h.sec j (by omega) c hl;exact⟨b,by omega,h2⟩
   ·exact⟨j,by omega,by omega⟩
  ·obtain⟨b,h1,h2⟩:=h.sec j (by omega) c hc;exact⟨b,by omega,h2⟩
theorem Cz.word {cl cm:Nat->Nat} (h:Cz cl cm K):∀w:List Nat,(∀c∈w,c<K)->∃u:List Nat,(∀b∈u,b<256)/\u.map cl=w
 |[],_=>⟨[],fun b hb=>by simp at hb,rfl⟩
 |c::w,hw=>by
  obtain⟨u,h1,h2⟩:=h.word w (fun d hd=>hw d (by simp[hd]));obtain⟨b,h3,h4⟩:=h.sec 256 (Nat.le_refl _) c (by rw[h.k];exact hw c (by simp));exact⟨b::u,fun d hd=>by
   rcases List.mem_cons.1 hd with rfl|hd
   ·exact h3
   ·exact h1 d hd,by rw[List.map_cons,h2,h4]⟩
theorem TE (Q:Aut) (cl:Nat->Nat):∀(u:List Nat) (s:Int),ext (Jc Q cl) s u=ext Q s (u.map cl)
 |[],s=>rfl
 |b::u,s=>by
  rw[List.map_cons,ext,ext];split
  ·rfl
  ·exact TE Q cl u _
theorem Ps {Q:Aut}{cl cm:Nat->Nat} (hB:Bfs Q) (hc:Cz cl cm Q.K) {s:Nat} (hs:s<Q.N) (h:kn (Jc Q cl) (s*256)=kn Q (s*Q.K)):∀b,b<=256->kn (Jc Q cl) (s*256+b)=kn Q (s*Q.K+cm b)
 |0,_=>by rw[hc.z,Nat.add_zero,Nat.add_zero];exact h
 |b+1,hb=>by
  have ih:=Ps hB hc hs h b (by omega);have hf:fl (Jc Q cl) (s*256+b)=Q.to s (cl b):=fl_at (Jc Q cl) (s:=s) (k:=b) (show b<256 by omega);have hcl:=hc.ltK (b:=b) (by omega);have hle:=hc.le b (by omega);rw[<-Nat.add_assoc,kn,ih,hf,hc.s b (by omega)];by_cases e:cl b=cm b
  ·rw[if_pos e,<-Nat.add_assoc,kn,<-e,fl_at Q hcl]
  ·rw[if_neg e];have ht:=time_lt hs hcl;have h1:=hB.lt ht;rw[fl_at Q hcl]at h1;have h2:=kn_mono Q (show s*Q.K+cl b+1<=s*Q.K+cm b by omega);rw[if_neg (by omega)]
theorem Pr {Q:Aut}{cl cm:Nat->Nat} (hB:Bfs Q) (hc:Cz cl cm Q.K):∀s,s<=Q.N->kn (Jc Q cl) (s*256)=kn Q (s*Q.K)
 |0,_=>by simp[kn]
 |s+1,hs=>by
  have:=Ps hB hc (s:=s) (by omega) (Pr hB hc s (by omega)) 256 (Nat.le_refl _);rw[hc.k]at this;rw[Nat.add_mul,Nat.one_mul,this,Nat.add_mul,Nat.one_mul]
theorem Mg {Q:Aut}{cl cm:Nat->Nat} (hQ:MG Q) (hc:Cz cl cm Q.K):MG (Jc Q cl):=by
 have hB:=hQ.bfs;have lift:∀a b:Int,Al (Jc Q cl) a b->Al Q a b:=fun a b h w hw=>by
  obtain⟨u,h1,h2⟩:=hc.word w hw;rw[<-h2,<-TE,<-TE];exact h u h1
 refine⟨⟨hB.pos,fun t ht=>?_,fun s hs=>?_,?_⟩,by show 0<256;omega,fun s k hs hk=>hQ.rng s (cl k) hs (hc.ltK hk),fun s s' hs hs' h=>hQ.al s s' hs hs' (lift _ _ h),fun s hs h=>hQ.live s hs (lift _ _ h)⟩
 ·have ht':t<Q.N*256:=ht;have hdm:=Nat.div_add_mod t 256;have hml:=Nat.mod_lt t (show 0<256 by omega);have hs:t/256<Q.N:=by omega
  have hcl:=hc.ltK hml;have e:t=t/256*256+t%256:=by omega
  have h1:=Ps hB hc hs (Pr hB hc _ (by omega)) (t%256) (by omega);rw[<-e]at h1;have h2:=hB.le _ (time_lt hs hcl);rw[fl_at Q hcl]at h2;have h3:=kn_mono Q (show t/256*Q.K+cl (t%256)<=t/256*Q.K+cm (t%256) by have:=hc.le _ hml;omega);rw[h1];show Q.to (t/256) (cl (t%256))<=_;omega
 ·have hs':s<Q.N:=hs;show s<kn (Jc Q cl) (s*256);rw[Pr hB hc s (by omega)];exact hB.row s hs'
 ·show kn (Jc Q cl) (Q.N*256)=Q.N;rw[Pr hB hc Q.N (Nat.le_refl _)];exact hB.all
theorem Md {cl cm cl' cm':Nat->Nat}{K':Nat} (h:Cz cl cm K) (h':Cz cl' cm' K') (hc:∀a b,a<256->b<256->(cl a=cl b<->cl' a=cl' b)):∀j,j<=256->cm j=cm' j/\∀b,b<j->cl b=cl' b
 |0,_=>⟨by rw[h.z,h'.z],fun b hb=>by omega⟩
 |j+1,hj=>by
  obtain⟨e1,e2⟩:=Md h h' hc j (by omega);have hl:=h.le j (by omega);have hl':=h'.le j (by omega);have ej:cl j=cl' j:=by
   rcases Nat.lt_or_ge (cl j) (cm j)with hlt|hge
   ·obtain⟨b,b1,b2⟩:=h.sec j (by omega) _ hlt;have:=(hc b j (by omega) (by omega)).1 b2;rw[<-b2,e2 b b1,this]
   ·rcases Nat.lt_or_ge (cl' j) (cm' j)with hlt'|hge'
    ·obtain⟨b,b1,b2⟩:=h'.sec j (by omega) _ hlt';have b3:=(hc b j (by omega) (by omega)).2 b2;rw[<-b2,<-e2 b b1,b3]
    ·omega
  refine⟨by rw[h.s j (by omega),h'.s j (by omega),e1,ej],fun b hb=>?_⟩;by_cases e:b=j
  ·subst e;exact ej
  ·exact e2 b (by omega)
theorem Jr {Q Q':Aut}{cl cm cl' cm':Nat->Nat} (hQ:MG Q) (hQ':MG Q') (hc:Cz cl cm Q.K) (hc':Cz cl' cm' Q'.K) (co:∀c d,c<Q.K->d<Q.K->(∀s,s<Q.N->Q.to s c=Q.to s d)->c=d) (co':∀c d,c<Q'.K->d<Q'.K->(∀s,s<Q'.N->Q'.to s c=Q'.to s d)->c=d)
  (hv:∀u:List Nat,(∀b∈u,b<256)->ext Q 0 (u.map cl)=ext Q' 0 (u.map cl')):
  Q.N=Q'.N/\Q.K=Q'.K/\(∀b,b<256->cl b=cl' b)/\(∀s c,s<Q.N->c<Q.K->Q.to s c=Q'.to s c)/\∀s,s<Q.N->Q.vd s=Q'.vd s:=by
 obtain⟨e1,e2,e3⟩:=JU (Mg hQ hc) (Mg hQ' hc') rfl (fun w hw=>by rw[TE,TE];exact hv w hw);have e1':Q.N=Q'.N:=e1;have e2':∀s b,s<Q.N->b<256->Q.to s (cl b)=Q'.to s (cl' b):=e2;have hcc:∀a b,a<256->b<256->(cl a=cl b<->cl' a=cl' b):=fun a b ha hb=>by
  constructor
  ·intro h;refine co' _ _ (hc'.ltK ha) (hc'.ltK hb) (fun s hs=>?_);rw[<-e2' s a (by omega) ha,<-e2' s b (by omega) hb,h]
  ·intro h;refine co _ _ (hc.ltK ha) (hc.ltK hb) (fun s hs=>?_);rw[e2' s a hs ha,e2' s b hs hb,h]
 obtain⟨f1,f2⟩:=Md hc hc' hcc 256 (Nat.le_refl _);rw[hc.k,hc'.k]at f1;refine⟨e1',f1,f2,fun s c hs hk=>?_,e3⟩;obtain⟨b,b1,b2⟩:=hc.sec 256 (Nat.le_refl _) c (by rw[hc.k];exact hk);have:=e2' s b hs b1;rw[<-f2 b b1,b2]at this;exact this
theorem NN {f:Nat->Int}:∀j {m:Nat},Yq f j=some m->(∀b,b<j->∃q,Yq f b=some q/\0<=f b/\f b<=q/\Yq f (b+1)=some (if f b=q then q+1 else q))
 |0,m,_,b,hb=>by omega
 |j+1,m,h,b,hb=>by
  rcases hc:Yq f j with _|q
  ·rw[Yq,hc]at h;cases h
  ·by_cases e:b=j
   ·subst e;refine⟨q,hc,?_⟩;have h0:=h;rw[Yq,hc]at h;simp only at h;split at h
    ·cases h
    ·rename_i hn;refine⟨by omega,by omega,?_⟩;rw[h0,<-h];split<;>rfl
   ·exact NN j hc b (by omega)
variable {M : Mc}
theorem KB (h:Wc M):Cz (fun b=>(M.cl b).toNat) (fun b=>(Yq M.cl b).getD 0) M.k/\∀b,b<256->0<=M.cl b:=by
 have hn:=h.ncl;have hp:=h.hd.2.2.1;unfold Vo at hp;rw[if_pos hn]at hp;rcases hc:Yq M.cl 256 with _|m
 ·rw[hc]at hp;simp at hp
 have key:=NN 256 hc;refine⟨⟨rfl,fun b hb=>?_,fun b hb=>?_,?_⟩,fun b hb=>?_⟩
 ·obtain⟨q,k1,k2,k3,k4⟩:=key b hb;simp only[k1,Option.getD_some];omega
 ·obtain⟨q,k1,k2,k3,k4⟩:=key b hb;simp only[k1,k4,Option.getD_some];by_cases e:M.cl b=q
  ·rw[if_pos e,if_pos (by omega)]
  ·rw[if_neg e,if_neg (by omega)]
 ·show(Yq M.cl 256).getD 0=Vo M.cl M.ncl;unfold Vo;rw[if_pos hn]
 ·obtain⟨q,k1,k2,k3,k4⟩:=key b hb;exact k2
theorem SY {a b:List Int} (hl:a.length=b.length) (h:∀i,i<a.length->a.getD i 0=b.getD i 0):a=b:=by
 refine List.ext_getElem hl (fun i h1 h2=>?_);have:=h i h1;rw[List.getD_eq_getElem?_getD,List.getD_eq_getElem?_getD,List.getElem?_eq_getElem h1,List.getElem?_eq_getElem h2]at this;exact this
theorem IH {c l x c' l' x':List Int} (S:Wc (Xn n c l x)) (S':Wc (Xn n c' l' x')) (L:MG (qM (Xn n c l x))) (L':MG (qM (Xn n c' l' x')))
  (co:∀a d,a<(Xn n c l x).k->d<(Xn n c l x).k->(∀s,s<(Xn n c l x).nlb->(qM (Xn n c l x)).to s a=(qM (Xn n c l x)).to s d)->a=d) (co':∀a d,a<(Xn n c' l' x').k->d<(Xn n c' l' x').k->(∀s,s<(Xn n c' l' x').nlb->(qM (Xn n c' l' x')).to s a=(qM (Xn n c' l' x')).to s d)->a=d)
  (hv:∀u:List Nat,(∀b∈u,b<256)->ext (qM (Xn n c l x)) 0 (u.map fun b=>((Xn n c l x).cl b).toNat)=ext (qM (Xn n c' l' x')) 0 (u.map fun b=>((Xn n c' l' x').cl b).toNat)):c=c'/\l=l'/\x=x':=by
 obtain⟨z,p⟩:=KB S;obtain⟨z',p'⟩:=KB S';obtain⟨e1,e2,e3,e4,e5⟩:=Jr L L' z z' co co' hv;have n1:c.length=256:=S.ncl;have n2:c'.length=256:=S'.ncl;have x1:x.length=l.length*(Xn n c l x).k:=S.e;have x2:x'.length=l'.length*(Xn n c' l' x').k:=S'.e;have hl:l.length=l'.length:=e1;have hk:(Xn n c l x).k=(Xn n c' l' x').k:=e2;refine⟨SY (by omega) (fun i hi=>?_),SY hl (fun i hi=>e5 i hi),SY (by rw[x1,x2,hl,hk]) (fun i hi=>?_)⟩
 ·have h1:=e3 i (by omega);have h2:=p i (by omega);have h3:=p' i (by omega);have h1':(c.getD i 0).toNat=(c'.getD i 0).toNat:=h1;have h2':0<=c.getD i 0:=h2;have h3':0<=c'.getD i 0:=h3;omega
 ·have hkp:=S.k1.1;have hdm:=Nat.div_add_mod i (Xn n c l x).k;have hml:=Nat.mod_lt i (show 0<(Xn n c l x).k by omega);have hs:i/(Xn n c l x).k<l.length:=by rw[Nat.div_lt_iff_lt_mul (by omega)];omega
  have h1:x.getD (i/(Xn n c l x).k*(Xn n c l x).k+i%(Xn n c l x).k) 0=x'.getD (i/(Xn n c l x).k*(Xn n c' l' x').k+i%(Xn n c l x).k) 0:=e4 _ _ hs hml;rw[<-hk,show i/(Xn n c l x).k*(Xn n c l x).k+i%(Xn n c l x).k=i by rw[Nat.mul_comm];omega]at h1;exact h1
theorem Ks (A:Aut) (h:0<A.N):(reps (alB A) A.N).getD 0 0=0:=by
 have h1:=TQ (alB_eqv A A.N) h;have h2:least (alB A) 0=0:=Nat.le_zero.1 (least_le _ 0);unfold idx at h1;rw[h2]at h1;exact h1
theorem Mn {c l x:List Int} (h:GR es n A c l x):MG (qM (Xn n c l x)):=by
 have hQ:=JV h;have hS:=h.snd;refine⟨Js h.good h.bfs hQ h.kp,by have:=hS.k1.1;exact this,fun s k hs hk=>?_,fun s s' a b q=>Ip h.good hQ a b q,fun s a=>Lx h.good hQ a⟩;have hs':s<(Xn n c l x).nlb:=hs;have hk':k<(Xn n c l x).k:=hk;have hi:s*(Xn n c l x).k+k<(Xn n c l x).nnx:=by
  have:(s+1)*(Xn n c l x).k<=(Xn n c l x).nlb*(Xn n c l x).k:=Nat.mul_le_mul_right _ hs';rw[hS.e,Nat.add_mul]at *;omega
 have:=hS.b _ hi;show -1<=(Xn n c l x).nx _/\(Xn n c l x).nx _<((Xn n c l x).nlb:Int);exact⟨this.1,by omega⟩
theorem Mo {ls:List (Nat->Bool)}{t:List Int}{kf:Nat->Int}{l x:List Int} (hP:YR es n<=96) (hE:Vz (Us es n) (Xx es n) (TV es n) ls.length 0 ls t) (hA:A=Yb ls t (TV es n).length) (hk:∀b,b<256->kf b=If es n b)
  (h:GR es n A (Xy (Cl (YU A (alB A)) (cnt (alB A) A.N)) kf 256) l x) (u:List Nat) (hu:∀b∈u,b<256):
  ext (qM (Xn n (Xy (Cl (YU A (alB A)) (cnt (alB A) A.N)) kf 256) l x)) 0 (u.map fun b=>((Xn n (Xy (Cl (YU A (alB A)) (cnt (alB A) A.N)) kf 256) l x).cl b).toNat)=Ja es n u:=by
 have hQ:=JV h;have hN:=h.bfs.pos;have hcl:∀b,b<256->((Xn n (Xy (Cl (YU A (alB A)) (cnt (alB A) A.N)) kf 256) l x).cl b).toNat=idx (Cl (YU A (alB A)) (cnt (alB A) A.N)) (idx (Kq (XN es n) (YR es n)) b):=fun b hb=>by
  show((Xy (Cl (YU A (alB A)) (cnt (alB A) A.N)) kf 256).getD b 0).toNat=_;unfold Xy;rw[List.getD_eq_getElem?_getD,List.getElem?_map,List.getElem?_eq_getElem (by simpa using hb)];simp only[List.getElem_range,Option.map_some,Option.getD_some,hk b hb,If,idxI,Int.toNat_natCast]
 have hKA:A.K=(TV es n).length:=by rw[hA];rfl
 have hkd:Kd A (u.map (idx (Kq (XN es n) (YR es n)))):=fun k hk'=>by
  obtain⟨b,hb,rfl⟩:=List.mem_map.1 hk';rw[hKA];exact(M1 (XN es n) (YR es n) (hu b hb)).1
 have hmap:(u.map fun b=>((Xn n (Xy (Cl (YU A (alB A)) (cnt (alB A) A.N)) kf 256) l x).cl b).toNat)=(u.map (idx (Kq (XN es n) (YR es n)))).map (idx (Cl (YU A (alB A)) (cnt (alB A) A.N))):=by
  rw[List.map_map];exact List.map_congr_left (fun b hb=>hcl b (hu b hb))
 have hKd:Kd (qM (Xn n (Xy (Cl (YU A (alB A)) (cnt (alB A) A.N)) kf 256) l x)) ((u.map (idx (Kq (XN es n) (YR es n)))).map (idx (Cl (YU A (alB A)) (cnt (alB A) A.N)))):=fun k hk'=>by
  obtain⟨q,hq,rfl⟩:=List.mem_map.1 hk';rw[hQ.k];exact idx_lt (UN _ _ _) (hkd q hq)
 rw[hmap];have h1:=TF h.good hQ _ 0 hKd (by rw[hQ.n];exact Nat.lt_of_le_of_lt (Nat.zero_le _) (cnt_lt (Nat.le_zero.1 (least_le _ 0)) hN));have h2:=UC h.good (u.map (idx (Kq (XN es n) (YR es n)))) 0 hkd (by omega);have h3:=JD hP hE u hu;rw[<-hA]at h3;rw[Ks A hN]at h1;rw[<-h3,h2];refine h1.trans ?_;rw[List.map_map (g:=fk A (alB A))];rfl
theorem Ou {c l x:List Int} (h:GR es n A c l x):∀a d,a<(Xn n c l x).k->d<(Xn n c l x).k->(∀s,s<(Xn n c l x).nlb->(qM (Xn n c l x)).to s a=(qM (Xn n c l x)).to s d)->a=d:=
 fun _ _ ha hd q=>Lf (JV h) ha hd q
end Go.Proofs.Ytoaaklhpmhjhkab
