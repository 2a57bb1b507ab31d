import Derived.Test.YtoaaklhpmhjhkabC29
import Derived.Test.YtoaaklhpmhjhkabC32
set_option maxRecDepth 100000
set_option maxHeartbeats 4000000
set_option linter.all false
namespace Go.Proofs.Ytoaaklhpmhjhkab
open Go.RowKit
open Bm
def LS (n:Nat) (c l x:List Int):Mc:=⟨n,fun i=>c.getD i 0,c.length,fun i=>l.getD i 0,l.length,fun i=>x.getD i 0,x.length⟩
variable {l : List (Nat → Bool)}{fs : List Nat}{n : Nat}{t : Nat → Nat → Bool}{rw : Nat → Nat → Int}
theorem Pf:∀ {S s c:Nat},s<S->c<fs.length->(Xj rw fs S).getD (s*fs.length+c) 0=rw s (fs.getD c 0)
 |S+1,s,c,hs,hc=>by
  rw[UF,List.getD_eq_getElem?_getD];by_cases h:s<S
  ·have h1:s*fs.length+c<(Xj rw fs S).length:=by
    rw[VZ];have:(s+1)*fs.length<=S*fs.length:=Nat.mul_le_mul_right _ h;rw[Nat.add_mul]at this;omega
   rw[List.getElem?_append_left h1,<-List.getD_eq_getElem?_getD];exact Pf h hc
  ·have e:s=S:=by omega
   subst e;rw[List.getElem?_append_right (by rw[VZ];omega),VZ,show s*fs.length+c-s*fs.length=c by omega];simp[UZ,hc]
structure Ld (es:Nat->Rx) (n:Nat) (A:Aut) (c l x:List Int):Prop where
 good:A.Good
 bfs:Bfs A
 kp:0<A.K
 snd:Ql (LS n c l x)
 k:(LS n c l x).k=cnt (Cl (YW A (alB A)) (cnt (alB A) A.N)) A.K
 nl:l.length=cnt (alB A) A.N
 to:∀s d,s<l.length->d<(LS n c l x).k->x.getD (s*(LS n c l x).k+d) 0=YW A (alB A) s ((reps (Cl (YW A (alB A)) (cnt (alB A) A.N)) A.K).getD d 0)
 lb:∀s,s<l.length->l.getD s 0=A.vd ((reps (alB A) A.N).getD s 0)
variable {A : Aut}{es : Nat → Rx}
theorem LT {t:List Int}{kf:Nat->Int} (h1:1<=n) (h8:n<=8) (hP:YO es n<=96) (hfu:∀k,k<n->(es k).Full) (hE:VD (Uy es n) (XC es n) (Tl es n) l.length 0 l t) (hA:A=X9 l t (Tl es n).length) (h96:¬96<cnt (alB A) A.N) (hk:∀b,b<256->kf b=Lw es n b):
  Ld es n A (Xb (Cl (YW A (alB A)) (cnt (alB A) A.N)) kf 256) (XF A (alB A) (cnt (alB A) A.N)) (Xj (YW A (alB A)) (reps (Cl (YW A (alB A)) (cnt (alB A) A.N)) A.K) (cnt (alB A) A.N)):=by
 have hG:A.Good:=by rw[hA];exact SV (QT es n h1 h8 hP hfu) (QS es n h8 hP) (QK _ _) hE
 have hB:Bfs A:=by rw[hA];exact NZ (VK _ _).1 hE
 have hKp:0<A.K:=by rw[hA];exact(VK _ _).1
 have hAN:A.N=l.length:=by rw[hA];rfl
 have hKE:A.K=cnt (Kq (XG es n) (YO es n)) 256:=by rw[hA];rfl
 have hCE:=Vd (YW A (alB A)) (cnt (alB A) A.N) A.K;have hS:0<cnt (alB A) A.N:=Nat.lt_of_le_of_lt (Nat.zero_le _) (cnt_lt (Nat.le_zero.1 (least_le _ 0)) hB.pos);have hK:0<cnt (Cl (YW A (alB A)) (cnt (alB A) A.N)) A.K:=Nat.lt_of_le_of_lt (Nat.zero_le _) (cnt_lt (Nat.le_zero.1 (least_le _ 0)) hKp);have hrep:∀s,s<cnt (alB A) A.N->(reps (alB A) A.N).getD s 0<A.N:=fun s hs=>(YH hs).1
 have hPu:SQ (Kq (XG es n) (YO es n)) (Cl (YW A (alB A)) (cnt (alB A) A.N)) (fun a b=>Cl (YW A (alB A)) (cnt (alB A) A.N) (idx (Kq (XG es n) (YO es n)) a) (idx (Kq (XG es n) (YO es n)) b)) A.K:=by
  have hlt:∀a,a<256->idx (Kq (XG es n) (YO es n)) a<A.K:=fun a ha=>by rw[hKE];exact idx_lt (Uu _ _ _) ha
  exact⟨Uu _ _ _,hKE,hCE,⟨fun a ha=>hCE.refl _ (hlt a ha),fun a b ha hb h=>hCE.symm _ _ (hlt a ha) (hlt b hb) h,fun a b c ha hb hc h k=>hCE.trans _ _ _ (hlt a ha) (hlt b hb) (hlt c hc) h k⟩,fun _ _ _ _=>rfl⟩
 have hcl:MU (fun i=>(Xb (Cl (YW A (alB A)) (cnt (alB A) A.N)) kf 256).getD i 0) 256=cnt (Cl (YW A (alB A)) (cnt (alB A) A.N)) A.K:=by
  have h2:XW (fun i=>(Xb (Cl (YW A (alB A)) (cnt (alB A) A.N)) kf 256).getD i 0) 256=some _:=RU hPu.g (fun b hb=>by
   have e1:(Xb (Cl (YW A (alB A)) (cnt (alB A) A.N)) kf 256).getD b 0=idxI (Cl (YW A (alB A)) (cnt (alB A) A.N)) (kf b).toNat:=by simp[Xb,List.getD_eq_getElem?_getD,hb]
   show(Xb (Cl (YW A (alB A)) (cnt (alB A) A.N)) kf 256).getD b 0=_;rw[e1,hk b hb];have e2:(Lw es n b).toNat=idx (Kq (XG es n) (YO es n)) b:=Int.toNat_natCast _;rw[e2];exact congrArg (fun z:Nat=>(z:Int)) (hPu.ix hb).symm) 256 (Nat.le_refl _)
  unfold MU;rw[if_pos rfl,h2];have h3:=congrArg List.length (hPu.reps_to 256 (Nat.le_refl _));rw[List.length_map,<-hPu.k]at h3;exact h3
 have l1:(Xb (Cl (YW A (alB A)) (cnt (alB A) A.N)) kf 256).length=256:=UR _ _ _;have l2:(XF A (alB A) (cnt (alB A) A.N)).length=cnt (alB A) A.N:=UW _ _ _;have l3:(Xj (YW A (alB A)) (reps (Cl (YW A (alB A)) (cnt (alB A) A.N)) A.K) (cnt (alB A) A.N)).length=cnt (alB A) A.N*cnt (Cl (YW A (alB A)) (cnt (alB A) A.N)) A.K:=by rw[VZ];rfl
 have hlab:∀s,s<cnt (alB A) A.N->(XF A (alB A) (cnt (alB A) A.N)).getD s 0=A.vd ((reps (alB A) A.N).getD s 0):=fun s hs=>by simp[XF,List.getD_eq_getElem?_getD,hs]
 have hkk:(LS n (Xb (Cl (YW A (alB A)) (cnt (alB A) A.N)) kf 256) (XF A (alB A) (cnt (alB A) A.N)) (Xj (YW A (alB A)) (reps (Cl (YW A (alB A)) (cnt (alB A) A.N)) A.K) (cnt (alB A) A.N))).k=cnt (Cl (YW A (alB A)) (cnt (alB A) A.N)) A.K:=by
  show MU _ (Xb (Cl (YW A (alB A)) (cnt (alB A) A.N)) kf 256).length=_;rw[l1];exact hcl
 refine⟨hG,hB,hKp,⟨⟨?_,?_,?_,?_⟩,?_,?_⟩,hkk,l2,fun s d hs hd=>?_,fun s hs=>hlab s (by rw[<-l2];exact hs)⟩
 ·show(1:Int)<=n/\(n:Int)<=8;omega
 ·show 1<=(XF A (alB A) (cnt (alB A) A.N)).length/\(XF A (alB A) (cnt (alB A) A.N)).length<=96;rw[l2];omega
 ·show 0<MU (fun i=>(Xb (Cl (YW A (alB A)) (cnt (alB A) A.N)) kf 256).getD i 0) (Xb (Cl (YW A (alB A)) (cnt (alB A) A.N)) kf 256).length;rw[l1,hcl];exact hK
 ·show ∀i,i<(XF A (alB A) (cnt (alB A) A.N)).length->-1<=(XF A (alB A) (cnt (alB A) A.N)).getD i 0/\(XF A (alB A) (cnt (alB A) A.N)).getD i 0<=(n:Int)-1;intro i hi;rw[l2]at hi;rw[hlab i hi];have hs:=Nat.lt_of_lt_of_le (hrep i hi) (Nat.le_of_eq hAN);have hm:=Mw es n hP hE _ (QF (d:=TY) hs);have hv:A.vd ((reps (alB A) A.N).getD i 0)=Uf (fun q=>(l.getD ((reps (alB A) A.N).getD i 0) TY) (96+q)) 8 0:=by rw[hA];rfl
  have h2:=TL (f:=fun q=>(l.getD ((reps (alB A) A.N).getD i 0) TY) (96+q)) n (8-n) 0 (fun q q1 q2=>by
   cases hq:(l.getD ((reps (alB A) A.N).getD i 0) TY) (96+q)
   ·rfl
   ·have:=hm (96+q) (by omega) hq;omega)
  rw[show n+(8-n)=8 by omega]at h2;rw[hv,h2];have:=Qg (fun q=>(l.getD ((reps (alB A) A.N).getD i 0) TY) (96+q)) n 0;omega
 ·show(Xj (YW A (alB A)) (reps (Cl (YW A (alB A)) (cnt (alB A) A.N)) A.K) (cnt (alB A) A.N)).length=(XF A (alB A) (cnt (alB A) A.N)).length*_;rw[hkk,l2,l3]
 ·show ∀i,i<(Xj (YW A (alB A)) (reps (Cl (YW A (alB A)) (cnt (alB A) A.N)) A.K) (cnt (alB A) A.N)).length->-1<=(Xj (YW A (alB A)) (reps (Cl (YW A (alB A)) (cnt (alB A) A.N)) A.K) (cnt (alB A) A.N)).getD i 0/\(Xj (YW A (alB A)) (reps (Cl (YW A (alB A)) (cnt (alB A) A.N)) A.K) (cnt (alB A) A.N)).getD i 0<=((XF A (alB A) (cnt (alB A) A.N)).length:Int)-1;intro i hi;obtain⟨s,j,hs,hj,e⟩:=Nu (QF (d:=0) hi);rw[l2,e];rcases WN hG hs (YH (show j<cnt _ _ from hj)).1 with ⟨_,p2⟩|⟨m,m1,_,m3⟩
  ·rw[p2];omega
  ·rw[m3];have:=idx_lt (alB_eqv A A.N) m1;omega
 ·rw[hkk]at hd ⊢;exact Pf (by rw[<-l2];exact hs) hd
def qM (M:Mc):Aut:=⟨M.nlb,M.k,fun s c=>M.nx (s*M.k+c),M.lb⟩
theorem Ly {c l x:List Int} (h:Ld es n A c l x):Mq A (qM (LS n c l x)):=
 ⟨h.nl,h.k,fun s d hs hd=>h.to s d hs hd,fun s hs=>h.lb s hs⟩
variable {M : Mc}
theorem Mt (hS:Ql M) (hal:∀s s',s<M.nlb->s'<M.nlb->Al (qM M) s s'->s=s') (hlv:∀s:Nat,s<M.nlb->¬Al (qM M) s (-1))
  (hv:∀i j,i<=M.nlb->j<=M.nlb->t i j=false->vM M i=vM M j) (ht:∀i j c,i<=M.nlb->j<=M.nlb->c<M.k->t i j=false->t (dM M M.k i c) (dM M M.k j c)=false) {i j:Nat} (hi:i<=M.nlb) (hj:j<i):t i j=true:=by
 have key:∀(w:List Nat) (i j:Nat),Kd (qM M) w->i<=M.nlb->j<=M.nlb->t i j=false->ext (qM M) ((i:Int)-1) w=ext (qM M) ((j:Int)-1) w:=by
  intro w;have hx:∀i,i<=M.nlb->ext (qM M) ((i:Int)-1) []=vM M i:=fun i hi=>by
   unfold vM;by_cases h0:i=0
   ·rw[if_pos h0,h0];rfl
   ·rw[if_neg h0,show(i:Int)-1=((i-1:Nat):Int) by omega,ext_nil];rfl
  have hd:∀i c w,i<=M.nlb->c<M.k->dM M M.k i c<=M.nlb/\ext (qM M) ((i:Int)-1) (c::w)=ext (qM M) ((dM M M.k i c:Int)-1) w:=fun i c w hi hc=>by
   by_cases h0:i=0
   ·subst h0;have:dM M M.k 0 c=0:=if_pos rfl;rw[this];exact⟨by omega,by rw[ext_none _ _ (by omega),ext_none _ _ (by omega)]⟩
   ·obtain⟨_,f2,f3⟩:=Qw (M:=M) (n:=M.k) (N:=M.nlb) (p:=M.nnx) hS.e (fun i hi=>by have:=hS.b i hi;omega) (show 0<i by omega) hi hc;refine⟨f3,?_⟩;rw[show(i:Int)-1=((i-1:Nat):Int) by omega,ext_cons];have e:(qM M).to (i-1) c=(dM M M.k i c:Int)-1:=by show M.nx _=_;omega
    rw[e]
  induction w with
  |nil=>intro i j _ hi hj h;rw[hx i hi,hx j hj];exact hv i j hi hj h
  |cons c w ih=>
   intro i j hk hi hj h;obtain⟨hc,hw⟩:=hk.tail;obtain⟨d1,d2⟩:=hd i c w hi hc;obtain⟨e1,e2⟩:=hd j c w hj hc;rw[d2,e2];exact ih _ _ hw d1 e1 (ht i j c hi hj hc h)
 cases h:t i j
 ·exfalso;have hA:Al (qM M) ((i:Int)-1) ((j:Int)-1):=fun w hw=>key w i j hw hi (by omega) h
  rw[show(i:Int)-1=((i-1:Nat):Int) by omega]at hA;by_cases h0:j=0
  ·subst h0;exact hlv (i-1) (by omega) hA
  ·rw[show(j:Int)-1=((j-1:Nat):Int) by omega]at hA;have:=hal _ _ (by omega) (by omega) hA;omega
 ·rfl
def Pu (w:World) (e:Ending) (w':World):Prop:=
 ∃(g n cap:Nat) (f:Nat->ByteArray),e=.returned (.slice (some ⟨g,0,none⟩) n cap)/\Below w.heap.size w w'/\g<w'.heap.size/\Rg g 0 f n w'/\1<=n/\n<=8/\(∀i,i<n->(f i).size<=maxLen)/\(∀j,j<n->(Pg.wrong (Y5 (f j)) (f j).size).1=0)/\Yj (fun j=>Yv (f j)) n<=6
theorem MZ (v:Value) (w:World) (hSp:Calls Try.prog 22 #[v] w (Pu w)):
  Calls Try.prog 7 #[v] w fun e w'=>e=.returned (.bool true)/\Below w.heap.size w w':=by
 have hz:=VP;have HSp:=hyd hSp;clear hSp;go_enter Try.func7,Try.ntmps7;go_wp2_with fail;refine HSp.out.mono ?_;rintro en w0 ⟨g,n,cap,f,rfl,B0,hg,hR,h1,h8,hm,hok,hsum⟩;have HBd:=hyd (Sw g 0 cap n f w0 h1 h8 hg hm hR hok (by omega));obtain⟨es,hes⟩:∃es:Nat->Rx,es=fun j=>TE (f j):=⟨_,rfl⟩
 have hrd:∀j,j<n->(Pg.readParts (Y5 (f j)) (f j).size).ok=true:=fun j hj=>((Xl (f j)).2 (hok j hj)).2.2
 have hns:=Rz es (fun j=>Yv (f j)) n (fun i hi=>by rw[hes];exact UG (f i) (hrd i hi)) (by omega);have hP6:YO es n<=6:=by have:=hns.1;omega
 have hfu:∀k,k<n->(es k).Full:=fun k hk=>by rw[hes];exact Pj (f k) (hok k hk)
 rw[<-hes]at HBd;have HB0:=hyd B0;have HP6:=hyd3 hP6 hns.2 hfu;clear hes hrd hns hP6 hfu hm hok hsum hR B0 hg HSp;go_wp2_with fail;refine HBd.out.mono ?_;rintro en w1 ⟨B1,hp⟩;clear HBd;obtain⟨x1,x2⟩:=MM HP6.out.1;rcases hp with ⟨_,hx⟩|⟨l,t,A,hA,hE,⟨hc,_⟩|⟨hc,vc,vl,vn,kf,rfl,hk,o1,o2,o3,_,_,_⟩⟩
 ·exact absurd hx x1
 ·exact absurd (by rw[hA]at hc;exact hc) (x2 l t hE)
 have hMc:=LT h1 h8 HP6.out.2.1 HP6.out.2.2 hE hA hc hk;clear x1 x2;obtain⟨lc,hlc⟩:=nam (Xb (Cl (YW A (alB A)) (cnt (alB A) A.N)) kf 256);obtain⟨ll,hll⟩:=nam (XF A (alB A) (cnt (alB A) A.N));obtain⟨lx,hlx⟩:=nam (Xj (YW A (alB A)) (reps (Cl (YW A (alB A)) (cnt (alB A) A.N)) A.K) (cnt (alB A) A.N));rw[<-hlc,<-hll,<-hlx]at hMc;rw[<-hlc]at o1;rw[<-hll]at o2;rw[<-hlx]at o3;obtain⟨a1,c1,e1,i1⟩:=o1.il;obtain⟨a2,c2,e2,i2⟩:=o2.il;obtain⟨a3,c3,e3,i3⟩:=o3.il;obtain⟨M,hM⟩:=nam (LS n lc ll lx);obtain⟨D,hD⟩:∃D:Ve,D=⟨a1,c1,a2,c2,a3,c3⟩:=⟨_,rfl⟩;have eT:(#[.int .i64 n,vc,vl,vn]:Array Value)=D.cells M:=by rw[e1,e2,e3,hD,hM];rfl
 have hIn:Sn M D w1:=by rw[hD,hM];exact⟨i1,i2,i3⟩
 have hS:Ql M:=by rw[hM];exact hMc.snd
 have hrn:M.rules=(n:Int):=by rw[hM];rfl
 have hQ:=Ly hMc;rw[<-hM]at hQ;have hBq:=Na hMc.good hMc.bfs hQ hMc.kp;have hal:∀s s',s<M.nlb->s'<M.nlb->Al (qM M) s s'->s=s':=fun s s' a b h=>Ml hMc.good hQ a b h
 have hlv:∀s:Nat,s<M.nlb->¬Al (qM M) s (-1):=fun s a=>Ox hMc.good hQ a
 have hco:∀c d,d<c->c<M.k->∃s,s<M.nlb/\M.nx (s*M.k+c)≠M.nx (s*M.k+d):=fun c d hdc hck=>by
  refine Classical.byContradiction (fun hno=>?_);have:=Oe hQ (c:=c) (d:=d) hck (show d<M.k by omega) (fun s hs=>Classical.byContradiction (fun h=>hno ⟨s,hs,h⟩));omega
 have hk1:=hS.k1;have hl:=hS.hd.2.1;have hsz:M1 M:=by
  have h3:M.nnx<=24576:=by rw[hS.e];exact Nat.mul_le_mul hl.2 hk1.2
  exact⟨by rw[hS.ncl];omega,by omega,by omega⟩
 have hkn:∀i,i<=M.nnx->kn (qM M) i<=96:=fun i hi=>by
  have h3:=kn_le hBq (t:=i) (by show i<=M.nlb*M.k;rw[<-hS.e];exact hi);have h4:(qM M).N=M.nlb:=rfl;omega
 have hfl:∀i,i<M.nnx->fl (qM M) i=M.nx i:=fun i hi=>by
  show M.nx (i/M.k*M.k+i%M.k)=M.nx i;rw[Nat.mul_comm,Nat.div_add_mod]
 have hrow:∀i,i<M.nnx->i/M.k<kn (qM M) i:=fun i hi=>by
  have h3:i/M.k<M.nlb:=Nat.div_lt_of_lt_mul (by rw[Nat.mul_comm,<-hS.e];exact hi);have h4:=hBq.row (i/M.k) h3;exact Nat.lt_of_lt_of_le h4 (kn_mono _ (Nat.div_mul_le_self _ _))
 have HS:=hyd hS;rw[eT];obtain⟨W2,hW2⟩:=nam (w1.alloc (.cells (D.cells M) 24));have B2:Below w1.heap.size w1 W2:=by rw[hW2];exact Wk _ _
 have hAt:Xi w1.heap.size M D W2:=by rw[hW2];exact Xi.boxed M D w1 _
 have HB2:=hyd (HB0.out.trans ((B1.trans (B2.mono B1.size)).mono HB0.out.size));have HM:Hid (∀w',Below W2.heap.size W2 w'->Xi w1.heap.size M D w'/\Sn M D w'):=fun w' h=>⟨hAt.below h,(hIn.below B2).below h⟩
 have HCs:Hid (∀w',Below W2.heap.size W2 w'->Calls Try.prog 24 #[.agg (D.cells M),.int .i64 n] w' fun e w''=>e=.returned (.tuple #[.int .i64 M.k,.bool true])/\Below w'.heap.size w' w''):=fun w' h=>by rw[<-hrn];exact PH M D w' HS.out (HM.out w' h).2
 have HCo:Hid (∀w',Below W2.heap.size W2 w'->Calls Try.prog 25 #[.agg (D.cells M),.int .i64 M.k] w' fun e w''=>e=.returned (.bool true)/\Below w'.heap.size w' w''):=fun w' h=>
  Ru M D M.k w' (kn (qM M)) hsz (HM.out w' h).2 hk1.1 hk1.2 rfl (fun i hi=>by rw[kn,hfl i hi]) (fun i hi=>by rw[<-hfl i hi];exact hBq.le i (by show i<M.nlb*M.k;rw[<-HS.out.e];exact hi)) hrow (by have:=hBq.all;rw[show(qM M).N*(qM M).K=M.nnx from HS.out.e.symm]at this;exact this) hkn
 have HCc:Hid (∀w',Below W2.heap.size W2 w'->Calls Try.prog 26 #[.agg (D.cells M),.int .i64 M.k] w' fun e w''=>e=.returned (.bool true)/\Below w'.heap.size w' w''):=fun w' h=>Rs M D M.k w' hsz (HM.out w' h).2 hk1.1 hk1.2 hl.2 HS.out.e hco
 have HCd:Hid (∀w',Below W2.heap.size W2 w'->Calls Try.prog 27 #[.agg (D.cells M),.int .i64 M.k] w' (Rb M M.k w')):=fun w' h=>QI M D M.k w' hsz (HM.out w' h).2 hk1.1 hk1.2 hl.2 HS.out.e (fun i hi=>by have:=HS.out.b i hi;omega)
 have HDf:Hid (∀t:Nat->Nat->Bool,(∀i j,i<=M.nlb->j<=M.nlb->t i j=false->vM M i=vM M j)->(∀i j c,i<=M.nlb->j<=M.nlb->c<M.k->t i j=false->t (dM M M.k i c) (dM M M.k j c)=false)->∀i j,i<=M.nlb->j<i->t i j=true):=fun t p q i j hi hj=>Mt HS.out hal hlv p q hi hj
 obtain⟨d0,d1,d2,d3⟩:=hAt;rw[hW2]at d0 d1 d2 d3;have C1:=hyd (HCs.out W2 (Below.refl _ _));have HW2:=hyd hW2;obtain⟨N,hN⟩:=nam M.nlb;have HN:=hyd hN;have hN96:N<=96:=by omega
 clear hN;unfold Ve.cells at HW2 C1 d0 d1 d2 d3 ⊢;clear eT hIn hM hD B2 e1 e2 e3 i1 i2 i3 o1 o2 o3 hW2 hMc hQ hBq hal hlv hco hsz hkn hfl hrow hS hlc hll hlx hk hE hA hc B1 HCs hrn hl;go_wp2_with fail;rw[<-HW2.out];clear HW2 d0 d1 d2 d3;refine C1.out.mono ?_;rintro en w3 ⟨rfl,L3⟩;clear C1;obtain⟨⟨d0,d1,d2,d3⟩,_⟩:=HM.out w3 L3;have C2:=hyd (HCo.out w3 L3);unfold Ve.cells at C2;go_wp2_with fail;refine C2.out.mono ?_;rintro en w4 ⟨rfl,L4⟩;clear C2 d0 d1 d2 d3 HCo;have L34:=L3.trans (L4.mono L3.size);clear L3 L4;obtain⟨⟨d0,d1,d2,d3⟩,_⟩:=HM.out w4 L34;have C3:=hyd (HCc.out w4 L34);unfold Ve.cells at C3;go_wp2_with fail;refine C3.out.mono ?_;rintro en w5 ⟨rfl,L5⟩;clear C3 d0 d1 d2 d3 HCc;have L35:=L34.trans (L5.mono L34.size);clear L34 L5;obtain⟨⟨d0,d1,d2,d3⟩,_⟩:=HM.out w5 L35;have C4:=hyd (HCd.out w5 L35);unfold Ve.cells at C4;go_wp2_with fail;refine C4.out.mono ?_;rintro en w6 ⟨rk,t,rfl,O,L6,hv,ht⟩;have HT:Hid (∀i j,i<=N->j<i->t i j=true):=by show ∀i j,_->_;rw[HN.out];exact HDf.out t hv ht
 clear C4 d0 d1 d2 d3 HCd HDf hv ht;rw[<-HN.out]at O ⊢;have HBw:=hyd (HB2.out.trans ((L35.trans (L6.mono L35.size)).mono HB2.out.size));obtain⟨tb,htb⟩:=nam (w5.heap.size+1);rw[<-htb]at O ⊢;clear htb L35 L6 HM HB2 HB0;go_wp2_with fail
 go_loopw [11] (fun x w'=>∃i:Nat,i<=N+1/\x=.int .i64 i/\w'=w6) (fun x _=>N+1-(intOf x).toNat)
 case atStart=>exact⟨0,by omega,rfl,rfl⟩
 case round=>
  obtain⟨i,hi,rfl,rfl⟩:=hrel;by_cases hil:i<N+1
  ·have hil':(i:Int)<N+1:=by omega
   go_wp2_with fail
   go_loopw [12] (fun x w'=>∃j:Nat,j<=i/\x=.int .i64 j/\w'=wr) (fun x _=>i-(intOf x).toNat)
   case atStart=>exact⟨0,by omega,rfl,rfl⟩
   case round=>
    obtain⟨j,hj,rfl,rfl⟩:=hrel;by_cases hjl:j<i
    ·have hjl':(j:Int)<i:=by omega
     have hj2:(j:Int)<N+1:=by omega
     have ci:=O.c i (by omega);obtain⟨cr,_⟩:=O.r i (by omega) j _ (YT _ (by omega));rw[HT.out i j (by omega) hjl]at cr;obtain⟨R,hR⟩:=nam (rk i);rw[<-hR]at ci cr;clear hR;go_wp2_with fail;go_roundw
     case rel=>exact⟨j+1,by omega,by go_num,by first|rfl|trivial⟩
     case measure=>simp[intOf];omega
    ·have hjl':¬(j:Int)<i:=by omega
     go_wp2_with fail;go_roundw
     case rel=>exact⟨i+1,by omega,by go_num,by first|rfl|trivial⟩
     case measure=>simp[intOf];omega
  ·have hil':¬(i:Int)<N+1:=by omega
   go_wp2_with fail;go_ret;exact⟨rfl,HBw.out⟩
end Go.Proofs.Ytoaaklhpmhjhkab
