import Derived.Test.YtoaaklhpmhjhkabGreatC36
import Derived.Test.YtoaaklhpmhjhkabGreatC41
import Derived.Test.YtoaaklhpmhjhkabGreatC42
set_option maxRecDepth 100000
set_option maxHeartbeats 4000000
set_option linter.all false
namespace Go.Proofs.YtoaaklhpmhjhkabGreat
open Go.RowKit
open Bm
theorem Ok (f:Nat->Bool):∀u r,(Vf f u r=-1/\∀x,r<=x->x<r+u->f x=false)\/∃x,r<=x/\x<r+u/\f x=true/\Vf f u r=(x:Int)/\∀y,r<=y->y<x->f y=false
 |0,r=>Or.inl ⟨rfl,fun x h1 h2=>by omega⟩
 |u+1,r=>by
  rw[Vf];cases h:f r
  ·simp only[Bool.false_eq_true,if_false];rcases Ok f u (r+1)with ⟨h1,h2⟩|⟨x,h1,h2,h3,h4,h5⟩
   ·refine Or.inl ⟨h1,fun x a b=>?_⟩;by_cases e:x=r
    ·subst e;exact h
    ·exact h2 x (by omega) (by omega)
   ·refine Or.inr ⟨x,by omega,by omega,h3,h4,fun y a b=>?_⟩;by_cases e:y=r
    ·subst e;exact h
    ·exact h5 y (by omega) b
  ·simp only[if_true];exact Or.inr ⟨r,Nat.le_refl _,by omega,h,rfl,fun y a b=>by omega⟩
def wV (ws:Nat->List Nat) (N:Nat) (u:List Nat):Int:=Vf (fun r=>decide (r<N/\ws r=u)) 8 0
theorem Pf (ws:Nat->List Nat) {N:Nat} (hN:N<=8) (u:List Nat):(wV ws N u=-1/\∀r,r<N->ws r≠u)\/∃q,q<N/\wV ws N u=(q:Int)/\ws q=u/\∀r,r<q->ws r≠u:=by
 rcases Ok (fun r=>decide (r<N/\ws r=u)) 8 0 with ⟨h1,h2⟩|⟨x,_,h2,h3,h4,h5⟩
 ·refine Or.inl ⟨h1,fun r hr e=>?_⟩;have:=h2 r (by omega) (by omega);simp only[decide_eq_false_iff_not]at this;exact this ⟨hr,e⟩
 ·simp only[decide_eq_true_eq]at h3;refine Or.inr ⟨x,h3.1,h4,h3.2,fun r hr e=>?_⟩;have:=h5 r (by omega) hr;simp only[decide_eq_false_iff_not]at this;exact this ⟨by omega,e⟩
def SH (x:ByteArray) (i k:Nat):List Nat:=((x.data.toList.drop i).take k).map (·.toNat)
theorem NO (x:ByteArray) {i j k:Nat} (hj:i+j<x.size) (hk:j<k):∃v:List Nat,(∀b∈v,b<256)/\SH x i k=SH x i j++(x.data.toList.getD (i+j) 0).toNat::v/\(k=j+1->v=[]):=by
 have hlen:i+j<x.data.toList.length:=by simpa using hj
 have h1:x.data.toList.drop i=(x.data.toList.drop i).take j++(x.data.toList.getD (i+j) 0)::x.data.toList.drop (i+j+1):=by
  conv=>lhs;rw[<-List.take_append_drop j (x.data.toList.drop i)]
  rw[List.drop_drop,List.drop_eq_getElem_cons hlen,List.getD_eq_getElem?_getD,List.getElem?_eq_getElem hlen];rfl
 have hjl:((x.data.toList.drop i).take j).length=j:=by rw[List.length_take,List.length_drop];omega
 refine⟨((x.data.toList.drop (i+j+1)).take (k-(j+1))).map (·.toNat),fun b hb=>?_,?_,fun e=>?_⟩
 ·obtain⟨c,_,rfl⟩:=List.mem_map.1 hb;exact c.toNat_lt
 ·unfold SH
  conv=>lhs;rw[h1]
  rw[List.take_append,hjl,List.take_of_length_le (by omega),List.map_append,show k-j=(k-(j+1))+1 by omega,List.take_succ_cons,List.map_cons]
 ·subst e;simp
def Fz (V:List Nat->Int) (x:ByteArray) (i m:Nat) (r l:Int):Prop:=
 (r=-1/\l=1/\∀k,1<=k->k<=m->V (SH x i k)=-1)\/∃n:Nat,l=n/\1<=n/\n<=m/\r=V (SH x i n)/\r≠-1/\∀k,n<k->k<=m->V (SH x i k)=-1
variable {a:Act}{ops:Array Oper}{s x y:ByteArray}{Q:Exit->Act->World->Prop}{rule:Int}{rest:List Oper}{base d i k m n:Nat}{o:Oper}{ad:Option Addr}{v:Value}{w w':World}
theorem Fz.more {V:List Nat->Int}{m':Nat}{r l:Int} (h:Fz V x i m r l) (hm:m<=m') (hn:∀k,m<k->k<=m'->V (SH x i k)=-1):Fz V x i m' r l:=by
 rcases h with ⟨h1,h2,h3⟩|⟨n,h1,h2,h3,h4,h5,h6⟩
 ·refine Or.inl ⟨h1,h2,fun k k1 k2=>?_⟩;by_cases e:k<=m
  ·exact h3 k k1 e
  ·exact hn k (by omega) k2
 ·refine Or.inr ⟨n,h1,h2,by omega,h4,h5,fun k k1 k2=>?_⟩;by_cases e:k<=m
  ·exact h6 k k1 e
  ·exact hn k (by omega) k2
def Ev (M:Mc) (s:Int) (u:List Nat):Int:=ext (qM M) s (u.map fun b=>(M.cl b).toNat)
variable {M:Mc}
theorem Pd (S:Xq M) (V:List Nat->Int) (x:ByteArray) (i:Nat):∀(u j:Nat) (s:Nat) (r l:Int),i+j<=x.size->x.size<=i+j+u->s<M.nlb->(∀v:List Nat,(∀b∈v,b<256)->Ev M s v=V (SH x i j++v))->Fz V x i j r l ->
  Fz V x i (x.size-i) (Ql (Yc (XE M)) x i u (i+j) s r l).1 (Ql (Yc (XE M)) x i u (i+j) s r l).2
 |0,j,s,r,l,h1,h2,_,_,hb=>by
  have e:x.size-i=j:=by omega
  rw[e];exact hb
 |u+1,j,s,r,l,h1,h2,hs,hv,hb=>by
  by_cases hlt:i+j<x.size
  ·obtain⟨b,hbd⟩:=nam ((x.data.toList.getD (i+j) 0).toNat);have hb256:b<256:=by rw[hbd];exact UInt8.toNat_lt _
   have hfb:fb x (i+j)=(b:Int):=by rw[hbd];rfl
   have hst:=KK S s b hs hb256;have hcl:=(Gy S).1.ltK hb256;have hi:s*M.k+(M.cl b).toNat<M.nnx:=by
    have:(s+1)*M.k<=M.nlb*M.k:=Nat.mul_le_mul_right _ hs;rw[S.e,Nat.add_mul]at *;omega
   have hbd2:=S.b _ hi;rw[<-hst]at hbd2;have hev:∀v,Ev M s (b::v)=Ev M (Tr (Yc (XE M)) s b) v:=fun v=>by
    unfold Ev;rw[List.map_cons,ext_cons,hst];rfl
   by_cases hd:Tr (Yc (XE M)) s (fb x (i+j))=-1
   ·rw[Od hlt hd];refine hb.more (by omega) (fun k k1 k2=>?_);obtain⟨v,v1,v2,_⟩:=NO x hlt k1;rw[v2,<-hbd,<-hv (b::v) (fun c hc=>by
     rcases List.mem_cons.1 hc with rfl|hc
     ·exact hb256
     ·exact v1 c hc),hev v,<-hfb,hd]
    exact ext_none _ _ (by omega)
   ·obtain⟨s',hs'⟩:=Int.eq_ofNat_of_zero_le (show 0<=Tr (Yc (XE M)) s (fb x (i+j)) by rw[hfb]at hd ⊢;omega);have hsn:s'<M.nlb:=by rw[hfb]at hs';omega
    have hv':∀v:List Nat,(∀b∈v,b<256)->Ev M s' v=V (SH x i (j+1)++v):=fun v hvb=>by
     obtain⟨v0,_,v2,v3⟩:=NO x hlt (show j<j+1 by omega);rw[v3 rfl]at v2;rw[v2,List.append_assoc,List.cons_append,List.nil_append,<-hbd,<-hv (b::v) (fun c hc=>by
      rcases List.mem_cons.1 hc with rfl|hc
      ·exact hb256
      ·exact hvb c hc),hev v,<-hfb,hs']
    have hlb:Nx (Yc (XE M)) (Tr (Yc (XE M)) s (fb x (i+j)))=V (SH x i (j+1)):=by
     have h0:=hv' [] (fun b hb=>by simp at hb);rw[List.append_nil]at h0;rw[hs',KJ S s' hsn,<-h0];unfold Ev;rw[List.map_nil,ext_nil];rfl
    by_cases hl:Nx (Yc (XE M)) (Tr (Yc (XE M)) s (fb x (i+j)))=-1
    ·rw[Oc hlt hd hl,hs',Nat.add_assoc];refine Pd S V x i u (j+1) s' r l (by omega) (by omega) hsn hv' (hb.more (by omega) (fun k k1 k2=>?_));have:k=j+1:=by omega
     rw[this,<-hlb];exact hl
    ·rw[Oe hlt hd hl,hlb,hs',Nat.add_assoc];refine Pd S V x i u (j+1) s' _ _ (by omega) (by omega) hsn hv' (Or.inr ⟨j+1,by omega,by omega,Nat.le_refl _,rfl,by rw[<-hlb];exact hl,fun k k1 k2=>by omega⟩)
  ·rw[LT (by omega)];have e:x.size-i=j:=by omega
   rw[e];exact hb
def Iv (ws:Nat->List Nat) (N:Nat) (x:ByteArray) (i:Nat) (rule:Int) (n:Nat):Prop:=
 (n=0/\rule=-1/\∀r,r<N->∀k,1<=k->i+k<=x.size->ws r≠SH x i k) \/
 ∃q,q<N/\rule=(q:Int)/\1<=n/\i+n<=x.size/\ws q=SH x i n/\(∀r,r<N->∀k,n<k->i+k<=x.size->ws r≠SH x i k)/\∀r,r<q->ws r≠SH x i n
theorem JS (S:Xq M) {ws:Nat->List Nat}{N:Nat} (hN:N<=8) (hV:∀u:List Nat,(∀b∈u,b<256)->Ev M 0 u=wV ws N u) (x:ByteArray) {i:Nat} (hi:i<=x.size) {rule:Int}{n:Nat} (h:Iv ws N x i rule n):
  WP (Yc (XE M)) x i=(rule,if n=0 then 1 else (n:Int)):=by
 have hk:=Pd S (wV ws N) x i (x.size-i) 0 0 (-1) 1 (by omega) (by omega) (by have:=S.hd.2.1;omega) (fun v hv=>by
  have:=hV v hv;simpa[SH]using this) (Or.inl ⟨rfl,rfl,fun k k1 k2=>by omega⟩)
 have e:WP (Yc (XE M)) x i=Ql (Yc (XE M)) x i (x.size-i) (i+0) ((0:Nat):Int) (-1) 1:=rfl;rw[<-e]at hk;generalize WP (Yc (XE M)) x i=p at *;obtain⟨r,l⟩:=p;simp only at hk;rcases h with ⟨h1,h2,h3⟩|⟨q,q1,q2,q3,q4,q5,q6,q7⟩
 ·subst h1;rcases hk with ⟨k1,k2,_⟩|⟨m,k1,k2,k3,k4,k5,_⟩
  ·rw[k1,k2,h2];rfl
  ·exfalso;rcases Pf ws hN (SH x i m)with ⟨a,_⟩|⟨q,a1,_,a3,_⟩
   ·exact k5 (by rw[k4];exact a)
   ·exact h3 q a1 m k2 (by omega) a3
 ·have hw:wV ws N (SH x i n)=rule:=by
   rcases Pf ws hN (SH x i n)with ⟨_,a⟩|⟨q',a1,a2,a3,a4⟩
   ·exact absurd q5 (a q q1)
   ·have:q'=q:=by
     rcases Nat.lt_trichotomy q' q with hl|hl|hl
     ·exact absurd a3 (q7 q' hl)
     ·exact hl
     ·exact absurd q5 (a4 q hl)
    rw[a2,q2,this]
  rw[if_neg (by omega)];rcases hk with ⟨_,_,k3⟩|⟨m,k1,k2,k3,k4,k5,k6⟩
  ·have:=k3 n q3 (by omega);rw[hw,q2]at this;omega
  ·have hm:m=n:=by
    rcases Nat.lt_trichotomy m n with hl|hl|hl
    ·have:=k6 n hl (by omega);rw[hw,q2]at this;omega
    ·exact hl
    ·exfalso;rcases Pf ws hN (SH x i m)with ⟨a,_⟩|⟨q',a1,_,a3,_⟩
     ·exact k5 (by rw[k4];exact a)
     ·exact q6 q' a1 m hl (by omega) a3
   rw[k1,k4,hm,hw]
def FB (es:Nat->Rx) (n:Nat) (s:ByteArray):Prop:=∃M:Mc,Xq M/\s=XE M/\YV es n<=96/\∀u:List Nat,(∀b∈u,b<256)->ext (qM M) 0 (u.map fun b=>(M.cl b).toNat)=GA es n u
theorem Hl (b off cap n:Nat) (f:Nat->ByteArray) (w:World) (h1:1<=n) (h8:n<=8) (hb:b<w.heap.size) (hm:∀i,i<n->(f i).size<=maxLen) (hr:PK b off f n w) (hok:∀j,j<n->(Pg.wrong (Y5 (f j)) (f j).size).1=0) (hsum:¬96<X8 (fun j=>Yt (f j)) n)
  (hx1:¬ ∃s k l t q c,VP (VQ (fun j=>WY (f j)) n) (XQ (fun j=>WY (f j)) n) (Vh (fun j=>WY (f j)) n) s k l t/\l[s]?=some q/\(Vh (fun j=>WY (f j)) n)[k]?=some c/\200<=WL l (VQ (fun j=>WY (f j)) n q c))
  (hx2:∀l t,VP (VQ (fun j=>WY (f j)) n) (XQ (fun j=>WY (f j)) n) (Vh (fun j=>WY (f j)) n) l.length 0 l t->¬96<cnt (alB (Yf l t (Vh (fun j=>WY (f j)) n).length)) (Yf l t (Vh (fun j=>WY (f j)) n).length).N):
  Calls Tryz.prog 6 #[.slice (some ⟨b,off,none⟩) n cap] w fun en w'=>(∃s,en=.returned (.tuple #[.string s,.int .i64 0])/\FB (fun j=>WY (f j)) n s)/\Below w.heap.size w w':=by
 have hz:=Vv;have hz2:=WA;have HB:=hyd (KH b off cap n f w h1 h8 hb hm hr hok hsum);obtain⟨es,hes⟩:∃es:Nat->Rx,es=fun j=>WY (f j):=⟨_,rfl⟩
 have hrd:∀j,j<n->(Pg.readParts (Y5 (f j)) (f j).size).ok=true:=fun j hj=>((Xn (f j)).2 (hok j hj)).2.2
 have hns:=RB es (fun j=>Yt (f j)) n (fun i hi=>by rw[hes];exact Ur (f i) (hrd i hi)) hsum;have hfu:∀k,k<n->(es k).Full:=fun k hk=>by rw[hes];exact Pa (f k) (hok k hk)
 have hX:(¬ ∃s k l t q c,VP (VQ es n) (XQ es n) (Vh es n) s k l t/\l[s]?=some q/\(Vh es n)[k]?=some c/\200<=WL l (VQ es n q c))/\∀l t,VP (VQ es n) (XQ es n) (Vh es n) l.length 0 l t->¬96<cnt (alB (Yf l t (Vh es n).length)) (Yf l t (Vh es n).length).N:=by rw[hes];exact⟨hx1,hx2⟩
 have HX:=hyd hX;clear hx1 hx2 hX;rw[<-hes]at HB ⊢;have HP6:=hyd2 hns.2 hfu;clear hes hrd hns hfu hm hok hsum hr hb;go_enter Tryz.func6,Tryz.ntmps6;go_wp2_with fail;refine HB.out.mono ?_;rintro en w1 ⟨B1,hp⟩;clear HB;obtain⟨x1,x2⟩:=HX.out;rcases hp with ⟨_,hx⟩|⟨l,t,A0,hA0,hE,⟨hc,_⟩|⟨hc,vc,vl,vn,kf,rfl,hk,o1,o2,o3,_,_,_⟩⟩
 ·exact absurd hx x1
 ·exact absurd (by rw[hA0]at hc;exact hc) (x2 l t hE)
 have hMc:=Gj h1 h8 HP6.out.1 HP6.out.2 hE hA0 hc hk;obtain⟨s,hs⟩:=nam (XE (KI n (Xy (Cl (YT A0 (alB A0)) (cnt (alB A0) A0.N)) kf 256) (Xu A0 (alB A0) (cnt (alB A0) A0.N)) (WM (YT A0 (alB A0)) (reps (Cl (YT A0 (alB A0)) (cnt (alB A0) A0.N)) A0.K) (cnt (alB A0) A0.N))));have HG:Hid (FB es n s):=⟨_,hMc.snd,hs,HP6.out.1,fun u hu=>Ie HP6.out.1 hE hA0 hk hMc u hu⟩;have hSn:=hMc.snd;clear x1 x2;obtain⟨lc,hlc⟩:=nam (Xy (Cl (YT A0 (alB A0)) (cnt (alB A0) A0.N)) kf 256);obtain⟨ll,hll⟩:=nam (Xu A0 (alB A0) (cnt (alB A0) A0.N));obtain⟨lx,hlx⟩:=nam (WM (YT A0 (alB A0)) (reps (Cl (YT A0 (alB A0)) (cnt (alB A0) A0.N)) A0.K) (cnt (alB A0) A0.N));rw[<-hlc,<-hll,<-hlx]at hs hSn;rw[<-hlc]at o1;rw[<-hll]at o2;rw[<-hlx]at o3;clear hMc hE hA0 hc hk hlc hll hlx;obtain⟨a1,c1,e1,i1⟩:=o1.il;obtain⟨a2,c2,e2,i2⟩:=o2.il;obtain⟨a3,c3,e3,i3⟩:=o3.il;obtain⟨M,hM⟩:=nam (KI n lc ll lx);obtain⟨A,hA⟩:∃A:Qp,A=⟨a1,c1,a2,c2,a3,c3⟩:=⟨_,rfl⟩;have eT:(#[.int .i64 n,vc,vl,vn]:Array Value)=A.cells M:=by rw[e1,e2,e3,hA,hM];rfl
 have hIn:MY M A w1:=by rw[hA,hM];exact⟨i1,i2,i3⟩
 rw[<-hM]at hs hSn;have hk1:=hSn.k1;have hl:=hSn.hd.2.1;have hsz:GP M:=by
  have h3:M.nnx<=24576:=by rw[hSn.e];exact Nat.mul_le_mul hl.2 hk1.2
  exact⟨by rw[hSn.ncl];omega,by omega,by omega⟩
 rw[eT];obtain⟨W2,hW2⟩:=nam (w1.alloc (.cells (A.cells M) 41));have B2:Below w1.heap.size w1 W2:=by rw[hW2];exact Yh _ _
 have hAt:U4 w1.heap.size M A W2:=by rw[hW2];exact U4.boxed M A w1 _
 have Bw2:=B1.trans (B2.mono B1.size);have HBw:=hyd Bw2;have HS:=hyd hSn;have HGf:=hyd hs;have HPk:=hyd (QZ w1.heap.size M A W2 hsz hAt (hIn.below B2));unfold Qp.cells at hW2 ⊢;clear eT hIn hsz hM hA hAt B2 Bw2 e1 e2 e3 i1 i2 i3 o1 o2 o3 B1 hSn hs hk1 hl;go_wp2_with fail;rw[<-hW2];clear hW2;refine HPk.out.mono ?_;rintro en w3 ⟨B3,h⟩;rcases h with ⟨hS',_⟩|⟨_,g1,g2,vb,vd,vc',vn',rfl,hP⟩
 ·exact absurd HS.out hS'
 obtain⟨A2,hA2,hI2⟩:=hP.tb;rw[hA2];obtain⟨W4,hW4⟩:=nam (w3.alloc (.cells (A2.cells (XU M)) 45));have B4:Below w3.heap.size w3 W4:=by rw[hW4];exact Yh _ _
 have hAt4:Xa w3.heap.size (XU M) A2 W4:=by rw[hW4];exact Xa.boxed _ _ _ _
 have HEn:=hyd (UZ w3.heap.size (XU M) A2 W4 (Js HS.out) hAt4 (hI2.below B4));have HB4:=hyd (HBw.out.trans ((B3.trans (B4.mono B3.size)).mono HBw.out.size));unfold T8.cells at hW4 ⊢;clear hAt4 B4 B3 hP hA2 hI2 HPk HBw;go_wp2_with fail;rw[<-hW4];clear hW4;refine HEn.out.mono ?_;rintro en w5 ⟨B5,h⟩;rcases h with ⟨_,rfl⟩|⟨hn,_⟩
 ·have HB5:=hyd (HB4.out.trans (B5.mono HB4.out.size));clear B5 HEn;go_wp2_with fail;go_ret2;exact⟨⟨s,by rw[HGf.out];rfl,HG.out⟩,HB5.out⟩
 ·exact absurd (Uq HS.out) hn
def MR (f:Nat->ByteArray) (r:Nat):List Nat:=(f r).data.toList.map (·.toNat)
def TQ (f:Nat->ByteArray) (r:Nat):ByteArray:=XP (VX (f r).data.toList)
theorem PH {v:Nat->Int}:∀n:Nat,(∀j,j<n->v j<=8)->X8 v n<=8*n
 |0,_=>by simp[X8]
 |n+1,h=>by
  have h1:=PH n (fun j hj=>h j (by omega));have h2:=h n (by omega);rw[X8];omega
theorem Ky (f:Nat->ByteArray) (N:Nat) (h1:1<=N) (h8:N<=8) (hl:∀r,r<N->(f r).size<=8) (b off cap:Nat) (w:World) (hb:b<w.heap.size) (hr:PK b off (TQ f) N w):
  Calls Tryz.prog 6 #[.slice (some ⟨b,off,none⟩) N cap] w fun en w'=>(∃M:Mc,Xq M/\en=.returned (.tuple #[.string (XE M),.int .i64 0])/\∀u:List Nat,(∀b∈u,b<256)->Ev M 0 u=wV (MR f) N u)/\Below w.heap.size w w':=by
 have hlen:∀r,r<N->(f r).data.toList.length<=8:=fun r hr=>by have:=hl r hr;simpa using this
 have h40:∀r,r<N->(VX (f r).data.toList).length<=40:=fun r hr=>by have:=QP (f r).data.toList;have:=hlen r hr;omega
 have hin:∀r,r<N->(Pg.wrong (Y5 (TQ f r)) (TQ f r).size).1=0/\Yt (TQ f r)=Pg.capped (f r).data.toList.length:=fun r hr=>KC (Jc (f r).data.toList) (by omega) (h40 r hr) (TQ f r) (by simp[TQ,XP])
 have hok:∀r,r<N->(Pg.wrong (Y5 (TQ f r)) (TQ f r).size).1=0:=fun r hr=>(hin r hr).1
 have hrd:∀r,r<N->(Pg.readParts (Y5 (TQ f r)) (TQ f r).size).ok=true:=fun r hr=>((Xn (TQ f r)).2 (hok r hr)).2.2
 have hpl:∀r,r<N->Yt (TQ f r)<=8:=fun r hr=>by
  have:=hlen r hr;rw[(hin r hr).2,Pg.capped,if_neg (by omega)];omega
 have hsum:¬96<X8 (fun j=>Yt (TQ f j)) N:=by have:=PH N hpl;omega
 have hns:=RB (fun j=>WY (TQ f j)) (fun j=>Yt (TQ f j)) N (fun i hi=>Ur (TQ f i) (hrd i hi)) hsum;have hfu:∀k,k<N->(WY (TQ f k)).Full:=fun k hk=>Pa (TQ f k) (hok k hk)
 have hLq:∀r,r<N->(WY (TQ f r)).Lq=Wn (f r).data.toList:=fun r hr=>by
  rw[Id (hrd r hr) (g:=gL (f r).data.toList) (by have:=Lr (f r).data.toList;simpa[TQ,XP]using this),Ge]
 have hLg:∀r,r<N->∀u:List Nat,(∀b∈u,b<256)->((WY (TQ f r)).Lg u<->u=MR f r):=fun r hr u hu=>by
  have h2:=Rx.lq_lg (WY (TQ f r)) u;rw[hLq r hr]at h2;exact⟨fun h=>h2.2 ⟨h,hu⟩,fun h=>(h2.1 h).1⟩
 obtain⟨x1,x2⟩:=Ld (es:=fun j=>WY (TQ f j)) (MR f) h1 h8 hns.2 hfu (fun r hr u hu h=>(hLg r hr u hu).1 h) (fun r hr=>by have:=hlen r hr;simpa[MR]using this);refine(Hl b off cap N (TQ f) w h1 h8 hb (fun i hi=>by have:=h40 i hi;show(XP _).size<=_;rw[Rz];unfold maxLen;omega) hr hok hsum x1 x2).mono ?_;rintro en w' ⟨⟨s,rfl,M,hS,rfl,_,hv⟩,B⟩;refine⟨⟨M,hS,rfl,fun u hu=>?_⟩,B⟩;show ext (qM M) 0 (u.map fun b=>(M.cl b).toNat)=_;rw[hv u hu];refine Uw 8 0 (fun r _ _=>?_);have h3:=NJ (fun j=>WY (TQ f j)) N hns.2 r u;rw[Bool.eq_iff_iff,h3,decide_eq_true_eq];constructor
 ·rintro ⟨a,c⟩;exact⟨a,((hLg r a u hu).1 c).symm⟩
 ·rintro ⟨a,c⟩;exact⟨a,(hLg r a u hu).2 c.symm⟩
theorem KA:∃i,Tryz.prog.info? 9=some i/\i.zero=some (.string ⟨#[]⟩)/\i.size=1/\i.bytes=16:=by
 have h:(Tryz.prog.info? 9).isSome=true:=by kernel_rfl
 obtain⟨i,hi⟩:=Option.isSome_iff_exists.1 h;refine⟨i,hi,?_,?_,?_⟩
 ·have:((Tryz.prog.info? 9).bind (·.zero))=some (.string ⟨#[]⟩):=by kernel_rfl
  rw[hi]at this;simpa using this
 ·have:((Tryz.prog.info? 9).map (·.size))=some 1:=by kernel_rfl
  rw[hi]at this;simpa using this
 ·have:((Tryz.prog.info? 9).map (·.bytes))=some 16:=by kernel_rfl
  rw[hi]at this;simpa using this
def FT (l:List ByteArray):List Value:=l.map .string
def Xi (base:Nat) (v:Value) (l:List ByteArray) (w:World):Prop:=w.ownsRow base 9 1 v l.length (FT l)
theorem Xi.nil (base:Nat) (w:World):Xi base (.slice none 0 0) [] w:=⟨rfl,Or.inl ⟨rfl,rfl⟩⟩
theorem Xi.blk {l:List ByteArray} (h:Xi base v l w):∀k,v.ownBlock=some k->base<=k/\k<w.heap.size:=fun k hk=>h.lt k hk
theorem Xi.keep {l:List ByteArray} (h:Xi base v l w) (hk:∀k,v.ownBlock=some k->w'.heap[k]?=w.heap[k]?):Xi base v l w':=by
 obtain⟨h1,h2⟩:=h;refine⟨h1,?_⟩;rcases h2 with h2|⟨g,cap,cur,rfl,hb,hg,hr⟩
 ·exact Or.inl h2
 ·exact Or.inr ⟨g,cap,cur,rfl,hb,by rw[hk g rfl];exact hg,hr⟩
theorem Xi.below {l:List ByteArray} (h:Xi base v l w) (hW:Below w.heap.size w w'):Xi base v l w':=h.keep (fun k hk=>hW.block k (h.blk k hk).2)
theorem Xi.sl {l:List ByteArray} (h:Xi base v l w):∃la lc,v=.slice la l.length lc:=by
 rcases h.2 with ⟨h1,h2⟩|⟨g,cap,_,e,_⟩
 ·exact⟨none,0,by rw[h1,h2]⟩
 ·exact⟨_,cap,e⟩
theorem Xi.row {l:List ByteArray} (h:Xi base v l w) (hl:0<l.length):∃g cap,v=.slice (some ⟨g,0,none⟩) l.length cap/\PK g 0 (fun j=>l.getD j ⟨#[]⟩) l.length w/\g<w.heap.size:=by
 obtain⟨g,cap,e,_,hg⟩:=World.ownsRow.form h hl;refine⟨g,cap,e,fun i hi=>?_,hg⟩;have hx:=h.cells (g:=g) (by rw[e];rfl) i (.string (l.getD i ⟨#[]⟩)) (by
  rw[FT,List.getElem?_map,List.getElem?_eq_getElem hi,List.getD_eq_getElem?_getD,List.getElem?_eq_getElem hi];rfl)
 rw[Addr.add_mid]at hx;exact hx
theorem WQ (hgd:o.guard=none) (s x:Operand)
  (ho:o.op=.call { callee:=.builtin .append,args:=#[s,x],argTypes:=#[22,22] }) (base:Nat)
  (v:Value) (l:List ByteArray) (hs:a.eval s=v) (hown:Xi base v l w) (hn:l.length<=100000)
  (B:Nat) (t:ByteArray) (hx:a.eval x=.slice (some ⟨B,0,none⟩) 1 1) (hnews:w.cell? ⟨B,0,none⟩=some (.string t)) (hbase:base<=w.heap.size)
  (h:∀g cap w',Xi base (.slice (some ⟨g,0,none⟩) (l.length+1) cap) (l++[t]) w'->w.grownBy w' v.ownBlock->wpList Tryz.prog ops Q rest (a.put o.dst (.slice (some ⟨g,0,none⟩) (l.length+1) cap)) w'):wpList Tryz.prog ops Q (o::rest) a w:=by
 obtain⟨i,hi,hz0,hz1,hz2⟩:=KA;refine wpList_append_lies w hgd s x 22 ho base 9 i (.string ⟨#[]⟩) 1 16 u_n hi hz0 hz1 hz2 (by simp[Value.cells]) (by omega) v l.length (FT l) hs hown ⟨B,0,none⟩ 1 1 [.string t] hx rfl (fun j u hu=>?_) (by simp[Value.oneCell']) (by omega) (by unfold maxLen;omega) (by omega) hbase _ rfl ?_
 ·rw[Addr.add_mid,Nat.zero_add];cases j with
  |zero=>simp at hu;subst hu;exact hnews
  |succ j=>simp at hu
 intro g cap w' h1 h2 h3 h4;refine h g cap w' ?_ h2;unfold Xi;rw[show FT (l++[t])=FT l++[.string t] by simp[FT],List.length_append];exact h1
def OD (s:ByteArray):ByteArray:=if 8<s.size then s.extract 0 8 else s
theorem IS (s:ByteArray):(OD s).size<=8:=by
 unfold OD;split
 ·simp;omega
 ·omega
def TH (f:Nat->ByteArray) (n:Nat):List ByteArray:=(List.range n).map fun i=>OD (f i)
theorem Pq (f:Nat->ByteArray) (n:Nat):TH f (n+1)=TH f n++[OD (f n)]:=by simp[TH,List.range_succ]
theorem Vm (f:Nat->ByteArray) (n:Nat):(TH f n).length=n:=by simp[TH]
theorem Ha (h:i<s.size):s.extract i (i+1)=XP [s[i]]:=by
 apply ByteArray.ext;apply Array.ext';have e:(s.extract i (i+1)).data.toList=(s.data.toList.drop i).take 1:=by
  simp[ByteArray.data_extract,List.extract_eq_take_drop]
 rw[e];have hl:i<s.data.toList.length:=by simpa using h
 rw[List.drop_eq_getElem_cons hl];simp[XP];rfl
def FI:ByteArray:=⟨#[48,49,50,51,52,53,54,55,56,57,97,98,99,100,101,102]⟩
theorem Ja:∀d:Fin 16,(FI.extract d.val (d.val+1)).data.toList=[RV d.val]:=by decide
theorem Ly (h:d<16):FI.extract d (d+1)=XP [RV d]:=by
 apply ByteArray.ext;apply Array.ext';exact Ja ⟨d,h⟩
theorem KG (h:i<s.size):VX (s.data.toList.take (i+1))=VX (s.data.toList.take i)++TJ s[i]:=by
 have hl:i<s.data.toList.length:=by simpa using h
 rw[List.take_add_one,List.getElem?_eq_getElem hl];simp[VX];rfl
def Qr (ad:Option Addr) (f:Nat->ByteArray) (n:Nat) (w:World):Prop:=∀i,i<n->∃b o,ad=some ⟨b,o,none⟩/\w.cell? ⟨b,o+i,none⟩=some (.string (f i))
theorem Qr.below {f:Nat->ByteArray} (h:Qr ad f n w) (hW:Below w.heap.size w w'):Qr ad f n w':=fun i hi=>by
 obtain⟨b,o,e,hc⟩:=h i hi;refine⟨b,o,e,?_⟩;rw[hW.cell (p:=⟨b,o+i,none⟩) (World.block_lt_of_cell? w _ hc)];exact hc
theorem Hi (ad:Option Addr) (n cap:Nat) (f:Nat->ByteArray) (w:World) (hn:n<=17592186044416) (hI:Qr ad f n w):
  Calls Tryz.prog 4 #[.slice ad n cap] w fun e w'=>∃v,e=.returned v/\Xi w.heap.size v (TH f (min n 8)) w'/\Below w.heap.size w w':=by
 have HI:Hid (∀w',Below w.heap.size w w'->Qr ad f n w'):=fun w' h=>hI.below h
 clear hI;go_enter Tryz.func4,Tryz.ntmps4;go_wp2_with fail
 go_loopw [3,4,5] (fun lv y _ w'=>∃i:Nat,i<=n/\i<=8/\y=.int .i64 i/\Xi w.heap.size lv (TH f i) w'/\Below w.heap.size w w') (fun _ y _ _=>8-(intOf y).toNat)
 case atStart=>exact⟨0,by omega,by omega,rfl,Xi.nil _ _,Below.refl _ _⟩
 case round=>
  obtain⟨i,hi,h8,rfl,O,B⟩:=hrel;obtain⟨la,lc,hla⟩:=O.sl;rw[Vm]at hla;subst hla;have HO:=hyd O;clear O;by_cases hlt:i<n
  ·have hlt':(i:Int)<n:=by omega
   by_cases h88:i<8
   ·have h88':(i:Int)<8:=by omega
    obtain⟨g,o,hg,hc⟩:=HI.out wr B i hlt;subst hg;obtain⟨s,hs⟩:=nam (f i);rw[<-hs]at hc;obtain⟨c,hcc⟩:=nam (OD s);have HC:Hid (c=OD (f i)):=by show c=_;rw[hcc,hs]
    clear hs;by_cases hbig:8<s.size
    ·have hbig':(8:Int)<(s.size:Int):=by omega
     have hcx:c=s.extract 0 8:=by rw[hcc,OD,if_pos hbig]
     have hle:(8:Int)<=(s.size:Int):=by omega
     clear hcc;go_wp2_with (first|(with_reducible show wpList _ _ _ (⟨_,Op.call { callee:=Callee.builtin Builtin.append,args:=_,argTypes:=_ },_,_,_,_⟩::_) _ _;refine Wg.out ?_));refine⟨?_⟩;rw[<-hcx];obtain⟨W3,hW3⟩:=nam (wr.alloc (.cells #[.string c] 9));rw[<-hW3];have B3:Below wr.heap.size wr W3:=by rw[hW3];exact box_bel _ _
     have T3:TZ wr.heap.size [.string c] W3:=by rw[hW3];exact TZ.boxed wr _ _
     have O3:=HO.out.below B3;have BW3:=B.trans (B3.mono B.size);refine WQ rfl _ _ rfl w.heap.size (.slice la i lc) (TH f i) rfl O3 (by rw[Vm];omega) wr.heap.size c rfl (T3 0 _ rfl).1 BW3.size ?_;intro g2 cap2 w4 h1 h2;have HB4:=hyd (BW3.grown h2 BW3.size (fun q hq=>(O3.blk q hq).1));rw[Vm]at h1 ⊢;have HO4:Hid (Xi w.heap.size (.slice (some ⟨g2,0,none⟩) (i+1) cap2) (TH f (i+1)) w4):=by show Xi _ _ _ _;rw[Pq,<-HC.out];exact h1
     clear h1 h2 O3 BW3 T3 B3 hW3 HO hcx
     (try simp only[psm])
     go_wp2_with fail;go_roundw
     case rel=>exact⟨i+1,by omega,by omega,by go_num,HO4.out,HB4.out⟩
     case measure=>simp[intOf];omega
    ·have hbig':¬(8:Int)<(s.size:Int):=by omega
     have hcx:c=s:=by rw[hcc,OD,if_neg hbig]
     clear hcc;go_wp2_with (first|(with_reducible show wpList _ _ _ (⟨_,Op.call { callee:=Callee.builtin Builtin.append,args:=_,argTypes:=_ },_,_,_,_⟩::_) _ _;refine Wg.out ?_));refine⟨?_⟩;rw[<-hcx];obtain⟨W3,hW3⟩:=nam (wr.alloc (.cells #[.string c] 9));rw[<-hW3];have B3:Below wr.heap.size wr W3:=by rw[hW3];exact box_bel _ _
     have T3:TZ wr.heap.size [.string c] W3:=by rw[hW3];exact TZ.boxed wr _ _
     have O3:=HO.out.below B3;have BW3:=B.trans (B3.mono B.size);refine WQ rfl _ _ rfl w.heap.size (.slice la i lc) (TH f i) rfl O3 (by rw[Vm];omega) wr.heap.size c rfl (T3 0 _ rfl).1 BW3.size ?_;intro g2 cap2 w4 h1 h2;have HB4:=hyd (BW3.grown h2 BW3.size (fun q hq=>(O3.blk q hq).1));rw[Vm]at h1 ⊢;have HO4:Hid (Xi w.heap.size (.slice (some ⟨g2,0,none⟩) (i+1) cap2) (TH f (i+1)) w4):=by show Xi _ _ _ _;rw[Pq,<-HC.out];exact h1
     clear h1 h2 O3 BW3 T3 B3 hW3 HO hcx
     (try simp only[psm])
     go_wp2_with fail;go_roundw
     case rel=>exact⟨i+1,by omega,by omega,by go_num,HO4.out,HB4.out⟩
     case measure=>simp[intOf];omega
   ·have h88':¬(i:Int)<8:=by omega
    go_wp2_with fail;go_ret;refine⟨_,rfl,?_,B⟩;rw[show min n 8=i by omega];exact HO.out
  ·have hlt':¬(i:Int)<n:=by omega
   go_wp2_with fail;go_ret;refine⟨_,rfl,?_,B⟩;rw[show min n 8=i by omega];exact HO.out
variable {P:Program}{md:Region.Mode}
theorem Uv (i:Nat) {oi:Oper}{v:Value}{fuel:Nat}{listed:Array Bool}{a A:Act}{w:World} (r:wpAny P md ops Q fuel (listed.setIfInBounds i true) A w)
  (h:ops[i]?=some oi:=by simp only[gel];rfl)
  (hs:(Region.noSelect ops&&Region.free md ops listed i&&(Region.ready md ops listed).contains i)=true:=by kernel_rfl)
  (hQ:∀c a w,Q (.panic c) (Act.put a oi.dst v) w->Q (.panic c) a w:=by exact fun _ _ _ h=>h)
  (hy:Yields P ops oi v a:=by exact Or.inl ⟨by rfl,by intro w';go_simp;first|done|with_reducible rfl⟩)
  (hA:a.put oi.dst v=A:=by(try simp only[psm]);rfl):wpAny P md ops Q (fuel+1) listed a w:=by
 simp only[Bool.and_eq_true]at hs;subst hA;exact wpAny_take h hs.1.1 hs.1.2 hs.2 hQ hy r
theorem NC (s:ByteArray) (w:World) (hs:s.size<=8):
  Calls Tryz.prog 5 #[.string s] w fun e w'=>e=.returned (.string (XP (VX s.data.toList)))/\Below w.heap.size w w':=by
 go_enter Tryz.func5,Tryz.ntmps5;go_wp2_with fail
 go_loopw [3,4,5] (fun pv y _ w'=>∃i:Nat,i<=s.size/\pv=.string (XP (VX (s.data.toList.take i)))/\y=.int .i64 i/\Below w.heap.size w w') (fun _ y _ _=>s.size-(intOf y).toNat)
 case atStart=>exact⟨0,by omega,rfl,rfl,Below.refl _ _⟩
 case round=>
  obtain⟨i,hi,rfl,rfl,B⟩:=hrel;obtain⟨P,hP⟩:=nam (XP (VX (s.data.toList.take i)));have sP:P.size<=32:=by
   rw[hP,Rz];have h1:=QP (s.data.toList.take i);have h2:(s.data.toList.take i).length<=i:=by rw[List.length_take];omega
   omega
  have HP:=hyd hP;rw[<-hP];clear hP;by_cases hlt:i<s.size
  ·have hlt':(i:Int)<(s.size:Int):=by omega
   have HX:=hyd (Ha hlt);have HL:=hyd (KG hlt);obtain⟨c,hc⟩:=nam (s[i].toNat);have c256:c<256:=by rw[hc];exact UInt8.toNat_lt _
   have HC:=hyd hc;by_cases hlet:97<=c/\c<=122
   ·have h97:(97:Int)<=(s[i].toNat:Int):=by omega
    have h122:(s[i].toNat:Int)<=122:=by omega
    have i1:(i:Int)<=i+1:=by omega
    have i2:(i:Int)+1<=(s.size:Int):=by omega
    have HB:Hid (TJ s[i]=[s[i]]):=by show _=_;unfold TJ;rw[if_pos (by omega)]
    clear hc;go_wp2_with fail;go_roundw
    case rel=>exact⟨i+1,by omega,by rw[HX.out,HL.out,HB.out,<-U6,<-HP.out],by go_num,B⟩
    case measure=>simp[intOf];omega
   ·have hnl:¬((97:Int)<=(s[i].toNat:Int)/\(s[i].toNat:Int)<=122):=by omega
    obtain⟨d1,hd1⟩:=nam (c/16);obtain⟨d2,hd2⟩:=nam (c%16);have HB:Hid (TJ s[i]=[92,120,RV d1,RV d2]):=by show _=_;unfold TJ;rw[if_neg (by omega),hd1,hd2,hc]
    obtain⟨E1,hE1⟩:=nam ((⟨#[48,49,50,51,52,53,54,55,56,57,97,98,99,100,101,102]⟩:ByteArray).extract d1 (d1+1));obtain⟨E2,hE2⟩:=nam ((⟨#[48,49,50,51,52,53,54,55,56,57,97,98,99,100,101,102]⟩:ByteArray).extract d2 (d2+1));have HE:Hid (E1=XP [RV d1]/\E2=XP [RV d2]):=⟨by rw[hE1];exact Ly (by omega),by rw[hE2];exact Ly (by omega)⟩;have z1:E1.size=1:=by rw[HE.out.1,Rz];rfl
    have z2:E2.size=1:=by rw[HE.out.2,Rz];rfl
    have n4:¬9223372036854775807<P.size+2+1:=by omega
    have n5:¬9223372036854775807<P.size+2+1+1:=by omega
    have hq:Int.tdiv (c:Int) 16=(d1:Int):=by rw[Int.tdiv_eq_ediv_of_nonneg (by omega)];omega
    have hm:Int.tmod (c:Int) 16=(d2:Int):=by rw[Int.tmod_eq_emod_of_nonneg (by omega)];omega
    have l1:d1<16:=by omega
    have w1:IntKind.i64.wrap (d1:Int)=(d1:Int):=by simp[IntKind.wrap,IntKind.bits,IntKind.signed];omega
    have w2:IntKind.i64.wrap (d2:Int)=(d2:Int):=by simp[IntKind.wrap,IntKind.bits,IntKind.signed];omega
    have w3:IntKind.i64.wrap ((d1:Int)+1)=(d1:Int)+1:=by simp[IntKind.wrap,IntKind.bits,IntKind.signed];omega
    have w4:IntKind.i64.wrap ((d2:Int)+1)=(d2:Int)+1:=by simp[IntKind.wrap,IntKind.bits,IntKind.signed];omega
    have n1:¬9223372036854775807<P.size+2:=by omega
    have b1:(d1:Int)<=d1+1:=by omega
    have b2:(d1:Int)+1<=16:=by omega
    have b3:(d2:Int)<=d2+1:=by omega
    have b4:(d2:Int)+1<=16:=by omega
    have HE1:=hyd hE1;have HE2:=hyd hE2;clear hd1 hd2 hE1 hE2;by_cases h97:97<=c
    ·have h97':(97:Int)<=(s[i].toNat:Int):=by omega
     have h122:¬(s[i].toNat:Int)<=122:=by omega
     go_wp2_with fail;rw[<-HC.out];clear hc HC hnl;refine wp_region_any (by kernel_rfl) ?_;change wpAny _ _ _ _ 17 _ _ wr.drew;refine Uv 0 ?_;refine Uv 1 ?_;refine Uv 2 ?_;refine Uv 3 ?_;refine Uv 4 ?_;refine Uv 5 ?_;refine Uv 6 ?_;refine Uv 7 ?_;rw[<-HE1.out];refine Uv 8 ?_;refine Uv 9 ?_;refine Uv 10 ?_;refine Uv 11 ?_;refine Uv 12 ?_;refine Uv 13 ?_;refine Uv 14 ?_;rw[<-HE2.out];refine Uv 15 ?_;refine Uv 16 ?_;refine wpAny_done (by kernel_rfl) ?_ _;have HBd:=hyd B.drew;clear B;go_wp2_with fail;go_roundw
     case rel=>exact⟨i+1,by omega,by rw[HL.out,HB.out,HE.out.1,HE.out.2,HP.out];exact congrArg Value.string (by show XP _++XP [92,120]++XP [RV d1]++XP [RV d2]=_;rw[U6,U6,U6];simp),by go_num,HBd.out⟩
     case measure=>simp[intOf];omega
    ·have h97':¬(97:Int)<=(s[i].toNat:Int):=by omega
     go_wp2_with fail;rw[<-HC.out];clear hc HC hnl;refine wp_region_any (by kernel_rfl) ?_;change wpAny _ _ _ _ 17 _ _ wr.drew;refine Uv 0 ?_;refine Uv 1 ?_;refine Uv 2 ?_;refine Uv 3 ?_;refine Uv 4 ?_;refine Uv 5 ?_;refine Uv 6 ?_;refine Uv 7 ?_;rw[<-HE1.out];refine Uv 8 ?_;refine Uv 9 ?_;refine Uv 10 ?_;refine Uv 11 ?_;refine Uv 12 ?_;refine Uv 13 ?_;refine Uv 14 ?_;rw[<-HE2.out];refine Uv 15 ?_;refine Uv 16 ?_;refine wpAny_done (by kernel_rfl) ?_ _;have HBd:=hyd B.drew;clear B;go_wp2_with fail;go_roundw
     case rel=>exact⟨i+1,by omega,by rw[HL.out,HB.out,HE.out.1,HE.out.2,HP.out];exact congrArg Value.string (by show XP _++XP [92,120]++XP [RV d1]++XP [RV d2]=_;rw[U6,U6,U6];simp),by go_num,HBd.out⟩
     case measure=>simp[intOf];omega
  ·have hlt':¬(i:Int)<(s.size:Int):=by omega
   go_wp2_with fail;go_ret;refine⟨?_,B⟩;show Ending.returned (Value.string P)=_;rw[HP.out,List.take_of_length_le (by simp;omega)]
theorem LM (h:i+k<=x.size):(SH x i k).length=k:=by
 unfold SH;rw[List.length_map,List.length_take,List.length_drop];have:x.data.toList.length=x.size:=by simp
 omega
theorem LV (f:Nat->ByteArray) (r:Nat):(MR f r).length=(f r).size:=by unfold MR;simp
theorem NG {a b:List UInt8} (h:a.map (·.toNat)=b.map (·.toNat)):a=b:=by
 induction a generalizing b with
 |nil=>cases b with
  |nil=>rfl
  |cons y b=>simp at h
 |cons x a ih=>cases b with
  |nil=>simp at h
  |cons y b=>
   simp only[List.map_cons,List.cons.injEq]at h;rw[UInt8.toNat_inj.1 h.1,ih h.2]
theorem NP (h:s.size<=y.size):(y.extract 0 s.size).toList=s.toList<->s.data.toList.map (·.toNat)=SH y 0 s.size:=by
 rw[ByteArray.toList_eq,ByteArray.toList_eq];have e:(y.extract 0 s.size).data.toList=y.data.toList.take s.size:=by simp[ByteArray.data_extract,List.extract_eq_take_drop]
 rw[e];unfold SH;rw[List.drop_zero];exact⟨fun h=>by rw[h],fun h=>(NG h).symm⟩
theorem Jm {f:Nat->ByteArray}{r:Nat} (h:Iv (MR f) r y 0 rule n) (h1:n<(f r).size) (h2:(f r).size<=y.size) (h3:(y.extract 0 (f r).size).toList=(f r).toList):Iv (MR f) (r+1) y 0 r (f r).size:=by
 have e:=(NP h2).1 h3;have hold:∀r',r'<r->∀k,n<k->0+k<=y.size->MR f r'≠SH y 0 k:=by
  rcases h with ⟨a1,_,a3⟩|⟨q,_,_,_,_,_,a6,_⟩
  ·exact fun r' hr k hk hy=>a3 r' hr k (by omega) hy
  ·exact a6
 refine Or.inr ⟨r,by omega,rfl,by omega,by omega,e,fun r' hr k hk hy=>?_,fun r' hr=>hold r' hr _ h1 (by omega)⟩;by_cases er:r'=r
 ·subst er;intro e2;have l1:=congrArg List.length e2;rw[LV,LM (by omega)]at l1;omega
 ·exact hold r' (by omega) k (by omega) hy
theorem QQ {f:Nat->ByteArray}{r:Nat} (h:Iv (MR f) r y 0 rule n) (hn:n<(f r).size->(f r).size<=y.size->¬(y.extract 0 (f r).size).toList=(f r).toList):Iv (MR f) (r+1) y 0 rule n:=by
 have hnew:∀k,n<k->0+k<=y.size->MR f r≠SH y 0 k:=fun k hk hy e=>by
  have l1:=congrArg List.length e;rw[LV,LM (by omega)]at l1;rw[<-l1]at e hk hy;exact hn hk (by omega) ((NP (by omega)).2 e)
 rcases h with ⟨a1,a2,a3⟩|⟨q,a1,a2,a3,a4,a5,a6,a7⟩
 ·refine Or.inl ⟨a1,a2,fun r' hr k hk hy=>?_⟩;by_cases er:r'=r
  ·subst er;exact hnew k (by omega) hy
  ·exact a3 r' (by omega) k hk hy
 ·refine Or.inr ⟨q,by omega,a2,a3,a4,a5,fun r' hr k hk hy=>?_,a7⟩;by_cases er:r'=r
  ·subst er;exact hnew k hk hy
  ·exact a6 r' (by omega) k hk hy
theorem WZ {S:World->Prop} (i:Nat) {oi:Oper}{v:Value}{fuel:Nat}{listed:Array Bool}{a A:Act}{w:World} (r:wpAnyH P md ops Q S fuel (listed.setIfInBounds i true) A w)
  (h:ops[i]?=some oi:=by simp only[gel];rfl)
  (hs:(Region.noSelect ops&&Region.free md ops listed i&&(Region.ready md ops listed).contains i)=true:=by kernel_rfl)
  (hQ:∀c a w,Q (.panic c) (Act.put a oi.dst v) w->Q (.panic c) a w:=by exact fun _ _ _ h=>h)
  (hy:YieldsIf P ops S oi v a:=by first|exact Or.inl ⟨by rfl,by intro w' hSw;go_simp;first|done|with_reducible rfl⟩|exact Or.inr ⟨by rfl,rfl⟩)
  (hS:S w:=by assumption)
  (hA:a.put oi.dst v=A:=by(try simp only[psm]);rfl):wpAnyH P md ops Q S (fuel+1) listed a w:=by
 simp only[Bool.and_eq_true]at hs;subst hA;exact wpAnyH_take h hs.1.1 hs.1.2 hs.2 hQ hy hS r
theorem NE (ad:Option Addr) (N cap:Nat) (f:Nat->ByteArray) (y:ByteArray) (w:World) (hN:N<=8) (hl:∀r,r<N->(f r).size<=8) (hy:y.size<=2000) (hI:Qr ad f N w):
  Calls Tryz.prog 9 #[.slice ad N cap,.string y] w fun e w'=>(∃(rule:Int) (n:Nat),e=.returned (.tuple #[.int .i64 rule,.int .i64 (if n=0 then 1 else (n:Int))])/\Iv (MR f) N y 0 rule n)/\Below w.heap.size w w':=by
 have HI:Hid (∀w',Below w.heap.size w w'->Qr ad f N w'):=fun w' h=>hI.below h
 have HL:=hyd hl;clear hI hl;go_enter Tryz.func9,Tryz.ntmps9;go_wp2_with fail
 go_loopw [6,7,8,9] (fun u7 u8 u9 _ w'=>∃(r n:Nat) (rule:Int),r<=N/\u7=.int .i64 rule/\u8=.int .i64 n/\u9=.int .i64 r/\n<=8/\Hid (Iv (MR f) r y 0 rule n)/\Below w.heap.size w w') (fun _ _ z _ _=>N-(intOf z).toNat)
 case atStart=>exact⟨0,0,-1,by omega,rfl,rfl,rfl,by omega,Or.inl ⟨rfl,rfl,fun r hr=>by omega⟩,Below.refl _ _⟩
 case round=>
  obtain⟨r,n,rule,hr,rfl,rfl,rfl,n8,HG,B⟩:=hrel;by_cases hlt:r<N
  ·have hlt':(r:Int)<N:=by omega
   obtain⟨g,o,hg,hc⟩:=HI.out wr B r hlt;subst hg;obtain⟨s,hs⟩:=nam (f r);have s8:s.size<=8:=by rw[hs];exact HL.out r hlt
   have HS:=hyd hs;rw[<-hs]at hc;clear hs;by_cases k1:n<s.size
   ·have k1':(n:Int)<(s.size:Int):=by omega
    by_cases k2:s.size<=y.size
    ·have k2':(s.size:Int)<=(y.size:Int):=by omega
     obtain⟨q,hq⟩:=nam (((y.extract 0 s.size).toList==s.toList));have HQ:=hyd hq;clear hq;go_wp2_with fail;have hcd:=hc;refine wp_region_held_drew (S:=fun w'=>w'.cell? ⟨g,o+r,none⟩=some (.string s)) (by kernel_rfl) hcd (fun hHeld=>?_);refine WZ 0 ?_;refine WZ 1 ?_;refine WZ 2 ?_;refine WZ 3 ?_;refine WZ 4 ?_;refine WZ 5 ?_;refine WZ 6 ?_;refine WZ 7 ?_;refine WZ 8 ?_;refine WZ 9 ?_;refine WZ 10 ?_;refine WZ 11 ?_;refine WZ 12 ?_;refine WZ 13 ?_;refine WZ 14 ?_;refine WZ 15 ?_;refine WZ 16 ?_;refine WZ 17 ?_;rw[<-HQ.out];refine WZ 18 ?_;refine wpAnyH_done (by kernel_rfl) ?_ _;have HBd:=hyd B.drew;clear B hcd hc;cases q
     ·go_wp2_with fail;go_roundw
      case rel=>exact⟨r+1,n,rule,by omega,rfl,rfl,by go_num,n8,QQ HG.out (fun _ _ e=>by have:=HQ.out;rw[HS.out,e]at this;simp at this),HBd.out⟩
      case measure=>simp[intOf];omega
     ·go_wp2_with fail;go_roundw
      case rel=>exact⟨r+1,s.size,r,by omega,rfl,rfl,by go_num,s8,by rw[HS.out];exact Jm HG.out (by rw[<-HS.out];exact k1) (by rw[<-HS.out];exact k2) (by rw[<-HS.out];have:=HQ.out;exact eq_of_beq this.symm),HBd.out⟩
      case measure=>simp[intOf];omega
    ·have k2':¬(s.size:Int)<=(y.size:Int):=by omega
     go_wp2_with fail;have hcd:=hc;refine wp_region_held_drew (S:=fun w'=>w'.cell? ⟨g,o+r,none⟩=some (.string s)) (by kernel_rfl) hcd (fun hHeld=>?_);refine WZ 0 ?_;refine WZ 1 ?_;refine WZ 2 ?_;refine WZ 3 ?_;refine WZ 4 ?_;refine WZ 5 ?_;refine WZ 6 ?_;refine WZ 7 ?_;refine WZ 8 ?_;refine WZ 9 ?_;refine WZ 10 ?_;refine WZ 11 ?_;refine WZ 12 ?_;refine WZ 13 ?_;refine WZ 14 ?_;refine WZ 15 ?_;refine WZ 16 ?_;refine WZ 17 ?_;refine WZ 18 ?_;refine wpAnyH_done (by kernel_rfl) ?_ _;have HBd:=hyd B.drew;clear B hcd hc;go_wp2_with fail;go_roundw
     case rel=>exact⟨r+1,n,rule,by omega,rfl,rfl,by go_num,n8,QQ HG.out (fun _ h=>by rw[<-HS.out]at h;omega),HBd.out⟩
     case measure=>simp[intOf];omega
   ·have k1':¬(n:Int)<(s.size:Int):=by omega
    go_wp2_with fail;have hcd:=hc;refine wp_region_held_drew (S:=fun w'=>w'.cell? ⟨g,o+r,none⟩=some (.string s)) (by kernel_rfl) hcd (fun hHeld=>?_);refine WZ 0 ?_;refine WZ 1 ?_;refine WZ 2 ?_;refine WZ 3 ?_;refine WZ 4 ?_;refine WZ 5 ?_;refine WZ 6 ?_;refine WZ 7 ?_;refine WZ 8 ?_;refine WZ 9 ?_;refine WZ 10 ?_;refine WZ 11 ?_;refine WZ 12 ?_;refine WZ 13 ?_;refine WZ 14 ?_;refine WZ 15 ?_;refine WZ 16 ?_;refine WZ 17 ?_;refine WZ 18 ?_;refine wpAnyH_done (by kernel_rfl) ?_ _;have HBd:=hyd B.drew;clear B hcd hc;go_wp2_with fail;go_roundw
    case rel=>exact⟨r+1,n,rule,by omega,rfl,rfl,by go_num,n8,QQ HG.out (fun h _=>by rw[<-HS.out]at h;omega),HBd.out⟩
    case measure=>simp[intOf];omega
  ·have hlt':¬(r:Int)<N:=by omega
   have er:r=N:=by omega
   subst er;by_cases h0:n=0
   ·subst h0;go_wp2_with fail;go_ret2;exact⟨⟨rule,0,rfl,HG.out⟩,B⟩
   ·have h0':((n:Int)==0)=false:=beq_eq_false_iff_ne.2 (by omega);go_wp2_with fail;go_ret2;exact⟨⟨rule,n,by rw[if_neg h0];rfl,HG.out⟩,B⟩
end Go.Proofs.YtoaaklhpmhjhkabGreat
