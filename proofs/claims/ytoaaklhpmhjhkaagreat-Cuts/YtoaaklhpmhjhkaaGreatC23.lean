import Derived.Test.YtoaaklhpmhjhkaaGreatC22
set_option maxRecDepth 100000
set_option maxHeartbeats 4000000
set_option linter.all false
namespace Go.Proofs.YtoaaklhpmhjhkaaGreat
open Go.Proofs.Tryz
section
open Go.RowKit
open Bm
def yM(x:ByteArray)(i:Nat):nm (x.extract i x.size)=pre x i (x.size-i):=by
 have e:(x.extract i x.size).data.toList=x.data.toList.drop i:=by
  simp[ByteArray.data_extract,fP];rw[fR];simp
 unfold nm pre;rw[e,fR Qs]
structure AV (base n:Nat) (es:Nat->Rx) (v:Value) (tr:Nat->Nat) (X:Nat->Prop) (w:World):Prop where
 o:WO base 94 v ((List.range n).map fun r=>.pointer (some ⟨tr r,0,none⟩)) w
 t:∀r,r<n->∃T N g cp m,Md T N/\1<=N/\N<=20000/\Good T N 0 (N-1) (es r)/\Dm X (tr r) T N g cp m w
 x:∀k,X k->k<w.heap.size/\v.ownBlock≠some k
def AV.zero(base:Nat)(es:Nat->Rx)(w:World):AV base 0 es (sN) (λ_=>0) (λ_=>False) w:=⟨WO.nil _ _ _,λr a=>Qo,λk h=>h.elim⟩
def AV.add{base n:Nat}{es:Nat->Rx}{v:Value}{tr:Nat->Nat}{X J:Nat->Prop}{wr w1 W w5:World}{T:Nat->Nd}{N g cp tb Y H:Nat}{m:Pl}(h:AV base n es v tr X wr)(t1:Md T N)(t2:1<=N)(t3:N<=20000)(t4:Good T N 0 (N-1) (es n))(t5:Dm J tb T N g cp m w1)(hx:∀k,J k->wr.heap.size<=k)(hB:Bl wr w1)(hW:Bl w1 W)(hg:W.grownBy w5 v.ownBlock)
  (ho:WO base 94 (sL Y (n+1) H) (((List.range n).map λr=>Value.pointer (some (a_ (tr r) 0)))++[pT tb]) w5) (Z:v.ownBlock=some Y\/Y=W.heap.size):AV base (n+1) es (sL Y (n+1) H) (Yj tr n tb) (λk=>X k\/J k) w5:=by
 have i:=hB.size;have D:=hW.size;have C:=hg.size;have d:∀k,X k\/J k->k<w1.heap.size/\v.ownBlock≠some k:=λk c=>by
  rcases c with c|c
  .exact⟨by have:=(h.x k c).1;omega,(h.x k c).2⟩
  refine⟨t5.s k c,λe=>?_⟩;have:=(h.o.lt k e).2;have:=hx k c;omega
 have j:Wk (λk=>X k\/J k) w1 w5:=λk c=>by
  let⟨a,b⟩:=d k c;rw[hg.block k Qo (λe=>b e.symm),hW.block k a]
 refine⟨?_,λr l=>?_,λk c=>?_⟩
 .rw[ZT,eK];have A:((List.range n).map λr=>Value.pointer (some (a_ (Yj tr n tb r) 0)))=(List.range n).map λr=>Value.pointer (some (a_ (tr r) 0)):=ZO λr l=>by rw[Y5 tr tb (Nat.ne_of_lt (ZI.1 l))]
  rw[A];simp only[dt,eJ,Y1];exact ho
 .by_cases e:r=n
  .subst e;rw[Y1];exact⟨T,N,g,cp,m,t1,t2,t3,t4,(t5.mono (λk c=>(d k c).1) (λk c=>Or.inr c)).keep j Qo⟩
  let⟨T',N',B,f,E,p,q,u,w,y⟩:=h.t r Qo;rw[Y5 tr tb e];have z:=y.keep (λk c=>hB.block k (h.x k c).1) i;exact⟨T',N',B,f,E,p,q,u,w,(z.mono (λk c=>(d k c).1) (λk c=>Or.inl c)).keep j Qo⟩
 let⟨a,b⟩:=d k c;refine⟨Qo,λe=>?_⟩;have e':Y=k:=Zh e;rcases Z with h1|h1
 .exact b (by rw[h1,e'])
 omega
def zD(T:Tb)(x:ByteArray)(w:World)(e:Ending)(w':World):Prop:=∃v b2,e=.returned v/\VG b2 v (SQ T x) w'/\Below w.heap.size w w'
variable {l:List (N_)}{t0:List Int}{L0 L3 lx:List Value}{N P R b base c cap g gb i ib k len n n0 nc p tb tob:Nat}{F:N_}{f:Nat->Int}{ls:Nat->List Value}{Ns cp nd sk ti tr xb:Nat->Nat}{E:Nat->N_}{nx:Nat->Nat->Int}{X X':Nat->Prop}{es:Nat->Rx}{vs:Nat->Value}{v:Value}{w w' w0 w1 w5:World}
def AV.long(h:AV base n es v tr X w)(z:Bl w w'){r:Nat}(H:r<n)(y:ByteArray)(J:y.size<=2000):
  Cp 40 #[.pointer (some (a_ (tr r) 0)),.string y] w' λe w''=>∃k:Nat,e=.returned (I6 k)/\zd ((es r).Lq) (nm y) k/\Bl w' w'':=by
 let⟨T,N,g,cp,m,a,b,c,d,f⟩:=h.t r H;obtain⟨k,rfl⟩:∃k,N=k+1:=⟨N-1,Qo⟩;have e:=EN a.w a.u d;have h2:=Kv (tr r) T (k+1) g cp m b c a y J w' (f.t w' (λq i=>z.block q (h.x q i).1) z.size);rw[gD,e]at h2;exact h2
def GM(b be cap n:Nat)(f:Nat->ByteArray)(es:Nat->Rx)(x:ByteArray)(T:Tb)(w:World)(h8:n<=8)(hb:b<w.heap.size)(hr:RL b be f n w)(bf:∀i,i<n->∀w',Cp 39 #[.string (f i)] w' (QX w' (es i)))(hx:x.size<=2000)
  (hT:∀i rule m,i<x.size->JB (λr=>(es r).Lq) n (pre x i (x.size-i)) rule m->Ud T x i=(rule,if m=0 then 1 else (m:Int))):
  Cp 16 #[.slice (some (a_ b be)) n cap,.string x] w (zD T x w):=by
 have ah:Hid (∀i,i<n->∀w',Cp 39 #[.string (f i)] w' (QX w' (es i))):=bf;have al:Hid (RL b be f n w):=hr;have HT:Hid (∀i rule m,i<x.size->JB (λr=>(es r).Lq) n (pre x i (x.size-i)) rule m->Ud T x i=(rule,if m=0 then 1 else (m:Int))):=hT;have ai:Hid (AV w.heap.size 0 es (sN) (λ_=>0) (λ_=>False) w):=AV.zero _ _ _;have bb:(n:Int)<=8:=Qo
 have bc:(x.size:Int)<=2000:=Qo
 clear bf hr hT;go_enter func16,ntmps16;go_wp2
 go_loopw [5,6,7] (λv iv _ w'=>∃(i:Nat) (tr:Nat->Nat) (X:Nat->Prop),i<=n/\iv=I6 i/\Hid (AV w.heap.size i es v tr X w')/\Bl w w') (λ_ iv _ _=>n-(intOf iv).toNat)
 .exact⟨0,_,_,Qo,rfl,ai,Zk _ _⟩
 clear ai;obtain⟨i,tr,X,hi,rfl,V,B⟩:=hrel;let⟨ta,tc,et,I⟩:=V.o.o.form;simp only[Zy,gj]at et;subst et;by_cases az:i<n
 .have a5:(i:Int)<n:=Qo
  have cs:=al.o.below hb B i az;have U:=hyd (ah i az wr);let⟨si,aG⟩:=nam (f i);rw[<-aG]at cs U;have a8:i<8:=Qo
  clear aG I;go_wp2_with fail;apply U.o.mono;rintro ee w1 ⟨T1,N1,Xt,g1,aZ,m1,rfl,Q,aQ,aR,F,G,ao,z,aW⟩;let⟨tb,aH⟩:=nam wr.heap.size;rw[<-aH]at G ⊢;clear U cs;let⟨W,hW⟩:=nam (w1.alloc (.cells #[pT tb] 94));have M:Bl w1 W:=by rw[hW];exact box_bel _ _
  have am:WO w.heap.size 94 (.slice ta i tc) ((List.range i).map λr=>.pointer (some (a_ (tr r) 0))) W:=XS V.o.o (λk L=>by
   have:=(V.o.o.lt k L).2;rw[M.block k (by have:=z.size;omega),z.block k this])
  have aD:W.cell? (a_ w1.heap.size 0)=some (pT tb):=by rw[hW,Zm];rfl
  have Bw:=B.trans ((z.trans (M.mono z.size)).mono B.size);have P:Hid (((List.range i).map λr=>Value.pointer (some (a_ (tr r) 0))).length=i):=by show _=_;simp
  have HW:=hyd hW;have D:=hyd Bw;have O:Hid (∀(w5:World) (g0 l:Nat),W.grownBy w5 (Value.slice ta i tc).ownBlock->WO w.heap.size 94 (sL g0 (i+1) l) (((List.range i).map λr=>Value.pointer (some (a_ (tr r) 0)))++[pT tb]) w5->((Value.slice ta i tc).ownBlock=some g0\/g0=W.heap.size)->AV w.heap.size (i+1) es (sL g0 (i+1) l) (Yj tr i tb) (λk=>X k\/Xt k) w5):=λw5 g0 l q1 q2 q3=>V.o.add Q aQ aR F G ao z M q1 q2 q3
  have ar:∀q,(Value.slice ta i tc).ownBlock=some q->w.heap.size<=q:=λq hq=>(V.o.o.lt q hq).1
  have ap:=Bw.size;clear Q F G ao z M hW Bw aH aW;go_wp2_with (first|(with_reducible show wpList _ _ _ (⟨_,Op.call { callee:=Callee.builtin Builtin.append,args:=_,argTypes:=_ },_,_,_,_⟩::_) _ _;refine Ya.out ?_));refine⟨?_⟩;rw[<-HW.o];refine YK 93 94 underlying93 Lc rfl Qo Qr _ _ Qr w.heap.size (.slice ta i tc) _ Qr am (by rw[P.o];omega) w1.heap.size (pT tb) rfl Qr aD ap _ rfl ?_;rw[P.o];intro g0 l w5 an d R _;have aL:=hyd (O.o w5 g0 l d an R);have aJ:=hyd (D.o.grown d ap ar);clear an d R O am aD D HW;go_wp2;go_roundw
  .exact⟨i+1,_,_,Qo,Qg,aL,aJ⟩
  simp[intOf];omega
 have ar:¬(i:Int)<n:=Qo
 have aT:i=n:=Qo
 subst aT;have D:=hyd B;have aN:Hid (∀(w':World) (r:Nat) (y:ByteArray),Bl wr w'->r<i->y.size<=2000->Cp 40 #[.pointer (some (a_ (tr r) 0)),.string y] w' λe w''=>∃k:Nat,e=.returned (I6 k)/\zd ((es r).Lq) (nm y) k/\Bl w' w''):=λw' r y h1 h2 h3=>V.o.long h1 h2 y h3
 have aK:Hid (∀(w':World) (r:Nat),Bl wr w'->r<i->∃g,ta=some (a_ g 0)/\w'.cell? (a_ g r)=some (.pointer (some (a_ (tr r) 0)))):=λw' r h1 h2=>by
  let⟨g,e1,e2⟩:=I r (.pointer (some (a_ (tr r) 0))) (by simp[h2]);exact⟨g,e1,by rw[h1.cell (p:=(a_ g r)) (Ze wr _ e2)];exact e2⟩
 have J:Hid (SQ T x=[]++GV T x x.size 0):=by show _=_;rw[SQ,g_];rfl
 let⟨w1,aX⟩:=nam wr;subst aX;clear I V ah al B;go_wp2
 go_loopw [8,9,10,11,12] (λv av _ _ _ w'=>∃(u j:Nat) (ls:List (Int × Int × Int)),av=I6 j/\j<=x.size/\x.size<=u+j/\ls.length<=j/\VG w1.heap.size v ls w'/\Bl w1 w'/\Hid (SQ T x=ls++GV T x u j)) (λ_ av _ _ _ _=>x.size-(intOf av).toNat)
 .exact⟨x.size,0,[],rfl,Qo,Qo,Qs,VG.nil _ _,Zk _ _,J⟩
 clear J;obtain⟨u,j,ls,rfl,hj,hu,a9,hO,hB,J⟩:=hrel;by_cases ab:j<x.size
 .have a2:(j:Int)<(x.size:Int):=Qo
  have a3:(j:Int)<=(x.size:Int):=Qo
  rcases u with _|u
  .omega
  let⟨y,hy⟩:=nam (pre x j (x.size-j));have Hy:=hyd hy;let⟨c,A⟩:=nam wr.heap.size;let⟨W2,H⟩:=nam (wr.alloc (.cells #[I6 (-1),I6 j,I6 0] 97));have B2:Bl wr W2:=by rw[H];exact X5 _ _
  have s2:c+1<=W2.heap.size:=by rw[A,H];simp
  have H2:Hid (T_ c [I6 (-1),I6 j,I6 ((0:Nat):Int)] W2/\VG w1.heap.size u8 ls W2/\Bl w1 W2):=⟨by rw[A,H];exact T_.boxed wr [I6 (-1),I6 j,I6 0] _,hO.below B2,hB.trans (B2.mono hB.size)⟩;have aj:Hid (JB (λr=>(es r).Lq) 0 y (-1) 0):=JB.zero _ _;have ac:∀k,u8.ownBlock=some k->k<c:=λk L=>by rw[A];exact(hO.lt k L).2
  have ae:w1.heap.size<=c:=by rw[A];exact hB.size
  clear hO hB B2 hy;go_wp2;rw[<-H,<-A];clear H A
  go_loopw [11,12] (λrv _ w'=>∃(r m:Nat) (rule:Int),r<=i/\rv=I6 r/\m<=2000/\c+1<=w'.heap.size/\Hid (T_ c [I6 rule,I6 j,I6 (m:Int)] w'/\VG w1.heap.size u8 ls w'/\Bl w1 w')/\Hid (JB (λr=>(es r).Lq) r y rule m)) (λrv _ _=>i-(intOf rv).toNat)
  .exact⟨0,0,-1,Qo,rfl,Qo,s2,H2,aj⟩
  clear H2 aj s2;obtain⟨r,m,rule,hr,rfl,hm,sz,N,Y⟩:=hrel;by_cases aF:r<i
  .have a7:(r:Int)<i:=Qo
   have S:=N.o.2.2.drew;let⟨g,eg,cg⟩:=aK.o wr.drew r S aF;subst eg;have U:Hid (Cp 40 #[.pointer (some (a_ (tr r) 0)),.string (x.extract j x.size)] wr.drew λe w''=>∃k:Nat,e=.returned (I6 k)/\zd ((es r).Lq) y k/\Below wr.drew.heap.size wr.drew w''):=by
    show Calls _ _ _ _ _;rw[Hy.o,<-yM];exact aN.o wr.drew r _ S aF Qp
   let⟨bd,aI⟩:=nam (tr r);rw[<-aI]at cg U;clear aI S;go_wp2;apply wp_region_still_tail 7 Qk Qk;simp only[ZK,f7,ZL,Zw];change wpStill _ _ wr.drew (λa'=>wpList _ _ _ _ a' wr.drew) _ _
   repeat still_step
   apply f8;go_wp2_with fail;apply U.o.mono;rintro e w5 ⟨k,rfl,L,B5⟩;have Td:T_ c [I6 rule,I6 j,I6 (m:Int)] wr.drew:=N.o.1;have Od:VG w1.heap.size u8 ls wr.drew:=N.o.2.1;have S:Bl w1 wr.drew:=N.o.2.2.drew;have sd:c+1<=wr.drew.heap.size:=sz;have s5:c+1<=w5.heap.size:=by have:=B5.size;omega
   have T5:=Td.block (B5.block c Qo);have O5:=Od.below B5;have W5:=S.trans (B5.mono S.size);have aU:k<=2000:=by
    have:=L.2.1;rw[Hy.o,Kk]at this;omega
   have c2:=(T5 2 _ rfl).1;clear U cg B5 Td Od S sd;by_cases aB:m<k
   .have aC:(m:Int)<k:=Qo
    have Z:=hyd (Y.o.up L aB);let⟨a0,b0⟩:=T5 0 _ rfl;have b2:=(T5 2 _ rfl).2;have H7:Hid (T_ c [I6 (r:Int),I6 j,I6 (k:Int)] ((w5.setCell (a_ c 0) (I6 (r:Int))).setCell (a_ c 2) (I6 (k:Int)))/\VG w1.heap.size u8 ls ((w5.setCell (a_ c 0) (I6 (r:Int))).setCell (a_ c 2) (I6 (k:Int)))/\Bl w1 ((w5.setCell (a_ c 0) (I6 (r:Int))).setCell (a_ c 2) (I6 (k:Int)))):=
     ⟨Bm.TC.set (Bm.TC.set T5 0 Qs _) 2 Qs _,XS O5 (λq hq=>by
      have:=ac q hq;rw[Zq _ (a_ c 2) _ q (λe=>by have:q=c:=e;omega),Zq _ (a_ c 0) _ q (λe=>by have:q=c:=e;omega)]),(W5.setCell (p:=(a_ c 0)) ae _).setCell (p:=(a_ c 2)) ae _⟩
    clear Y T5 O5 W5 N L;go_wp2;go_roundw
    .exact⟨r+1,k,r,Qo,Qg,aU,by rw[Zz,Zz];exact s5,H7,Z⟩
    simp[intOf];omega
   have aC:¬(m:Int)<k:=Qo
   have Z:=hyd (Y.o.stay L aB);have H7:=hyd3 T5 O5 W5;clear Y T5 O5 W5 N L;go_wp2;go_roundw
   .exact⟨r+1,m,rule,Qo,Qg,hm,s5,H7,Z⟩
   simp[intOf];omega
  have a6:¬(r:Int)<i:=Qo
  have aV:r=i:=Qo
  subst aV;have C:=HT.o j rule m ab (by rw[<-Hy.o];exact Y.o);let⟨T6,O6,B6⟩:=N.o;have aw:j+m<=x.size:=by
   have:=Y.o.le;rw[Hy.o,Kk]at this;omega
  clear N Y;by_cases aA:m=0
  case' pos=>
   subst aA;rw[dF rfl]at C;have c2:=(T6 2 _ rfl).1;have f2:=(T6 2 _ rfl).2;obtain⟨ln,s⟩:∃ln:Nat,ln=1:=⟨_,rfl⟩;let⟨t,h⟩:=nam (wr.setCell (a_ c 2) (I6 1));have T7:T_ c [I6 rule,I6 j,I6 (ln:Int)] t:=by
    rw[h,s];exact Bm.TC.set T6 2 Qs (I6 1)
   have O7:VG w1.heap.size u8 ls t:=XS O6 (λq hq=>by
    have:=ac q hq;rw[h,Zq _ (a_ c 2) _ q (λe=>by have:q=c:=e;omega)])
   have B7:Bl w1 t:=by rw[h];exact B6.setCell (p:=(a_ c 2)) ae _
   have s7:c+1<=t.heap.size:=by rw[h,Zz];exact sz
   have ax:1<=ln:=Qo
   have ay:j+ln<=x.size:=Qo
   have ak:Hid (SQ T x=(ls++[(rule,(j:Int),(ln:Int))])++GV T x u (j+ln)):=by
    show _=_;rw[J.o,NM ab (n:=ln) (by rw[C,s];rfl)];simp
   have E:=hyd h;clear C T6 O6 B6 hm sz h s aw J;go_wp2_with (first|(with_reducible apply gld 97;refine Ya.out ?_));refine⟨?_⟩;rw[<-E.o];clear E c2 f2
  case' neg=>
   have q0:((m:Int)==0)=false:=Qp
   rw[dG aA]at C;have c2:=(T6 2 _ rfl).1;obtain⟨ln,s⟩:∃ln:Nat,ln=m:=⟨_,rfl⟩;let⟨t,h⟩:=nam wr;have ak:Hid (SQ T x=(ls++[(rule,(j:Int),(ln:Int))])++GV T x u (j+ln)):=by
    show _=_;rw[J.o,NM ab (n:=ln) (by rw[C,s])];simp
   have ax:1<=ln:=Qo
   have ay:j+ln<=x.size:=Qo
   have T7:T_ c [I6 rule,I6 j,I6 (ln:Int)] t:=by rw[h,s];exact T6
   have O7:VG w1.heap.size u8 ls t:=by rw[h];exact O6
   have B7:Bl w1 t:=by rw[h];exact B6
   have s7:c+1<=t.heap.size:=by rw[h];exact sz
   have E:=hyd h;clear C T6 O6 B6 hm sz h s aw J;go_wp2_with (first|(with_reducible apply gld 97;refine Ya.out ?_));refine⟨?_⟩;rw[<-E.o];clear E c2
  all_goals
   have aE:=T7.range;apply Zb rfl 97 _ rfl c 0 rfl [I6 rule,I6 j,I6 (ln:Int)] _ aE u_m rfl TK
   (try simp only[psm])
   let⟨W8,K⟩:=nam (t.alloc (.cells #[I6 rule,I6 j,I6 (ln:Int)] 97));have x8:Bl t W8:=by rw[K];exact X5 _ _
   have O8:=O7.below x8;have B8:=B7.trans (x8.mono B7.size);have af:∀j' v,(Jo (rule,(j:Int),(ln:Int)))[j']?=some v->W8.cell? (a_ t.heap.size j')=some v:=λj' v hv=>by
    rw[K];exact((T_.boxed t [I6 rule,I6 j,I6 (ln:Int)] _) j' v hv).1
   have aa:W8.cell? (a_ c 2)=some (I6 (ln:Int)):=((T7.block (x8.block c Qo)) 2 _ rfl).1;have aM:Hid (∀w5,W8.grownBy w5 u8.ownBlock->w5.cell? (a_ c 2)=some (I6 (ln:Int))):=λw5 hg=>by
    rw[eZ (w:=W8) (a:=(a_ c 2)) (hg.block c (Ze W8 _ aa) (λe=>by have:=ac _ e.symm;omega))];exact aa
   have aP:=hyd K;have aq:=B8.size;have au:=O8.ge;have a4:(ln:Int)<=2000:=Qo
   clear K x8 O7 B7 aa T7 aE s7;go_wp2_with (first|(at_builtin;rw[<-aP.o];apply Uz Qr _ _ Qr w1.heap.size u8 ls Qr O8 Qo t.heap.size (rule,(j:Int),(ln:Int)) Qr af aq;intro g9 aY w9 aS d;have k2:=aM.o w9 d));go_roundw
   .exact⟨u,j+ln,ls++[(rule,(j:Int),(ln:Int))],Qg,Qo,Qo,Qp,by simpa using aS,B8.grown d aq au,ak⟩
   simp[intOf];omega
 have a1:¬(j:Int)<(x.size:Int):=Qo
 have aO:Hid (SQ T x=ls):=by show _=_;rw[J.o,Ft Qo];simp
 have ag:=hyd (D.o.trans (hB.mono D.o.size));clear J;go_wp2;go_ret;exact⟨u8,w1.heap.size,by first|rfl|trivial,by rw[aO.o];exact hO,ag.o⟩
def Vo(x:Nat):Value:=.int .i64 (x:Int)
structure AS (Ts:Nat->Nat->Nd) (Ns:Nat->Nat) (es:Nat->Rx) (ti nd:List Nat) (c L:Nat):Prop where
 a:ti.length=L
 b:nd.length=L
 p:∀p,p<L->ti.getD p 0<c/\nd.getD p 0<Ns (ti.getD p 0)/\(Ts (ti.getD p 0) (nd.getD p 0)).kind=0/\p=Y4 es (ti.getD p 0)+YA (Ts (ti.getD p 0)) (nd.getD p 0)
def AS.nil(Ts:Nat->Nat->Nd)(Ns:Nat->Nat)(es:Nat->Rx):AS Ts Ns es [] [] 0 0:=⟨rfl,rfl,λp a=>Qo⟩
variable {Ts:Nat->Nat->Nd}
def AS.tree{ti nd:List Nat}{L:Nat}(h:AS Ts Ns es ti nd c L)(T:Nat->Nd)(N:Nat):AS (Yj Ts c T) (Yj Ns c N) es ti nd (c+1) L:=
 ⟨h.a,h.b,λp f=>by
  let⟨h1,h2,h3,d⟩:=h.p p f;have e:ti.getD p 0≠c:=Qo
  rw[Y5 _ _ e,Y5 _ _ e];exact⟨Qo,h2,h3,d⟩⟩
def RG{l:List Nat}(h:p<l.length)(x:Nat):(l++[x]).getD p 0=l.getD p 0:=by
 simp only[Zf,Zv h]
def RF(l:List Nat)(x:Nat):(l++[x]).getD l.length 0=x:=by
 simp[Zf]
def AS.letter{ti nd:List Nat}{L:Nat}(h:AS Ts Ns es ti nd (c+1) L)(H:k<Ns c)(h0:(Ts c k).kind=0)(z:L=Y4 es c+YA (Ts c) k):AS Ts Ns es (ti++[c]) (nd++[k]) (c+1) (L+1):=
 ⟨by simp[h.a],by simp[h.b],λp g=>by
  by_cases e:p<L
  .rw[RG (by rw[h.a];exact e),RG (by rw[h.b];exact e)];exact h.p p e
  have d:p=L:=Qo
  subst d;have f:(ti++[c]).getD p 0=c:=by rw[<-h.a];exact RF ti c
  have e2:(nd++[k]).getD p 0=k:=by rw[<-h.b];exact RF nd k
  rw[f,e2];exact⟨Qo,H,h0,z⟩⟩
def XF(n:Nat):List Value:=(List.range n).map λ_=>.int .i64 0
def Vw(w:World)(n:Nat)(z:n<=1000000):(Instr.makeSlice 23 (I6 (n:Int)) (I6 (n:Int))).run prog w=.ok (.slice (some (a_ w.heap.size 0)) n n) (w.alloc (.cells (XF n).toArray 3)):=by
 let⟨i,b,hz,hs,a⟩:=WP;have h:=run_make (P:=prog) w 23 3 i (I6 0) u_e b hz .i64 .i64 n n Qo Qo (by rw[a];omega) Qo;rw[hs]at h;simp only[ZE,ff]at h;rw[show(Value.int .i64 0).cells=#[I6 0] from rfl,SA]at h;exact h
def inl(f:Nat->Int)(n:Nat):List Value:=(List.range n).map λi=>.int .i64 (f i)
def Xr(f:Nat->Int)(n:Nat):(inl f n).length=n:=by simp[inl]
def Xf(f:Nat->Int){n i:Nat}(h:i<n):(inl f n)[i]?=some (I6 (f i)):=by simp[inl,h]
def Yn{g:Nat->Int}(h:∀i,i<n->f i=g i):inl f n=inl g n:=by
 unfold inl;exact ZO (λi a=>by rw[h i (by simpa using a)])
def WA(f:Nat->Int)(n i:Nat)(x:Int):(inl f n).set i (I6 x)=inl (λj=>if j=i then x else f j) n:=by
 refine fG (λj=>?_);by_cases a:j<n
 .rw[Xf _ a];by_cases e:j=i
  .subst e;rw[fx (by rw[Xr];exact a)];simp
  rw[fA (λq=>e q.symm),Xf _ a];simp[e]
 rw[ZB (by simp[Xr];omega),ZB (by rw[Xr];omega)]
def Da(h:TC b (inl f n) w):IL (some (a_ b 0)) f n w:=λi a=>⟨b,0,rfl,by rw[Zn];exact(h i _ (Xf f a)).1⟩
def BP(T:Nat->Nd)(n0 k m:Nat):Int:=if m<k/\(T m).kind=0 then ((n0+YA T m:Nat):Int) else 0
structure GW (gb base:Nat) (i:Nat) (es:Nat->Rx) (tr ad cp xb:Nat->Nat) (ms:Nat->Pl) (Ts:Nat->Nat->Nd) (Ns:Nat->Nat) (ti nd:List Nat) (vs:Nat->Value) (ls:Nat->List Value) (X:Nat->Prop) (w0 w:World):Prop where
 g:G5 gb base 5 zX vs ls X w
 l0:ls 0=(List.range i).map fun r=>.pointer (some ⟨tr r,0,none⟩)
 l1:ls 1=ti.map Vo
 l2:ls 2=nd.map Vo
 l3:ls 3=(List.range i).map fun r=>.slice (some ⟨xb r,0,none⟩) (Ns r) (Ns r)
 l4:ls 4=[]
 t:∀r,r<i->Md (Ts r) (Ns r)/\1<=Ns r/\Ns r<=20000/\Good (Ts r) (Ns r) 0 (Ns r-1) (es r)/\Dm X (tr r) (Ts r) (Ns r) (ad r) (cp r) (ms r) w
 x:∀r,r<i->∀w',Wk X w w'->w.heap.size<=w'.heap.size->IL (some ⟨xb r,0,none⟩) (yr es Ts r) (Ns r) w'
 p:AS Ts Ns es ti nd i (Y4 es i)
 b:Below w0.heap.size w0 w
 s:w0.heap.size<=gb
structure IS (gb base ib:Nat) (lx:List Value) (vs:Nat->Value) (ls:Nat->List Value) (X:Nat->Prop) (w0 w1 w:World):Prop where
 g:G5 gb base 5 zX vs ls X w
 x:TC ib lx w
 l:ib<w.heap.size
 d:∀j,j<5->(vs j).ownBlock≠some ib
 n:¬X ib/\ib≠gb
 a:Wk X w1 w
 z:w1.heap.size<=w.heap.size
 b:Below w0.heap.size w0 w
 s:w0.heap.size<=gb/\w0.heap.size<=ib
def IS.below(h:IS gb base ib lx vs ls X w0 w1 w)(H:Bl w w'):IS gb base ib lx vs ls X w0 w1 w':=
 ⟨h.g.below Qo H,h.x.block (H.block ib h.l),by have:=H.size;have:=h.l;omega,h.d,h.n,h.a.trans (λk c=>H.block k (h.g.x k c).1),by have:=H.size;have:=h.z;omega,h.b.trans (H.mono h.b.size),h.s⟩
def IS.put{gb base ib:Nat}{lx:List Value}{vs:Nat->Value}{ls:Nat->List Value}{X:Nat->Prop}{w0 w1 w:World}(h:IS gb base ib lx vs ls X w0 w1 w){k:Nat}(H:k<lx.length)(u:Value):IS gb base ib (lx.set k u) vs ls X w0 w1 (w.setCell (a_ ib k) u):=by
 have f:∀q,q≠ib->(w.setCell (a_ ib k) u).heap[q]?=w.heap[q]?:=λq c=>Zq w (a_ ib k) _ q (λe=>c e)
 have hs:(w.setCell (a_ ib k) u).heap.size=w.heap.size:=Zz ..;refine⟨h.g.keep (f gb (λe=>h.n.2 e.symm)) (λi q j c=>f q (λe=>h.d i j (e▸c))) (λq c=>⟨by rw[hs];exact(h.g.x q c).1,(h.g.x q c).2⟩),h.x.set k H u,by rw[hs];exact h.l,h.d,h.n,h.a.trans (λq c=>f q (λe=>h.n.1 (e▸c))),by rw[hs];exact h.z,h.b.setCell (p:=(a_ ib k)) h.s.2 u,h.s⟩
def IS.app{gb base ib:Nat}{lx:List Value}{vs:Nat->Value}{ls:Nat->List Value}{X:Nat->Prop}{w0 w1 w w5:World}(h:IS gb base ib lx vs ls X w0 w1 w){i:Nat}(H:i<5){t:Value}{g len cap:Nat}(Y:w.grownBy w5 (vs i).ownBlock)(Z:WO base (zX i) (.slice (some ⟨g,0,none⟩) len cap) (ls i++[t]) w5)(J:(vs i).ownBlock=some g\/g=w.heap.size):
  IS gb base ib lx (Yj vs i (.slice (some ⟨g,0,none⟩) len cap)) (Yj ls i (ls i++[t])) X w0 w1 (w5.setCell ⟨gb,i,none⟩ (.slice (some ⟨g,0,none⟩) len cap)):=by
 obtain⟨m,f,A,y⟩:=h.g.app H Y Z J;simp only[a_,sL]at A;have u:=h.g.g;have hs:=h.s;refine⟨m,h.x.block (y ib h.l h.n.2 (h.d i H)),by have:=h.l;omega,λj c=>?_,h.n,h.a.trans f,by have:=h.z;omega,?_,h.s⟩
 .by_cases e:j=i
  .subst e;rw[Y1];intro e2;have r:g=ib:=Zh e2;rcases J with h1|h1
   .exact h.d j c (r▸h1)
   have:=h.l;omega
  rw[Y5 _ _ e];exact h.d j c
 have k:Bl w0 w5:=h.b.grown Y (by have:=h.l;omega) (λq v=>by have:=((h.g.o i H).lt q v).1;omega);exact k.setCell (p:=⟨gb,i,none⟩) hs.1 _
structure GI (gb base i:Nat) (es:Nat->Rx) (ib k:Nat) (L0 L3:List Value) (Ts:Nat->Nat->Nd) (Ns:Nat->Nat) (ti nd:List Nat) (vs:Nat->Value) (ls:Nat->List Value) (X:Nat->Prop) (w0 w1 w:World):Prop where
 st:IS gb base ib (inl (BP (Ts i) (Y4 es i) k) (Ns i)) vs ls X w0 w1 w
 l0:ls 0=L0
 l1:ls 1=ti.map Vo
 l2:ls 2=nd.map Vo
 l3:ls 3=L3
 l4:ls 4=[]
 p:AS Ts Ns es ti nd (i+1) (Y4 es i+YA (Ts i) k)
variable {T:Nat->Nd}
def BQ(z:(T k).kind≠0)(m:Nat):BP T n0 (k+1) m=BP T n0 k m:=by
 unfold BP;by_cases e:m=k
 .subst e;rw[dG (λq=>z q.2),dG (λq=>z q.2)]
 by_cases e2:m<k
 .simp only[e2,show m<k+1 by omega]
 simp only[e2,show ¬m<k+1 by omega]
def Ab(z:(T k).kind=0)(m:Nat):BP T n0 (k+1) m=if m=k then ((n0+YA T k:Nat):Int) else BP T n0 k m:=by
 unfold BP;by_cases e:m=k
 .subst e;rw[dF ⟨Qo,z⟩,dF rfl]
 rw[dG e];by_cases e2:m<k
 .simp only[e2,show m<k+1 by omega]
 simp only[e2,show ¬m<k+1 by omega]
def GI.skip{ti nd:List Nat}(h:GI gb base i es ib k L0 L3 Ts Ns ti nd vs ls X w0 w1 w)(z:(Ts i k).kind≠0):GI gb base i es ib (k+1) L0 L3 Ts Ns ti nd vs ls X w0 w1 w:=
 ⟨by rw[Yn (λm _=>BQ z m)];exact h.st,h.l0,h.l1,h.l2,h.l3,h.l4,by simp only[YA,dG z,eP];exact h.p⟩
def GI.letter{ti nd:List Nat}{z:Nat->Value}(h:GI gb base i es ib k L0 L3 Ts Ns ti nd vs ls X w0 w1 w)(H:(Ts i k).kind=0)(J:k<Ns i)
  (Y:IS gb base ib ((inl (BP (Ts i) (Y4 es i) k) (Ns i)).set k (I6 ((Y4 es i+YA (Ts i) k:Nat):Int))) z (Yj (Yj ls 1 (ls 1++[Vo i])) 2 (ls 2++[Vo k])) X w0 w1 w'):GI gb base i es ib (k+1) L0 L3 Ts Ns (ti++[i]) (nd++[k]) z (Yj (Yj ls 1 (ls 1++[Vo i])) 2 (ls 2++[Vo k])) X w0 w1 w':=by
 refine⟨?_,?_,?_,?_,?_,?_,?_⟩
 .rw[WA]at Y;rw[Yn (λm _=>Ab H m)];exact Y
 .rw[Y5 _ _ Qo,Y5 _ _ Qo];exact h.l0
 .rw[Y5 _ _ Qo,Y1,h.l1,eK];rfl
 .rw[Y1,h.l2,eK];rfl
 .rw[Y5 _ _ Qo,Y5 _ _ Qo];exact h.l3
 .rw[Y5 _ _ Qo,Y5 _ _ Qo];exact h.l4
 simp only[YA,dF H];rw[<-ZN];exact h.p.letter J H rfl
variable {ms:Nat->Pl}
def GW.next{ad:Nat->Nat}{ti nd:List Nat}(h:GW gb base i es tr ad cp xb ms Ts Ns ti nd vs ls X w0 w)
  {tb g cap N:Nat}{m:Pl}{T:Nat->Nd}{X1 X2:Nat->Prop}{ib:Nat}{ac ab:List Nat}{af:Nat->Value}{aa:Nat->List Value}{w1 w2:World} (h1:Md T N) (h2:1<=N) (h3:N<=20000) (h4:Good T N 0 (N-1) (es i)) (h5:Dm X1 tb T N g cap m w1) (hX:∀k,X k->X1 k) (hA:Wk X w w1) (hs:w.heap.size<=w1.heap.size)
  (hG:GI gb base i es ib N ((List.range (i+1)).map λr=>.pointer (some (a_ (Yj tr i tb r) 0))) (ls 3) (Yj Ts i T) (Yj Ns i N) ac ab af aa X1 w0 w1 w2)
  {ae:Nat->Value}{w3:World} (Z:∀k,X2 k<->X1 k\/k=ib) (Y:IS gb base ib (inl (BP (Yj Ts i T i) (Y4 es i) N) (Yj Ns i N i)) ae (Yj aa 3 (aa 3++[sL ib N N])) X1 w0 w1 w3):
  GW gb base (i+1) es (Yj tr i tb) (Yj ad i g) (Yj cp i cap) (Yj xb i ib) (Yj ms i m) (Yj Ts i T) (Yj Ns i N) ac ab ae (Yj aa 3 (aa 3++[sL ib N N])) X2 w0 w3:=by
 have u:=hA.trans (λk c=>Y.a k (hX k c));have hz:w.heap.size<=w3.heap.size:=by have:=Y.z;omega
 have f:∀k,X2 k->k<w3.heap.size:=λk c=>by
  rcases (Z k).1 c with h|h
  .exact(Y.g.x k h).1
  rw[h];exact Y.l
 refine⟨Y.g.more (λk c=>?_),?_,?_,?_,?_,?_,λr C=>?_,λr C w' ha E=>?_,?_,Y.b,Y.s.1⟩
 .rcases (Z k).1 c with h|h
  .exact Or.inl h
  subst h;exact Or.inr ⟨Y.l,Y.n.2,λj D=>Y.d j D⟩
 .rw[Y5 _ _ Qo];exact hG.l0
 .rw[Y5 _ _ Qo];exact hG.l1
 .rw[Y5 _ _ Qo];exact hG.l2
 .rw[Y1,hG.l3,h.l3,ZT,eK];congr 1
  .refine ZO (λr C=>?_);have v:r≠i:=by have:=ZI.1 C;omega
   rw[Y5 _ _ v,Y5 _ _ v]
  simp[Y1]
 .rw[Y5 _ _ Qo];exact hG.l4
 .by_cases e:r=i
  .subst e;simp only[Y1];exact⟨h1,h2,h3,h4,(h5.keep Y.a Y.z).mono f (λk c=>(Z k).2 (Or.inl c))⟩
  let⟨G,H,I,J,K⟩:=h.t r Qo;simp only[Y5 _ _ e];exact⟨G,H,I,J,(K.keep u hz).mono f (λk c=>(Z k).2 (Or.inl (hX k c)))⟩
 .by_cases e:r=i
  .subst e;rw[Y1,Y1];have F:=Y.x.block (ha ib ((Z ib).2 (Or.inr rfl)));have:=Da F;rw[Y1,Y1]at this;intro q y;let⟨b,o,A,e2⟩:=this q y;refine⟨b,o,A,?_⟩;rw[e2];unfold BP yr Tj;rw[Y1];simp only[y,true_and]
  rw[Y5 _ _ e,Y5 _ _ e];have:=h.x r Qo w' (u.trans (λk c=>ha k ((Z k).2 (Or.inl (hX k c))))) Qo;intro q y;let⟨b,o,A,e2⟩:=this q y;refine⟨b,o,A,?_⟩;rw[e2];unfold yr Tj;rw[Y5 _ _ e]
 have:=hG.p;rw[Y1]at this;have B:=h4.cl;rw[gF h2]at B;simp only[YA,Zn]at B;rw[B]at this;exact this
def NX(gb P R:Nat)(nx:Nat->Nat->Bool)(w:World):Prop:=∃a c,w.cell? ⟨gb,4,none⟩=some (.slice a P c)/\∀p,p<P->∃nb o ra rc,a=some ⟨nb,o,none⟩/\w.cell? ⟨nb,o+p,none⟩=some (.slice ra (P+R) rc)/\BR ra (nx p) (P+R) w
def NX.below{nx:Nat->N_}(h:NX gb P R nx w)(z:Bl w w'):NX gb P R nx w':=by
 let⟨a,c,h0,h⟩:=h;refine⟨a,c,by rw[z.cell (p:=(a_ gb 4)) (Ze w _ h0)];exact h0,λp d=>?_⟩;let⟨nb,o,ra,f,e,c1,b⟩:=h p d;exact⟨nb,o,ra,f,e,by rw[z.cell (p:=(a_ nb (o+p))) (Ze w _ c1)];exact c1,b.below z⟩
def D0(gb P R:Nat)(tr:Nat->Nat)(Ts:Nat->Nat->Nd)(Ns ti nd:Nat->Nat)(nx:Nat->N_)(sa:Option Addr)(sc:Nat)(f:N_)(b:Nat)(w:World)(hP:P<=1000)(hR:R<=1000)(ac:∀r,r<R->Ns r<=1000000)(hG:GR gb P R tr Ts Ns ti nd w)(hX:NX gb P R nx w)(hS:BR sa f (P+R) w)(hb:b<256):
  Cp 58 #[pT gb,.slice sa (P+R) sc,I6 b] w λe w'=>e=.returned (.slice (some (a_ w.heap.size 0)) (P+R) (P+R))/\TC w.heap.size (bl (YC (AK Ts ti nd) nx f b P) (P+R)) w'/\Bl w w'/\w.heap.size+1<=w'.heap.size:=by
 have q:=hyd (RZ gb P R w hP hR hG.gl);have s:Hid (∀(p:Nat) (w':World),p<P->Bl w w'->Cp 116 #[pT gb,I6 p,I6 b] w' λe w''=>e=.returned (.bool (AK Ts ti nd p b))/\Bl w' w''):=λp w' h1 h=>Lz gb P R tr Ts Ns ti nd p b w' Qo Qo ac (hG.below h) h1 hb
 obtain⟨a1,x1,z⟩:∃a x,∀w',Bl w w'->w'.cell? (a_ gb 1)=some (.slice a P x):=by
  let⟨a,x,c,_⟩:=hG.p;exact⟨a,x,λw' h=>by rw[h.cell (p:=(a_ gb 1)) (Ze w _ c)];exact c⟩
 have I:=hyd z;have K:Hid (∀w',Bl w w'->BR sa f (P+R) w'):=λw' h=>hS.below h
 let⟨X,nc,l,j⟩:=hX;have H:Hid (∀w',Bl w w'->w'.cell? (a_ gb 4)=some (.slice X P nc)):=λw' h=>by rw[h.cell (p:=(a_ gb 4)) (Ze w _ l)];exact l
 have J:Hid (∀p,p<P->∃nb o ra F,X=some (a_ nb o)/\∀w',Bl w w'->w'.cell? (a_ nb (o+p))=some (.slice ra (P+R) F)/\BR ra (nx p) (P+R) w'/\∀k Y,ra=some (a_ k Y)->k≠w.heap.size):=λp U=>by
  let⟨nb,o,ra,F,e,c1,v⟩:=j p U;refine⟨nb,o,ra,F,e,λw' h=>⟨by rw[h.cell (p:=(a_ nb (o+p))) (Ze w _ c1)];exact c1,v.below h,λk Y ek=>?_⟩⟩;let⟨k2,o2,e2,c2⟩:=v 0 Qo;have:=Ze w _ c2;rw[ek]at e2;cases e2;simp only at this;omega
 have aa:(P:Int)<=1000:=Qo
 let⟨hs,A⟩:=nam (AK Ts ti nd);rw[<-A]at s ⊢;clear z hG ac A hS j l;go_enter func58,ntmps58;go_wp2_with fail;apply q.o.mono;rintro e w1 ⟨rfl,S,N,Z⟩;clear q;go_wp2
 go_loopw [8] (λx w'=>∃p:Nat,p<=P/\x=I6 p/\TC w.heap.size (bl (YC hs nx f b p) (P+R)) w'/\Bl w w'/\w.heap.size+1<=w'.heap.size) (λx _=>P-(intOf x).toNat)
 .exact⟨0,Qo,rfl,by rw[YW (g:=λ_=>false) (λi _=>by simp[YC])];exact S,N,Z⟩
 clear S N Z;obtain⟨p,U,rfl,T,B,sz⟩:=hrel;have c1:=I.o wr B;by_cases D:p<P
 .have V:(p:Int)<P:=Qo
  have W:(p:Int)<P+(R:Int):=Qo
  have t:=hyd (s p wr D B);have O:=hyd T;clear T;go_wp2_with fail;apply t.o.mono;rintro e w3 ⟨rfl,G⟩;have d:=B.trans (G.mono B.size);have u:=O.o.block (G.block _ Qo);have s3:w.heap.size+1<=w3.heap.size:=by have:=G.size;omega
  let⟨sb,so,es,cs⟩:=K.o w3 d p Qo;subst es;have n:Hid ((f p&&hs p b)=false->TC w.heap.size (bl (YC hs nx f b (p+1)) (P+R)) w3):=λh=>by
   rw[YW (g:=YC hs nx f b p) (λi _=>by rw[Q0,h];simp)];exact u
  clear c1 t O B G;cases hf:f p
  .rw[hf]at cs;have m:=n.o (by rw[hf];rfl);clear n u;cases hh:hs p b<;>(go_wp2;go_roundw;(case rel=>exact⟨p+1,Qo,Qg,m,d,s3⟩);(case measure=>simp[intOf];omega))
  rw[hf]at cs;cases hh:hs p b
  .have m:=n.o (by rw[hf,hh];rfl);clear n u;go_wp2;go_roundw
   .exact⟨p+1,Qo,Qg,m,d,s3⟩
   simp[intOf];omega
  clear n;let⟨nb,o,ra,F,en,E⟩:=J.o p D;subst en;let⟨cn,v,C⟩:=E w3 d;have c4:=H.o w3 d;have Q:=hyd (PO w.heap.size (P+R) (P+R) (YC hs nx f b p) ra (P+R) F (nx p) w3 Qo u (Zg _) v C);have L:Hid (∀i,YC hs nx f b (p+1) i=(YC hs nx f b p i || nx p i)):=λi=>by rw[Q0,hf,hh];simp
  clear u v C E;go_wp2_with fail;apply Q.o.mono;rintro e w4 ⟨rfl,m,_,z4,y⟩;have T5:TC w.heap.size (bl (YC hs nx f b (p+1)) (P+R)) w4:=by
   rw[YW (g:=λi=>YC hs nx f b p i || nx p i) (λi _=>L.o i)];exact m
  have B5:=y w.heap.size w (Zg _) d;have s5:w.heap.size+1<=w4.heap.size:=Qo
  clear m y Q z4 cn c4 cs;go_wp2;go_roundw
  .exact⟨p+1,Qo,Qg,T5,B5,s5⟩
  simp[intOf];omega
 have ab:¬(p:Int)<P:=Qo
 have M:p=P:=Qo
 subst M;go_wp2;go_ret;exact⟨rfl,T,B,sz⟩
structure AI (gb base R P:Nat) (es:Nat->Rx) (tr ad cp xb sk:Nat->Nat) (ms:Nat->Pl) (Ts:Nat->Nat->Nd) (Ns:Nat->Nat) (ti nd:List Nat) (p:Nat) (vs:Nat->Value) (ls:Nat->List Value) (X:Nat->Prop) (w0 w:World):Prop where
 g:G5 gb base 5 zX vs ls X w
 l0:ls 0=(List.range R).map fun r=>.pointer (some ⟨tr r,0,none⟩)
 l1:ls 1=ti.map Vo
 l2:ls 2=nd.map Vo
 l3:ls 3=(List.range R).map fun r=>.slice (some ⟨xb r,0,none⟩) (Ns r) (Ns r)
 l4:ls 4=(List.range p).map fun q=>.slice (some ⟨sk q,0,none⟩) (P+R) (P+R)
 t:∀r,r<R->Dm X (tr r) (Ts r) (Ns r) (ad r) (cp r) (ms r) w
 x:∀r,r<R->∀w',Wk X w w'->w.heap.size<=w'.heap.size->IL (some ⟨xb r,0,none⟩) (yr es Ts r) (Ns r) w'
 n:∀q,q<p->∀w',Wk X w w'->w.heap.size<=w'.heap.size->BR (some ⟨sk q,0,none⟩) (Am es Ts Ns (fun i=>ti.getD i 0) (fun i=>nd.getD i 0) P q) (P+R) w'
 b:Below w0.heap.size w0 w
 s:w0.heap.size<=gb
def ye(gb:Nat)(vs:Nat->Value)(X:Nat->Prop)(k:Nat):Prop:=k=gb\/(∃j,j<5/\(vs j).ownBlock=some k)\/X k
def AI.gx{ad:Nat->Nat}{ti nd:List Nat}(h:AI gb base R P es tr ad cp xb sk ms Ts Ns ti nd p vs ls X w0 w)(z:ti.length=P):GX (ye gb vs X) gb P R tr ad cp ms Ts Ns es w:=by
 have m:∀w',Wk (ye gb vs X) w w'->w.heap.size<=w'.heap.size->G5 gb base 5 zX vs ls X w':=λw' ha hs=>h.g.keep (ha gb (Or.inl rfl)) (λi k q b=>ha k (Or.inr (Or.inl ⟨i,q,b⟩))) (λk b=>⟨by have:=(h.g.x k b).1;omega,(h.g.x k b).2⟩)
 have n:∀w',Wk (ye gb vs X) w w'->Wk X w w':=λw' ha k b=>ha k (Or.inr (Or.inr b))
 refine⟨λk b=>?_,λw' ha hs=>?_,λw' ha hs=>?_,λw' ha hs=>?_⟩
 .rcases b with h1|⟨j,s,h1⟩|h1
  .rw[h1];exact h.g.lt Qo
  .exact((h.g.o j s).lt k h1).2
  exact(h.g.x k h1).1
 .have G:=m w' ha hs;let⟨a,c,e,d⟩:=(G.o 0 Qo).form;rw[h.l0]at e d;simp only[Zy,gj]at e;refine⟨a,c,by rw[(G.cell (i:=0) Qo).1,e],λr f=>?_⟩;let⟨g,l,e2⟩:=d r (.pointer (some (a_ (tr r) 0))) (by simp[f]);exact⟨g,0,l,by rw[Zn];exact e2,(h.t r f).t w' (n w' ha) hs⟩
 .have G:=m w' ha hs;let⟨a,c,e,d⟩:=(G.o 1 Qo).form;rw[h.l1]at e;simp only[Zy,z]at e;exact⟨a,c,by rw[(G.cell (i:=1) Qo).1,e]⟩
 have G:=m w' ha hs;let⟨a,c,e,d⟩:=(G.o 3 Qo).form;rw[h.l3]at e d;simp only[Zy,gj]at e;refine⟨a,c,by rw[(G.cell (i:=3) Qo).1,e],λr f=>?_⟩;let⟨g,l,e2⟩:=d r (.slice (some (a_ (xb r) 0)) (Ns r) (Ns r)) (by simp[f]);exact⟨g,0,_,_,l,by rw[Zn];exact e2,h.x r f w' (n w' ha) hs⟩
def AI.next{ad:Nat->Nat}{ti nd:List Nat}(h:AI gb base R P es tr ad cp xb sk ms Ts Ns ti nd p vs ls X w0 w)
  {w2 w3 w5:World}{F:N_} (J:Bl w w2) (hT:TC w.heap.size (bl F (P+R)) w2) (hs2:w.heap.size<w2.heap.size) (Z:∀q,q<P+R->F q=Am es Ts Ns (λi=>ti.getD i 0) (λi=>nd.getD i 0) P p q) (H:Bl w2 w3)
  {g len cap:Nat} (Y:w3.grownBy w5 (vs 4).ownBlock) (ho:WO base (zX 4) (.slice (some ⟨g,0,none⟩) len cap) (ls 4++[.slice (some ⟨w.heap.size,0,none⟩) (P+R) (P+R)]) w5) (hb:(vs 4).ownBlock=some g\/g=w3.heap.size):
  AI gb base R P es tr ad cp xb (Yj sk p w.heap.size) ms Ts Ns ti nd (p+1) (Yj vs 4 (.slice (some ⟨g,0,none⟩) len cap)) (Yj ls 4 (ls 4++[.slice (some ⟨w.heap.size,0,none⟩) (P+R) (P+R)])) (λk=>X k\/k=w.heap.size) w0 (w5.setCell ⟨gb,4,none⟩ (.slice (some ⟨g,0,none⟩) len cap)):=by
 have z:G5 gb base 5 zX vs ls (λk=>X k\/k=w.heap.size) w2:=(h.g.below Qo J).more (λk a=>by
  rcases a with h1|h1
  .exact Or.inl h1
  subst h1;exact Or.inr ⟨hs2,by have:=h.g.lt Qo;omega,λj f e=>by have:=((h.g.o j f).lt _ e).2;omega⟩)
 obtain⟨A,C,G,_⟩:=(z.below Qo H).app (i:=4) Qo Y ho hb;simp only[a_,sL]at C G;have E:=H.size;have c:=Wk.trans (λk a=>H.block k (z.x k a).1) C;have l:=Wk.trans (λk a=>J.block k (h.g.x k a).1) (λk a=>c k (Or.inl a));have m:∀k,X k\/k=w.heap.size->k<(w5.setCell ⟨gb,4,none⟩ (.slice (some ⟨g,0,none⟩) len cap)).heap.size:=λk a=>(A.x k a).1
 have u:=h.b.size;have y:Bl w0 w3:=h.b.trans ((J.mono u).trans (H.mono Qo));have D:Bl w0 w5:=y.grown Y y.size (λq B=>by have:=((h.g.o 4 Qo).lt q B).1;have:=h.g.g;have:=h.s;omega);refine⟨A,?_,?_,?_,?_,?_,λr d=>((h.t r d).keep l Qo).mono m (λk a=>Or.inl a),λr d w' ha v=>h.x r d w' (l.trans (λk a=>ha k (Or.inl a))) Qo,λq B w' ha v=>?_,D.setCell (p:=⟨gb,4,none⟩) h.s _,h.s⟩
 .rw[Y5 _ _ Qo];exact h.l0
 .rw[Y5 _ _ Qo];exact h.l1
 .rw[Y5 _ _ Qo];exact h.l2
 .rw[Y5 _ _ Qo];exact h.l3
 .rw[Y1,h.l4,ZT,eK];congr 1
  .refine ZO (λr d=>?_);rw[Y5 _ _ (by have:=ZI.1 d;omega)]
  simp[Y1]
 by_cases e:q=p
 .subst e;rw[Y1];intro j f;refine⟨w.heap.size,0,rfl,?_⟩;rw[Zn,<-Z j f];exact((hT.block ((ha _ (Or.inr rfl)).trans (c _ (Or.inr rfl)))) j _ (YO _ f)).1
 rw[Y5 _ _ e];exact h.n q Qo w' (l.trans (λk a=>ha k (Or.inl a))) Qo
def Fx(es:Nat->Rx)(R:Nat)(w:World)(ee:Ending)(w':World):Prop:=
 ∃X tr ad cp ms Ts Ns ti nd,ee=.returned (.pointer (some ⟨w.heap.size,0,none⟩))/\Gm R Ts Ns es ti nd/\(∀r,r<R->Ns r<=20000)/\GX X w.heap.size (Y4 es R) R tr ad cp ms Ts Ns es w'/\GR w.heap.size (Y4 es R) R tr Ts Ns ti nd w'/\NX w.heap.size (Y4 es R) R (Am es Ts Ns ti nd (Y4 es R)) w'/\Below w.heap.size w w'/\w.heap.size<w'.heap.size
def AI.post{ad:Nat->Nat}{ti nd:List Nat}(h:AI gb base R P es tr ad cp xb sk ms Ts Ns ti nd P vs ls X w0 w)(hP:P=Y4 es R)(J:gb=w0.heap.size)(z:Gm R Ts Ns es (λi=>ti.getD i 0) (λi=>nd.getD i 0))(Z:∀r,r<R->Ns r<=20000)(H:ti.length=P)(Y:nd.length=P):Fx es R w0 (.returned (pT gb)) w:=by
 have gx:=h.gx H;subst hP;subst J;refine⟨_,tr,ad,cp,ms,Ts,Ns,_,_,rfl,z,Z,gx,⟨?_,?_,?_,λp j=>?_⟩,?_,h.b,h.g.lt Qo⟩
 .let⟨a,c,k,e2⟩:=gx.t w (Wk.refl _ _) (Zg _);refine⟨a,c,k,λr y=>?_⟩;let⟨b,o,u,v,x⟩:=e2 r y;exact⟨b,o,u,v,x.tr⟩
 .have q:=h.g.o 1 Qo;rw[h.l1]at q;let⟨f,d,e,il⟩:=WO.il (l:=ti) q;rw[H]at e il;exact⟨f,d,by rw[(h.g.cell (i:=1) Qo).1,e],il⟩
 .have s:=h.g.o 2 Qo;rw[h.l2]at s;let⟨f,d,e,il⟩:=WO.il (l:=nd) s;rw[Y]at e il;exact⟨f,d,by rw[(h.g.cell (i:=2) Qo).1,e],il⟩
 .let⟨h1,h2,h3,_⟩:=z.p p j;exact⟨h1,h2,h3⟩
 let⟨a,c,e,m⟩:=(h.g.o 4 Qo).form;rw[h.l4]at e m;simp only[Zy,gj]at e;refine⟨a,c,by rw[(h.g.cell (i:=4) Qo).1,e],λp j=>?_⟩;let⟨g,k,e2⟩:=m p (.slice (some (a_ (sk p) 0)) (Y4 es R+R) (Y4 es R+R)) (by simp[j]);exact⟨g,0,_,_,k,by rw[Zn];exact e2,h.n p j w (Wk.refl _ _) (Zg _)⟩
def EA(w:World):(Instr.build 113 #[]).run prog w=.ok (.agg #[sN,sN,sN,sN,sN]) w:=Qk
def GW.first(w:World)(es:Nat->Rx)(z:TypeId):GW w.heap.size (w.heap.size+1) 0 es (λ_=>0) (λ_=>0) (λ_=>0) (λ_=>0) (λ_=>⟨λ_=>.int .i64 0,λ_=>none,λ_=>0⟩) (λ_ _=>Ro 0 []) (λ_=>0) [] [] (λ_=>sN) (λ_=>[]) (λ_=>False) w (w.alloc (.cells #[sN,sN,sN,sN,sN] z)):=
 ⟨⟨TC.boxed w [sN,sN,sN,sN,sN] z,λi _=>WO.nil _ _ _,λi j k _ _ _ h=>(by cases h),λk h=>h.elim,Qo⟩,rfl,rfl,rfl,rfl,rfl,λr a=>Qo,λr a=>Qo,AS.nil _ _ _,box_bel _ _,Zg _⟩
def AJ.nod{m:Pl}(h:AJ tb T N g cap m w){k:Nat}(z:k<N):w.cell? (a_ g (k*5))=some (I6 (T k).kind):=by
 have:=(h.n k z).1 0 _ rfl;rw[eP]at this;exact this
def Ix(b cD cap R:Nat)(f:Nat->ByteArray)(es:Nat->Rx)(w:World)(h8:R<=8)(hb:b<w.heap.size)(hr:RL b cD f R w)(cE:∀i,i<R->∀w',Cp 39 #[.string (f i)] w' (QX w' (es i)))(hP:Y4 es R<=96)
  : Cp 27 #[.slice (some (a_ b cD)) R cap] w (Fx es R w):=by
 have hz:=EA;have bQ:∀(w':World) (n:Nat),n<=1000000->(Instr.makeSlice 23 (I6 (n:Int)) (I6 (n:Int))).run prog w'=.ok (.slice (some (a_ w'.heap.size 0)) n n) (w'.alloc (.cells (XF n).toArray 3)):=Vw;have bD:Hid (∀(w':World) (n:Nat),n<=1000000->(Instr.makeSlice 23 (I6 (n:Int)) (I6 (n:Int))).run prog w'=.ok (.slice (some (a_ w'.heap.size 0)) n n) (w'.alloc (.cells (XF n).toArray 3))):=bQ;have aX:Hid (GW w.heap.size (w.heap.size+1) 0 es (λ_=>0) (λ_=>0) (λ_=>0) (λ_=>0) (λ_=>⟨λ_=>.int .i64 0,λ_=>none,λ_=>0⟩) (λ_ _=>Ro 0 []) (λ_=>0) [] [] (λ_=>sN) (λ_=>[]) (λ_=>False) w (w.alloc (.cells #[sN,sN,sN,sN,sN] 113))):=GW.first w es _;have bw:Hid (∀i,i<R->∀w',Cp 39 #[.string (f i)] w' (QX w' (es i))):=cE;have bC:Hid (RL b cD f R w):=hr;have cA:(R:Int)<=8:=Qo
 obtain⟨gb,bd⟩:=nam w.heap.size;rw[<-bd]at aX;have aq:=hyd bd;clear cE hr bQ bd;go_enter func27,ntmps27;go_wp2;clear hz;rw[<-aq.o]
 go_loopw [4] (λx w'=>∃(i:Nat) (tr ad cp xb:Nat->Nat) (ms:Nat->Pl) (Ts:Nat->Nat->Nd) (Ns:Nat->Nat) (ti nd:List Nat) (vs:Nat->Value) (ls:Nat->List Value) (X:Nat->Prop),i<=R/\x=I6 i/\GW gb (gb+1) i es tr ad cp xb ms Ts Ns ti nd vs ls X w w') (λx _=>R-(intOf x).toNat)
 .exact⟨0,_,_,_,_,_,_,_,_,_,_,_,_,Qo,rfl,aX⟩
 clear aX;obtain⟨i,tr,ad,cp,xb,ms,Ts,Ns,ti,nd,vs,ls,X,hi,rfl,G⟩:=hrel;by_cases be:i<R
 .have cu:(i:Int)<R:=Qo
  have cs:=bC.o.below hb G.b i be;have HC:=bw.o i be wr;have aW:Hid (Cp 39 #[.string (f i)] wr (QX wr (es i))):=HC;have I:=hyd G;obtain⟨si,bS⟩:=nam (f i);rw[<-bS]at cs aW;clear G HC bS;go_wp2_with fail;apply aW.o.mono;rintro ee w1 ⟨T,N,Xt,g,bF,m,rfl,aS,bH,b9,az,ai,bK,ak,ch⟩;obtain⟨X1,aA⟩:∃X1:Nat->Prop,X1=λk=>X k\/Xt k:=⟨_,rfl⟩
  have bc:∀k,X1 k->k<w1.heap.size:=λk hk=>by
   rw[aA]at hk;rcases hk with h|h
   .have:=(I.o.g.x k h).1;omega
   exact ai.s k h
  have bb:=ai.mono bc (λk hk=>by rw[aA];exact Or.inr hk);have bP:∀j,j<5->∀k,(vs j).ownBlock=some k->gb+1<=k/\k<wr.heap.size:=λj hj k hk=>(I.o.g.o j hj).lt k hk
  have cd:=I.o.g.lt Qo;have G1:G5 gb (gb+1) 5 zX vs ls X1 w1:=(I.o.g.below Qo ak).more (λk hk=>by
   rw[aA]at hk;rcases hk with h|h
   .exact Or.inl h
   have:=bK k h;exact Or.inr ⟨ai.s k h,Qo,λj hj e=>by have:=bP j hj k e;omega⟩)
  obtain⟨tb,bj⟩:=nam wr.heap.size;rw[<-bj]at bb ⊢;obtain⟨a0,c0,e0,_⟩:=(G1.o 0 Qo).form;rw[I.o.l0]at e0;simp only[Zy,gj]at e0;have bL:=(G1.cell (i:=0) Qo).1;have aN:=box_bel w1 (.cells #[pT tb] 94);have a7:=(G1.below Qo aN).o 0 Qo;rw[e0,I.o.l0]at a7;rw[e0]at bL;have C:(w1.alloc (.cells #[pT tb] 94)).cell? (a_ w1.heap.size 0)=some (pT tb):=by rw[Zm];rfl
  have B:gb+1<=(w1.alloc (.cells #[pT tb] 94)).heap.size:=by have:=aN.size;have:=ak.size;omega
  have aj:=hyd (G1.below Qo aN);have aZ:=hyd bb;have J:=hyd6 aS az bj aA ak bc;have ap:=hyd e0;have ar:Hid (((List.range i).map λr=>Value.pointer (some (a_ (tr r) 0))).length=i):=by show _=_;simp
  have cB:i<8:=Qo
  clear aS az ai bK aA bc bb bP G1 e0 aN ak bj ch cs aW;go_wp2_with (first|(with_reducible show wpList _ _ _ (⟨_,Op.call { callee:=Callee.builtin Builtin.append,args:=_,argTypes:=_ },_,_,_,_⟩::_) _ _;refine Ya.out ?_));refine⟨?_⟩;refine YK 93 94 underlying93 Lc rfl Qo Qr _ _ Qr (gb+1) (.slice a0 i c0) _ Qr a7 (by rw[ar.o];omega) w1.heap.size (pT tb) rfl Qr C B _ rfl ?_;rw[ar.o];intro g0 ah w5 A d v _;have ac:w5.cell? (a_ gb 0)=some (.slice a0 i c0)/\w5.frozen? (a_ gb 0)=false:=by
   have:=(aj.o.c.block (d.block gb (aj.o.lt Qo) (λe=>by have:=((aj.o.o 0 Qo).lt gb (by rw[ap.o];exact e.symm)).1;omega))) 0 (vs 0) rfl;rw[ap.o]at this;exact this
  obtain⟨V,W⟩:=ac;obtain⟨G6,A6,s6,_⟩:=aj.o.app (i:=0) Qo (t:=pT tb) (g:=g0) (len:=i+1) (cap:=ah) (by rw[ap.o];exact d) (by rw[I.o.l0];exact A) (by rw[ap.o];exact v);obtain⟨O,h6⟩:=nam (w5.setCell (a_ gb 0) (sL g0 (i+1) ah));have H6:=hyd h6;rw[<-h6]at G6 A6 s6;have ci:=(box_bel w1 (.cells #[pT tb] 94)).size;have al:Wk X1 w1 O:=Wk.trans (λk hk=>(box_bel w1 (.cells #[pT tb] 94)).block k (J.o.2.2.2.2.2 k hk)) A6;have bT:=aZ.o.t O al Qo;have cT:=bT.c;have B6:Bl w O:=by
   have ak:=J.o.2.2.2.2.1;have x1:=I.o.b.trans (ak.mono I.o.b.size);have x2:=x1.trans ((box_bel w1 (.cells #[pT tb] 94)).mono x1.size);have x3:Bl w w5:=x2.grown d x2.size (λq hq=>by
    have:=((aj.o.o 0 Qo).lt q (by rw[ap.o];exact hq)).1;have:=aq.o;omega)
   rw[h6];exact x3.setCell (p:=(a_ gb 0)) (by have:=aq.o;show _<=gb;omega) _
  have bz:Hid (G5 gb (gb+1) 5 zX (Yj vs 0 (sL g0 (i+1) ah)) (Yj ls 0 (ls 0++[pT tb])) X1 O/\Wk X1 w1 O/\w1.heap.size<=O.heap.size/\Bl w O):=⟨G6,al,Qo,B6⟩;have bR:=bD.o O N Qo;have cy:(N:Int)<=20000:=Qo
  clear G6 A6 s6 h6 A d v a7 C B al bT B6 ci;go_wp2_with (first|(with_reducible apply gld 114;refine Ya.out ?_));refine⟨?_⟩;rw[<-H6.o];clear V W bL;go_wp2;obtain⟨ib,aC⟩:=nam O.heap.size;rw[<-aC];have aB:=box_bel O (.cells (XF N).toArray 3);obtain⟨L0,a6⟩:=nam ((List.range (i+1)).map λr=>Value.pointer (some (a_ (Yj tr i tb r) 0)));have bW:=hyd a6;have bv:Hid (GI gb (gb+1) i es ib 0 L0 (ls 3) (Yj Ts i T) (Yj Ns i N) ti nd (Yj vs 0 (sL g0 (i+1) ah)) (Yj ls 0 (ls 0++[pT tb])) X1 w w1 (O.alloc (.cells (XF N).toArray 3))):=by
   obtain⟨G6,al,cC,B6⟩:=bz.o;refine⟨⟨G6.below Qo aB,?_,by rw[aC];simp,λj hj e=>?_,⟨λe=>?_,?_⟩,al.trans (λk hk=>aB.block k (G6.x k hk).1),by have:=aB.size;omega,B6.trans (aB.mono B6.size),by have:=aq.o;exact⟨Qo,by rw[aC];exact B6.size⟩⟩,?_,?_,?_,?_,?_,?_⟩
   .have h1:=TC.boxed O (XF N) 3;rw[<-aC]at h1;rw[Y1,Y1,Yn (g:=λ_=>0) (λq _=>by unfold BP;rw[g_])];exact h1
   .have:=((G6.o j hj).lt ib e).2;omega
   .have:=(G6.x ib e).1;omega
   .have:=G6.lt Qo;omega
   .rw[Y1,I.o.l0,a6,ZT,eK];congr 1
    .refine ZO (λr hr=>?_);rw[Y5 _ _ (by have:=ZI.1 hr;omega)]
    simp[Y1]
   .rw[Y5 _ _ Qo];exact I.o.l1
   .rw[Y5 _ _ Qo];exact I.o.l2
   .rw[Y5 _ _ Qo]
   .rw[Y5 _ _ Qo];exact I.o.l4
   rw[Y1];exact I.o.p.tree T N
  clear bz aB aC bR a6 cT aj cd
  go_loopw [7] (λx w'=>∃(k:Nat) (ag af:List Nat) (Z:Nat->Value) (D:Nat->List Value),k<=N/\x=I6 k/\GI gb (gb+1) i es ib k L0 (ls 3) (Yj Ts i T) (Yj Ns i N) ag af Z D X1 w w1 w') (λx _=>N-(intOf x).toNat)
  .exact⟨0,ti,nd,_,_,Qo,rfl,bv⟩
  clear bv;obtain⟨k,ag,af,Z,D,hk,rfl,u⟩:=hrel;have tm:=aZ.o.t wr u.st.a u.st.z;have cT:=tm.c;obtain⟨L,hL⟩:=nam (Y4 es i+YA T k);have cj:L<=96:=by
   have h1:=Vr T hk;have h2:=J.o.2.1.cl;rw[gF bH]at h2;simp only[YA,Zn]at h2;have h3:=X7 es (show i+1<=R from be);simp only[Y4]at h3;omega
  have H:=u.p;rw[Y1,<-hL]at H;have HL:=hyd hL;by_cases aM:k<N
  .have ct:(k:Int)<N:=Qo
   have ck:=tm.nod aM;obtain⟨kd,aD⟩:=nam ((T k).kind);rw[<-aD]at ck;have bY:=hyd aD;have Q:=hyd u;by_cases h0:kd=0
   .have q0:((kd:Int)==0)=true:=by simp[h0]
    obtain⟨a1,c1,e1,_⟩:=(u.st.g.o 1 Qo).form;rw[u.l1,Zy,H.a]at e1;have aa:=(u.st.g.cell (i:=1) Qo).1;rw[e1]at aa;obtain⟨a2,c2,e2,_⟩:=(u.st.g.o 2 Qo).form;rw[u.l2,Zy,H.b]at e2;have S0:=u.st;rw[Y1,Y1]at S0;obtain⟨x1,x2⟩:=S0.x k _ (Xf _ aM);have S2:=S0.put (k:=k) (by rw[Xr];exact aM) (I6 (L:Int));have aO:=box_bel (wr.setCell (a_ ib k) (I6 (L:Int))) (.cells #[I6 (i:Int)] 3);have S3:=S2.below aO;have aK:=S3.g.o 1 Qo;rw[e1,u.l1]at aK;have U:=(S2.g.cell (i:=1) Qo).1;rw[e1]at U;obtain⟨w2,bn⟩:=nam (wr.setCell (a_ ib k) (I6 (L:Int)));have b3:=hyd bn;rw[<-bn]at S2 aO S3 aK U;have C:(w2.alloc (.cells #[I6 (i:Int)] 3)).cell? (a_ w2.heap.size 0)=some (I6 (i:Int)):=by rw[Zm];rfl
    have B:gb+1<=(w2.alloc (.cells #[I6 (i:Int)] 3)).heap.size:=by have:=aO.size;have:=S2.g.lt Qo;omega
    have au:Hid ((ag.map Vo).length=L):=by show _=_;rw[Zy,H.a]
    have av:Hid ((af.map Vo).length=L):=by show _=_;rw[Zy,H.b]
    have F:=hyd S3;have aF:=hyd e1;have a5:=hyd e2;have Hl:=hyd2 u.l1 u.l2;clear u S0 S2 S3 aO e1 e2 bn H tm hL aD h0;go_wp2_with (first|(with_reducible apply gst 3;refine Ya.out ?_));refine⟨?_⟩;go_wp2_with (first|(with_reducible apply gld 23;refine Ya.out ?_));refine⟨?_⟩;rw[<-b3.o];clear aa x1 x2 ck cT;go_wp2_with (first|(with_reducible show wpList _ _ _ (⟨_,Op.call { callee:=Callee.builtin Builtin.append,args:=_,argTypes:=_ },_,_,_,_⟩::_) _ _;refine Ya.out ?_));refine⟨?_⟩;refine YK 23 3 u_e WP rfl Qo Qr _ _ Qr (gb+1) (.slice a1 L c1) _ Qr aK (by rw[au.o];omega) w2.heap.size (I6 (i:Int)) rfl Qr C B _ rfl ?_;rw[au.o];intro g1 y w5 A d v _;have ac:w5.cell? (a_ gb 1)=some (.slice a1 L c1)/\w5.frozen? (a_ gb 1)=false:=by
     have:=(F.o.g.c.block (d.block gb (F.o.g.lt Qo) (λe=>by have:=((F.o.g.o 1 Qo).lt gb (by rw[aF.o];exact e.symm)).1;omega))) 1 (Z 1) rfl;rw[aF.o]at this;exact this
    obtain⟨V,W⟩:=ac;have S6:=F.o.app (i:=1) Qo (t:=I6 (i:Int)) (g:=g1) (len:=L+1) (cap:=y) (by rw[aF.o];exact d) (by rw[Hl.o.1];exact A) (by rw[aF.o];exact v);obtain⟨O,h6⟩:=nam (w5.setCell (a_ gb 1) (sL g1 (L+1) y));have H6:=hyd h6;rw[<-h6]at S6;have ab:=(S6.g.cell (i:=2) Qo).1;rw[Y5 _ _ Qo,a5.o]at ab;have bp:=box_bel O (.cells #[I6 (k:Int)] 3);have S7:=S6.below bp;have a8:=S7.g.o 2 Qo;rw[Y5 _ _ Qo,Y5 _ _ Qo,a5.o,Hl.o.2]at a8;have aV:(O.alloc (.cells #[I6 (k:Int)] 3)).cell? (a_ O.heap.size 0)=some (I6 (k:Int)):=by rw[Zm];rfl
    have aT:gb+1<=(O.alloc (.cells #[I6 (k:Int)] 3)).heap.size:=by have:=bp.size;have:=S6.g.lt Qo;omega
    have ao:=hyd S7;clear S6 S7 h6 A d v aK C B bp U F;go_wp2_with (first|(with_reducible apply gld 23;refine Ya.out ?_));refine⟨?_⟩;rw[<-H6.o];clear V W;go_wp2_with (first|(with_reducible show wpList _ _ _ (⟨_,Op.call { callee:=Callee.builtin Builtin.append,args:=_,argTypes:=_ },_,_,_,_⟩::_) _ _;refine Ya.out ?_));refine⟨?_⟩;refine YK 23 3 u_e WP rfl Qo Qr _ _ Qr (gb+1) (.slice a2 L c2) _ Qr a8 (by rw[av.o];omega) O.heap.size (I6 (k:Int)) rfl Qr aV aT _ rfl ?_;rw[av.o];intro g2 ay w8 bI M aU _;have aI:Yj Z 1 (sL g1 (L+1) y) 2=.slice a2 L c2:=by rw[Y5 _ _ Qo,a5.o]
    have ca:w8.cell? (a_ gb 2)=some (.slice a2 L c2)/\w8.frozen? (a_ gb 2)=false:=by
     have:=(ao.o.g.c.block (M.block gb (ao.o.g.lt Qo) (λe=>by have:=((ao.o.g.o 2 Qo).lt gb (by rw[aI];exact e.symm)).1;omega))) 2 _ rfl;rw[aI]at this;exact this
    obtain⟨co,cq⟩:=ca;have S9:=ao.o.app (i:=2) Qo (t:=I6 (k:Int)) (g:=g2) (len:=L+1) (cap:=ay) (by rw[aI];exact M) (by rw[Y5 _ _ Qo,Hl.o.2];exact bI) (by rw[aI];exact aU);have aY:Hid (GI gb (gb+1) i es ib (k+1) L0 (ls 3) (Yj Ts i T) (Yj Ns i N) (ag++[i]) (af++[k]) (Yj (Yj Z 1 (sL g1 (L+1) y)) 2 (sL g2 (L+1) ay)) (Yj (Yj D 1 (D 1++[Vo i])) 2 (D 2++[Vo k])) X1 w w1 (w8.setCell (a_ gb 2) (sL g2 (L+1) ay))):=by
     refine Q.o.letter (by rw[Y1,<-bY.o];simpa using q0) (by rw[Y1];exact aM) ?_;rw[Y1,Y1,<-HL.o];have e3:Yj D 1 (D 1++[Value.int .i64 (i:Int)]) 2=D 2:=Y5 _ _ Qo;rw[e3]at S9;exact S9
    clear S9 bI M aU a8 aV aT ao Q ab;go_wp2;go_roundw
    .exact⟨k+1,ag++[i],af++[k],_,_,Qo,Qg,aY⟩
    simp[intOf];omega
   have q0:((kd:Int)==0)=false:=Qp
   have aY:=hyd (u.skip (by rw[Y1,<-aD];exact h0));clear u tm aD hL H;go_wp2;go_roundw
   .exact⟨k+1,ag,af,Z,D,Qo,Qg,aY⟩
   simp[intOf];omega
  have cc:¬(k:Int)<N:=Qo
  have cf:k=N:=Qo
  subst cf;obtain⟨a3,c3,e3,_⟩:=(u.st.g.o 3 Qo).form;rw[u.l3,I.o.l3,Zy,gj]at e3;have bN:=(u.st.g.cell (i:=3) Qo).1;rw[e3]at bN;have bo:=box_bel wr (.cells #[sL ib k k] 23);have S3:=u.st.below bo;have a9:=S3.g.o 3 Qo;rw[e3,u.l3,I.o.l3]at a9;have C:(wr.alloc (.cells #[sL ib k k] 23)).cell? (a_ wr.heap.size 0)=some (sL ib k k):=by rw[Zm];rfl
  have B:gb+1<=(wr.alloc (.cells #[sL ib k k] 23)).heap.size:=by have:=bo.size;have:=u.st.g.lt Qo;omega
  have aw:Hid (((List.range i).map λr=>Value.slice (some (a_ (xb r) 0)) (Ns r) (Ns r)).length=i):=by show _=_;simp
  have aG:=hyd e3;have bZ:Hid (D 3=(List.range i).map λr=>Value.slice (some (a_ (xb r) 0)) (Ns r) (Ns r)):=by show _=_;rw[u.l3,I.o.l3]
  have F:=hyd S3;have Q:=hyd u;clear u S3 bo e3 tm hL H;go_wp2_with (first|(with_reducible show wpList _ _ _ (⟨_,Op.call { callee:=Callee.builtin Builtin.append,args:=_,argTypes:=_ },_,_,_,_⟩::_) _ _;refine Ya.out ?_));refine⟨?_⟩;refine YK 53 23 u_t PB rfl Qo Qr _ _ Qr (gb+1) (.slice a3 i c3) _ Qr a9 (by rw[aw.o];omega) wr.heap.size (sL ib k k) rfl Qr C B _ rfl ?_;rw[aw.o];intro g1 y w5 A d v _;have ac:w5.cell? (a_ gb 3)=some (.slice a3 i c3)/\w5.frozen? (a_ gb 3)=false:=by
   have:=(F.o.g.c.block (d.block gb (F.o.g.lt Qo) (λe=>by have:=((F.o.g.o 3 Qo).lt gb (by rw[aG.o];exact e.symm)).1;omega))) 3 (Z 3) rfl;rw[aG.o]at this;exact this
  obtain⟨V,W⟩:=ac;have S6:=F.o.app (i:=3) Qo (t:=sL ib k k) (g:=g1) (len:=i+1) (cap:=y) (by rw[aG.o];exact d) (by rw[bZ.o];exact A) (by rw[aG.o];exact v);have bU:Hid (GW gb (gb+1) (i+1) es (Yj tr i tb) (Yj ad i g) (Yj cp i bF) (Yj xb i ib) (Yj ms i m) (Yj Ts i T) (Yj Ns i k) ag af (Yj Z 3 (sL g1 (i+1) y)) (Yj D 3 (D 3++[sL ib k k])) (λq=>X1 q\/q=ib) w (w5.setCell (a_ gb 3) (sL g1 (i+1) y))):=by
   obtain⟨b6,b7,cw,b8,bG,cx⟩:=J.o;refine I.o.next b6 bH b9 b7 aZ.o (λq hq=>by rw[b8];exact Or.inl hq) (λq hq=>bG.block q (I.o.g.x q hq).1) bG.size (by rw[<-bW.o];exact Q.o) (λq=>Iff.rfl) S6
  clear S6 A d v a9 C B F Q bN cT;go_wp2;go_roundw
  .exact⟨i+1,_,_,_,_,_,_,_,_,_,_,_,_,Qo,Qg,bU⟩
  simp[intOf];omega
 have cc:¬(i:Int)<R:=Qo
 have ce:i=R:=Qo
 subst ce;obtain⟨P,K⟩:=nam (Y4 es i);have Y:ti.length=P:=by rw[G.p.a,K]
 have ae:nd.length=P:=by rw[G.p.b,K]
 have S:Gm i Ts Ns es (λq=>ti.getD q 0) (λq=>nd.getD q 0):=⟨λr hr=>by
  obtain⟨t1,t2,t3,t4,_⟩:=G.t r hr;exact⟨t1,t2,t4⟩,λp hp=>G.p.p p hp⟩
 have bV:Hid (Gm i Ts Ns es (λq=>ti.getD q 0) (λq=>nd.getD q 0)/\(∀r,r<i->Ns r<=20000)/\P=Y4 es i/\ti.length=P/\nd.length=P):=⟨S,λr hr=>(G.t r hr).2.2.1,K,Y,ae⟩;have bA:Hid (AI gb (gb+1) i P es tr ad cp xb (λ_=>0) ms Ts Ns ti nd 0 vs ls X w wr):=⟨G.g,G.l0,G.l1,G.l2,G.l3,G.l4,λr hr=>(G.t r hr).2.2.2.2,G.x,λq hq=>Qo,G.b,G.s⟩;have cn:P<=96:=Qo
 have cz:(P:Int)<=96:=Qo
 clear G Y ae S K bC bw bD;go_wp2
 go_loopw [8] (λx w'=>∃(p:Nat) (sk:Nat->Nat) (vs:Nat->Value) (ls:Nat->List Value) (X:Nat->Prop),p<=P/\x=I6 p/\AI gb (gb+1) i P es tr ad cp xb sk ms Ts Ns ti nd p vs ls X w w') (λx _=>P-(intOf x).toNat)
 .exact⟨0,_,_,_,_,Qo,rfl,bA⟩
 clear bA;obtain⟨p,sk,vs,ls,X,hp,rfl,E⟩:=hrel;obtain⟨S,aJ,K,Y,ae⟩:=bV.o;have gx:=E.gx Y;have o1:=E.g.o 1 Qo;rw[E.l1]at o1;obtain⟨a1,c1,e1,aQ⟩:=WO.il (l:=ti) o1;rw[Y]at e1 aQ;have aa:=(E.g.cell (i:=1) Qo).1;rw[e1]at aa;have o2:=E.g.o 2 Qo;rw[E.l2]at o2;obtain⟨a2,c2,e2,aR⟩:=WO.il (l:=nd) o2;rw[ae]at e2 aR;have ab:=(E.g.cell (i:=2) Qo).1;rw[e2]at ab;by_cases H:p<P
 .have cv:(p:Int)<P:=Qo
  obtain⟨p1,p2,p3,p4⟩:=S.p p Qo;obtain⟨b1,bq,e3,d1⟩:=aQ p H;obtain⟨b2,br,e4,d2⟩:=aR p H;subst e3;subst e4;obtain⟨tp,bm⟩:=nam (ti.getD p 0);obtain⟨np,bf⟩:=nam (nd.getD p 0);simp only[<-bm,<-bf]at p1 p2 p3 p4 d1 d2;have bB:=hyd (RZ gb P i wr Qo Qo gx.gl);have bJ:¬ye gb vs X wr.heap.size:=λe=>by have:=gx.s _ e;omega
  have bt:Hid (∀w',Bl wr w'->TC wr.heap.size (bl (λ_=>false) (P+i)) w'->Cp 53 #[pT gb,I6 tp,I6 np,.slice (some (a_ wr.heap.size 0)) (P+i) (P+i)] w' (Ws wr.heap.size (P+i) (λ_=>false) (QT (Ts tp) (Ns tp) (Tj es Ts tp) P tp np) w')):=λw' hW hT=>by
   have g1:=gx.below hW;rw[K]at g1 hT ⊢;exact Mx (ye gb vs X) gb i tr ad cp ms Ts Ns es _ _ S Qo Qo aJ tp p1 wr.heap.size _ bJ (Ns tp+1) np (λ_=>false) w' Qo p2 g1 hT
  have HF:Hid (∀q,(false || QT (Ts tp) (Ns tp) (Tj es Ts tp) P tp np q)=Am es Ts Ns (λi=>ti.getD i 0) (λi=>nd.getD i 0) P p q):=λq=>by
   unfold Am;simp only[<-bm,<-bf,dx]
  have an:=hyd E;clear gx o1 o2 aQ aR e1 e2 E S p2 p3 p4 bm bf bJ K Y ae aJ;go_wp2_with fail;apply bB.o.mono;rintro e w1 ⟨rfl,T1,B1,s1⟩;have U:w1.cell? (a_ gb 1)=some (.slice (some (a_ b1 bq)) P c1):=by rw[B1.cell (p:=(a_ gb 1)) (Ze wr _ aa)];exact aa
  have bM:w1.cell? (a_ gb 2)=some (.slice (some (a_ b2 br)) P c2):=by rw[B1.cell (p:=(a_ gb 2)) (Ze wr _ ab)];exact ab
  have b4:w1.cell? (a_ b1 (bq+p))=some (I6 (tp:Int)):=by rw[B1.cell (p:=(a_ b1 (bq+p))) (Ze wr _ d1)];exact d1
  have b5:w1.cell? (a_ b2 (br+p))=some (I6 (np:Int)):=by rw[B1.cell (p:=(a_ b2 (br+p))) (Ze wr _ d2)];exact d2
  have aE:=hyd2 T1 B1;clear T1 bB aa ab d1 d2 B1;go_wp2;apply wp_region_still_tail 16 Qk Qk;simp only[ZK,f7,ZL,Zw];change wpStill _ _ w1.drew (λa'=>wpList _ _ _ _ a' w1.drew) _ _
  repeat still_step
  apply f8;have bu:=hyd (bt w1.drew aE.o.2.drew aE.o.1);clear U bM b4 b5;go_wp2_with fail;apply bu.o.mono;rintro e w2 ⟨rfl,bE,F2⟩;have B2:=aE.o.2.drew.trans F2.b;have s2:wr.heap.size<w2.heap.size:=by
   have h1:w1.drew.heap.size=w1.heap.size:=rfl;have:=F2.b.size;omega
  obtain⟨sb,bi⟩:=nam wr.heap.size;have G2:=an.o.g.below Qo B2;obtain⟨a4,c4,e4,_⟩:=(G2.o 4 Qo).form;rw[an.o.l4,Zy,gj]at e4;have bO:=(G2.cell (i:=4) Qo).1;rw[e4]at bO;have aP:=box_bel w2 (.cells #[.slice (some (a_ wr.heap.size 0)) (P+i) (P+i)] 78);have G4:=G2.below Qo aP;have aL:=G4.o 4 Qo;rw[e4,an.o.l4]at aL;have C:(w2.alloc (.cells #[.slice (some (a_ wr.heap.size 0)) (P+i) (P+i)] 78)).cell? (a_ w2.heap.size 0)=some (.slice (some (a_ wr.heap.size 0)) (P+i) (P+i)):=by rw[Zm];rfl
  have B:gb+1<=(w2.alloc (.cells #[.slice (some (a_ wr.heap.size 0)) (P+i) (P+i)] 78)).heap.size:=by have:=aP.size;have:=G2.lt Qo;omega
  have ax:Hid (((List.range p).map λq=>Value.slice (some (a_ (sk q) 0)) (P+i) (P+i)).length=p):=by show _=_;simp
  have aH:=hyd e4;have am:=hyd G4;have H2:=hyd4 bE B2 s2 aP;rw[<-bi]at aL C B am ⊢;have b0:=hyd bi;clear bE F2 B2 s2 G2 G4 e4 aP bi bu bt aE;go_wp2_with (first|(with_reducible show wpList _ _ _ (⟨_,Op.call { callee:=Callee.builtin Builtin.append,args:=_,argTypes:=_ },_,_,_,_⟩::_) _ _;refine Ya.out ?_));refine⟨?_⟩;refine YK 74 78 u_r PA rfl Qo Qr _ _ Qr (gb+1) (.slice a4 p c4) _ Qr aL (by rw[ax.o];omega) w2.heap.size (sL sb (P+i) (P+i)) rfl Qr C B _ rfl ?_;rw[ax.o];intro g1 y w5 A d v _;have ac:w5.cell? (a_ gb 4)=some (.slice a4 p c4)/\w5.frozen? (a_ gb 4)=false:=by
   have:=(am.o.c.block (d.block gb (am.o.lt Qo) (λe=>by have:=((am.o.o 4 Qo).lt gb (by rw[aH.o];exact e.symm)).1;omega))) 4 (vs 4) rfl;rw[aH.o]at this;exact this
  obtain⟨V,W⟩:=ac;have bX:Hid (AI gb (gb+1) i P es tr ad cp xb (Yj sk p sb) ms Ts Ns ti nd (p+1) (Yj vs 4 (sL g1 (p+1) y)) (Yj ls 4 (ls 4++[sL sb (P+i) (P+i)])) (λk=>X k\/k=sb) w (w5.setCell (a_ gb 4) (sL g1 (p+1) y))):=by
   obtain⟨x1,x2,x3,x4⟩:=H2.o;rw[b0.o]at d A v ⊢;exact an.o.next x2 x1 x3 (λq _=>HF.o q) x4 (by rw[aH.o];exact d) (by rw[an.o.l4];exact A) (by rw[aH.o];exact v)
  clear A d v aL C B am bO;go_wp2;go_roundw
  .exact⟨p+1,_,_,_,_,Qo,Qg,bX⟩
  simp[intOf];omega
 have cr:¬(p:Int)<P:=Qo
 have cg:p=P:=Qo
 subst cg;have HR:=hyd (E.post K aq S aJ Y ae);clear gx o1 o2 aQ aR e1 e2 E S K Y ae aJ;go_wp2;go_ret;exact HR.o
end
section
open Bm
def em(P:Nat)(g:Nat->Bool)(q:Nat):Bool:=g (Dp P q)
variable {l:List (N_)}{t0:List Int}{lx:List Value}{P R b base cap g gb i k len n nc tob:Nat}{F:N_}{f:Nat->Int}{ls:Nat->List Value}{Ns nd ti:Nat->Nat}{E:Nat->N_}{nx:Nat->Nat->Int}{X X':Nat->Prop}{vs:Nat->Value}{w w' w5:World}
def Il(g:Nat->Bool){q:Nat}(h:q<P):em P g q=g q:=by unfold em Dp;rw[dF h]
def JQ(P:Nat)(g:Nat->Bool)(r:Nat):em P g (P+r)=g (96+r):=by unfold em Dp;rw[dG (by omega)];congr 1;omega
def zP{g h:Nat->Bool}(hP:P<=96)(hR:R<=8)(hg:G9 P R g)(hh:G9 P R h):(∀q,q<P+R->em P g q=em P h q)<->Yq g h 104=true:=by
 rw[WY];constructor
 .intro e q c;by_cases h1:q<P
  .have:=e q (by omega)
   rwa [Il g h1,Il h h1]at this
  by_cases h2:96<=q/\q<96+R
  .have:=e (P+(q-96)) (by omega);rw[JQ,JQ,show 96+(q-96)=q by omega]at this;exact this
  cases a:g q
  .cases b:h q
   .rfl
   have:=hh q c b;omega
  have:=hg q c a;omega
 intro e q c;unfold em Dp;split
 .exact e q (by omega)
 exact e _ (by omega)
def Qn{g h:Nat->Bool}(hP:P<=96)(hR:R<=8)(hg:G9 P R g)(hh:G9 P R h):Wi (em P g) (P+R)=Wi (em P h) (P+R)<->Yq g h 104=true:=by
 rw[BU];exact zP hP hR hg hh
variable {Ts:Nat->Nat->Nd}{es:Nat->Rx}
def zO(h:Gm R Ts Ns es ti nd)(hP:Y4 es R<=96)(g:Nat->Bool){b q:Nat}(hb:b<256)(hq:q<Y4 es R+R):
  YC (AK Ts ti nd) (Am es Ts Ns ti nd (Y4 es R)) (em (Y4 es R) g) b (Y4 es R) q=em (Y4 es R) (Wh es R g b) q:=by
 unfold em Wh YC;rw[eA];simp only[fY,ZI];constructor
 .rintro ⟨p,a,h1⟩;refine⟨p,a,?_⟩;rw[Pw h a hb,Fa h a hq hP]at h1;rw[show Dp (Y4 es R) p=p by unfold Dp;rw[dF a]]at h1;exact h1
 rintro ⟨p,a,h1⟩;refine⟨p,a,?_⟩;rw[Pw h a hb,Fa h a hq hP,show Dp (Y4 es R) p=p by unfold Dp;rw[dF a]];exact h1
def EO(h:Gm R Ts Ns es ti nd){b:Nat}(hb:b<256):least (Kq (AK Ts ti nd) (Y4 es R)) b=least (Kq (XV es R) (Y4 es R)) b:=by
 refine least_congr (n:=256) (Vi _ _ _) (Vi _ _ _) (λa c ha f=>?_) hb;rw[Vj,Vj];constructor
 .intro e p d;rw[<-Pw h d ha,<-Pw h d f];exact e p d
 intro e p d;rw[Pw h d ha,Pw h d f];exact e p d
def AH{g:Nat->Bool}(hP:P<=96)(hR:R<=8)(hg:G9 P R g):UY (fun r=>em P g (P+r)) R 0=UY (fun r=>g (96+r)) 8 0:=by
 have e:=funext (fun r=>JQ P g r);rw[e];obtain⟨d,hd⟩:∃d,8=R+d:=⟨8-R,by omega⟩;rw[hd]
 symm
 refine QM R d 0 (fun x h1 h2=>?_);cases a:g (96+x)
 .rfl
 .have:=hg (96+x) (by omega) a;omega
def By{g:Nat->Bool}(hP:P<=96)(hR:R<=8)(hg:G9 P R g)(hl:∀h∈l,G9 P R h)(hne:Yq g Ve 104=false):
  (Xp l g<l.length/\JX (λi=>Wi (em P (l.getD i Ve)) (P+R)) (Wi (em P g) (P+R)) l.length=Xp l g/\WK l g=l)\/(Xp l g=l.length/\JX (λi=>Wi (em P (l.getD i Ve)) (P+R)) (Wi (em P g) (P+R)) l.length=-1/\WK l g=l++[g]):=by
 have d:∀(i:Nat) (h:Nat->Bool),l[i]?=some h->(Wi (em P (l.getD i Ve)) (P+R)=Wi (em P g) (P+R)<->Yq h g 104=true):=λi h f=>by
  rw[Zf,f,fX];exact Qn hP hR (hl h (dI f)) hg
 unfold Xp WK;rw[dG (by rw[hne];simp),dG (by rw[hne];simp)];by_cases a:l.findIdx (λh=>Yq h g 104)<l.length
 .rw[dF a];refine Or.inl ⟨by omega,?_,rfl⟩;have h1:=List.findIdx_getElem (w:=a) (xs:=l) (p:=λh=>Yq h g 104);refine Iu a ((d _ _ (Zd a)).2 h1) (λj b e=>?_);have c:j<l.length:=by omega
  have h2:=(d j _ (Zd c)).1 e;have h3:=List.not_of_lt_findIdx b;rw[h2]at h3;exact absurd h3 (by simp)
 rw[dG a];have h1:l.findIdx (λh=>Yq h g 104)=l.length:=by
  have:=gi (xs:=l) (p:=λh=>Yq h g 104);omega
 refine Or.inr ⟨by omega,La (λj b e=>?_),rfl⟩;have h2:=(d j _ (Zd b)).1 e;have h3:=List.findIdx_eq_length.1 h1 _ (gA b);rw[h2]at h3;cases h3
open Go.RowKit
structure L6 (gb base nc n:Nat) (ty:Nat->TypeId) (vs:Nat->Value) (ls:Nat->List Value) (X:Nat->Prop) (w:World):Prop where
 c:TC gb ((List.range nc).map vs) w
 o:∀i,i<n->WO base (ty i) (vs i) (ls i) w
 d:∀i j k,i<n->j<n->i≠j->(vs i).ownBlock=some k->(vs j).ownBlock≠some k
 x:∀k,X k->k<w.heap.size/\k≠gb/\∀i,i<n->(vs i).ownBlock≠some k
 g:gb<base
 le:nc<=n
def L6.cell{H:Nat->TypeId}(h:L6 gb base nc n H vs ls X w){i:Nat}(z:i<nc):w.cell? (a_ gb i)=some (vs i)/\w.frozen? (a_ gb i)=false:=h.c i (vs i) (by simp[z])
def L6.lt{H:Nat->TypeId}(h:L6 gb base nc n H vs ls X w)(z:0<nc):gb<w.heap.size:=Ze w _ (h.cell z).1
def L6.keep{z:Nat->TypeId}(h:L6 gb base nc n z vs ls X w)(h0:w'.heap[gb]?=w.heap[gb]?)(H:∀i k,i<n->(vs i).ownBlock=some k->w'.heap[k]?=w.heap[k]?)(J:∀k,X' k->k<w'.heap.size/\k≠gb/\∀i,i<n->(vs i).ownBlock≠some k):L6 gb base nc n z vs ls X' w':=
 ⟨h.c.block h0,λi b=>XS (h.o i b) (λk a=>H i k b a),h.d,J,h.g,h.le⟩
def L6.below{H:Nat->TypeId}(h:L6 gb base nc n H vs ls X w)(J:0<nc)(z:Bl w w'):L6 gb base nc n H vs ls X w':=
 h.keep (z.block _ (h.lt J)) (λi k b a=>z.block k ((h.o i b).lt k a).2) (λk a=>⟨by have:=(h.x k a).1;have:=z.size;omega,(h.x k a).2⟩)
def L6.more{z:Nat->TypeId}(h:L6 gb base nc n z vs ls X w)(H:∀k,X' k->X k\/(k<w.heap.size/\k≠gb/\∀i,i<n->(vs i).ownBlock≠some k)):L6 gb base nc n z vs ls X' w:=
 ⟨h.c,h.o,h.d,λk a=>by
  rcases H k a with h1|h1
  .exact h.x k h1
  exact h1,h.g,h.le⟩
def L6.app{gb base nc n:Nat}{Z:Nat->TypeId}{vs:Nat->Value}{ls:Nat->List Value}{X:Nat->Prop}{w w5:World}(h:L6 gb base nc n Z vs ls X w){i:Nat}(H:i<nc){t:Value}{g len cap:Nat}(Y:w.grownBy w5 (vs i).ownBlock)(ho:WO base (Z i) (sL g len cap) (ls i++[t]) w5)(J:(vs i).ownBlock=some g\/g=w.heap.size):
  L6 gb base nc n Z (Yj vs i (sL g len cap)) (Yj ls i (ls i++[t])) X (w5.setCell (a_ gb i) (sL g len cap))/\Wk X w (w5.setCell (a_ gb i) (sL g len cap))/\w.heap.size<=(w5.setCell (a_ gb i) (sL g len cap)).heap.size /\
  (∀k,k<w.heap.size->k≠gb->(vs i).ownBlock≠some k->(w5.setCell (a_ gb i) (sL g len cap)).heap[k]?=w.heap[k]?):=by
 have C:i<n:=by have:=h.le;omega
 have B:=h.lt Qo;have A:=h.g;have E:=(ho.lt g rfl).1;obtain⟨u,v⟩:∃u,u=w5.setCell (a_ gb i) (sL g len cap):=⟨_,rfl⟩;have r:∀k,k≠gb->u.heap[k]?=w5.heap[k]?:=λk a=>by rw[v];exact Zq w5 (a_ gb i) _ k (λe=>a e)
 have G:u.heap.size=w5.heap.size:=by rw[v,Zz]
 have F:=Y.size;have b:∀k,k<w.heap.size->k≠gb->(vs i).ownBlock≠some k->u.heap[k]?=w.heap[k]?:=λk h1 h2 h3=>by rw[r k h2,Y.block k h1 (λe=>h3 e.symm)]
 have q:∀j,j<n->∀k,(vs j).ownBlock=some k->k≠gb:=λj f k a=>by have:=((h.o j f).lt k a).1;omega
 have s:w5.heap[gb]?=w.heap[gb]?:=Y.block gb B (λe=>q i C gb e.symm rfl);rw[<-v];refine⟨⟨?_,λj f=>?_,λj l k f y p a=>?_,λk a=>?_,A,h.le⟩,λk a=>b k (h.x k a).1 (h.x k a).2.1 ((h.x k a).2.2 i C),Qo,b⟩
 .rw[v,<-Lw H];exact(h.c.block s).set i (by simpa using H) _
 .by_cases e:j=i
  .subst e;rw[Y1,Y1];exact XS ho (λk a=>r k (by
     have m:g=k:=Zh a;omega))
  rw[Y5 _ _ e,Y5 _ _ e];exact XS (h.o j f) (λk a=>b k ((h.o j f).lt k a).2 (q j f k a) (λe2=>h.d j i k f C e a e2))
 .by_cases D:j=i
  .subst D;rw[Y1]at a;have m:g=k:=Zh a;rw[Y5 _ _ (λe=>p e.symm)];intro e2;rcases J with h1|h1
   .exact h.d j l k f y p (m▸h1) e2
   have:=((h.o l y).lt k e2).2;omega
  rw[Y5 _ _ D]at a;by_cases e2:l=i
  .subst e2;rw[Y1];intro z;have m:g=k:=Zh z;rcases J with h1|h1
   .exact h.d j l k f y p a (m▸h1)
   have:=((h.o j f).lt k a).2;omega
  rw[Y5 _ _ e2];exact h.d j l k f y p a
 refine⟨by have:=(h.x k a).1;omega,(h.x k a).2.1,λj f=>?_⟩;by_cases e:j=i
 .subst e;rw[Y1];intro z;have m:g=k:=Zh z;rcases J with h1|h1
  .exact(h.x k a).2.2 j f (m▸h1)
  have:=(h.x k a).1;omega
 rw[Y5 _ _ e];exact(h.x k a).2.2 j f
def L6.appN{gb base nc n:Nat}{ty:Nat->TypeId}{vs:Nat->Value}{ls:Nat->List Value}{X:Nat->Prop}{w w5:World}(h:L6 gb base nc n ty vs ls X w){i:Nat}(Y:i<n)(aa:nc<=i)(Z:0<nc){t:Value}{g len cap:Nat}(J:w.grownBy w5 (vs i).ownBlock)(ho:WO base (ty i) (sL g len cap) (ls i++[t]) w5)(H:(vs i).ownBlock=some g\/g=w.heap.size):
  L6 gb base nc n ty (Yj vs i (sL g len cap)) (Yj ls i (ls i++[t])) X w5/\Wk X w w5/\w.heap.size<=w5.heap.size /\
  (∀k,k<w.heap.size->k≠gb->(vs i).ownBlock≠some k->w5.heap[k]?=w.heap[k]?):=by
 have y:=h.lt Z;have v:=h.g;have A:=(ho.lt g rfl).1;have B:=J.size;have f:∀k,k<w.heap.size->k≠gb->(vs i).ownBlock≠some k->w5.heap[k]?=w.heap[k]?:=λk h1 _ h3=>J.block k h1 (λe=>h3 e.symm)
 have q:∀j,j<n->∀k,(vs j).ownBlock=some k->k≠gb:=λj b k a=>by have:=((h.o j b).lt k a).1;omega
 have r:w5.heap[gb]?=w.heap[gb]?:=J.block gb y (λe=>q i Y gb e.symm rfl);refine⟨⟨?_,λj b=>?_,λj l k b s p a=>?_,λk a=>?_,v,h.le⟩,λk a=>f k (h.x k a).1 (h.x k a).2.1 ((h.x k a).2.2 i Y),Qo,f⟩
 .have e:(List.range nc).map (Yj vs i (sL g len cap))=(List.range nc).map vs:=ZO (λj b=>Y5 _ _ (by have:=ZI.1 b;omega));rw[e];exact h.c.block r
 .by_cases e:j=i
  .subst e;rw[Y1,Y1];exact ho
  rw[Y5 _ _ e,Y5 _ _ e];exact XS (h.o j b) (λk a=>f k ((h.o j b).lt k a).2 (q j b k a) (λe2=>h.d j i k b Y e a e2))
 .by_cases z:j=i
  .subst z;rw[Y1]at a;have m:g=k:=Zh a;rw[Y5 _ _ (λe=>p e.symm)];intro e2;rcases H with h1|h1
   .exact h.d j l k b s p (m▸h1) e2
   have:=((h.o l s).lt k e2).2;omega
  rw[Y5 _ _ z]at a;by_cases e2:l=i
  .subst e2;rw[Y1];intro u;have m:g=k:=Zh u;rcases H with h1|h1
   .exact h.d j l k b s p a (m▸h1)
   have:=((h.o j b).lt k a).2;omega
  rw[Y5 _ _ e2];exact h.d j l k b s p a
 refine⟨by have:=(h.x k a).1;omega,(h.x k a).2.1,λj b=>?_⟩;by_cases e:j=i
 .subst e;rw[Y1];intro u;have m:g=k:=Zh u;rcases H with h1|h1
  .exact(h.x k a).2.2 j b (m▸h1)
  have:=(h.x k a).1;omega
 rw[Y5 _ _ e];exact(h.x k a).2.2 j b
def D3:∃i,prog.info? 9=some i/\i.zero=some (.string ByteArray.empty)/\i.size=1/\i.bytes=16:=by
 have h1:(prog.info? 9).isSome=true:=Qk
 let⟨i,a⟩:=Zx.1 h1;refine⟨i,a,?_,?_,?_⟩
 .have:((prog.info? 9).bind (·.zero))=some (.string ByteArray.empty):=Qk
  rw[a]at this;exact this
 .have:((prog.info? 9).map (·.size))=some 1:=Qk
  rw[a]at this;simpa using this
 have:((prog.info? 9).map (·.bytes))=some 16:=Qk
 rw[a]at this;simpa using this
def Ds:Nat->TypeId
 |0=>3
 |1=>23
 |2=>3
 |3=>3
 |4=>78
 |_=>9
def OJ(w:World)(o:Obj)(row:Option Nat):w.grownBy (w.alloc o) row:=by
 have h:=box_bel w o;exact⟨h.os,h.tape,h.output,h.size,λi a _=>h.block i a⟩
def Fe(w:World)(base:Nat)(z:TypeId)(t:Value)(H:base<=w.heap.size):WO base z (.slice (some (a_ w.heap.size 0)) 1 1) [t] (w.alloc (.cells #[t] z)):=
 World.ownsRow_lit (base:=base) (e:=z) (size:=1) w #[t] 1 H (by unfold maxLen;omega) rfl
structure PM (pb base P R:Nat) (E:Nat->Nat->Bool) (l:List (Nat->Bool)) (nv nr:Nat) (vd:Nat->Int) (rw_:Nat->Nat->Int) (sk tk:Nat->Nat) (vs:Nat->Value) (ls:Nat->List Value) (X:Nat->Prop) (w0 w:World):Prop where
 q:L6 pb base 3 6 Ds vs ls X w
 l0:ls 0=(List.range nv).map fun i=>.int .i64 (vd i)
 l1:ls 1=(List.range nr).map fun i=>.slice (some ⟨tk i,0,none⟩) 256 256
 l2:ls 2=(reps E 256).map Vo
 l3:ls 3=(List.range 256).map fun a=>Vo (least E a)
 l4:ls 4=(List.range l.length).map fun i=>.slice (some ⟨sk i,0,none⟩) (P+R) (P+R)
 l5:ls 5=(List.range l.length).map fun i=>.string (Wi (em P (l.getD i Ve)) (P+R))
 st:∀i,i<l.length->∀w',Wk X w w'->w.heap.size<=w'.heap.size->BR (some ⟨sk i,0,none⟩) (em P (l.getD i Ve)) (P+R) w'
 rs:∀i,i<nr->∀w',Wk X w w'->w.heap.size<=w'.heap.size->IL (some ⟨tk i,0,none⟩) (rw_ i) 256 w'
 b:Below w0.heap.size w0 w
 s:w0.heap.size<=pb
section
variable {pb base P R:Nat} {E:Nat->N_} {l:List (N_)} {nv nr:Nat} {vd:Nat->Int} {rw_:Nat->Nat->Int} {sk tk:Nat->Nat} {vs:Nat->Value} {ls:Nat->List Value} {X:Nat->Prop} {w0 w w':World}
def PM.below(h:PM pb base P R E l nv nr vd rw_ sk tk vs ls X w0 w)(z:Bl w w'):PM pb base P R E l nv nr vd rw_ sk tk vs ls X w0 w':=by
 have ha:Wk X w w':=λk c=>z.block k (h.q.x k c).1
 have hs:=z.size;exact⟨h.q.below Qo z,h.l0,h.l1,h.l2,h.l3,h.l4,h.l5,λi a w2 h2 h3=>h.st i a w2 (ha.trans h2) Qo,λi a w2 h2 h3=>h.rs i a w2 (ha.trans h2) Qo,h.b.trans (z.mono h.b.size),h.s⟩
structure TO (pb tob:Nat) (lx:List Value) (vs:Nat->Value) (X:Nat->Prop) (w0 w:World):Prop where
 x:TC tob lx w
 l:tob<w.heap.size
 d:∀j,j<6->(vs j).ownBlock≠some tob
 n:¬X tob/\tob≠pb
 s:w0.heap.size<=tob
def TO.below(h:TO pb tob lx vs X w0 w)(z:Bl w w'):TO pb tob lx vs X w0 w':=
 ⟨h.x.block (z.block tob h.l),by have:=z.size;have:=h.l;omega,h.d,h.n,h.s⟩
def TO.put(h:TO pb tob lx vs X w0 w){k:Nat}(z:k<lx.length)(u:Value):TO pb tob (lx.set k u) vs X w0 (w.setCell (a_ tob k) u):=
 ⟨h.x.set k z u,by rw[Zz];exact h.l,h.d,h.n,h.s⟩
def PM.put{tob:Nat}{lx:List Value}(h:PM pb base P R E l nv nr vd rw_ sk tk vs ls X w0 w)(t:TO pb tob lx vs X w0 w)(k:Nat)(u:Value):PM pb base P R E l nv nr vd rw_ sk tk vs ls X w0 (w.setCell (a_ tob k) u):=by
 have f:∀q,q≠tob->(w.setCell (a_ tob k) u).heap[q]?=w.heap[q]?:=λq a=>Zq w (a_ tob k) _ q (λe=>a e)
 have hs:(w.setCell (a_ tob k) u).heap.size=w.heap.size:=Zz ..;have ha:Wk X w (w.setCell (a_ tob k) u):=λq a=>f q (λe=>t.n.1 (e▸a))
 exact⟨h.q.keep (f pb (λe=>t.n.2 e.symm)) (λi q c a=>f q (λe=>t.d i c (e▸a))) (λq a=>⟨by rw[hs];exact(h.q.x q a).1,(h.q.x q a).2⟩),h.l0,h.l1,h.l2,h.l3,h.l4,h.l5,λi c w2 h2 h3=>h.st i c w2 (ha.trans h2) Qo,λi c w2 h2 h3=>h.rs i c w2 (ha.trans h2) Qo,h.b.setCell (p:=(a_ tob k)) t.s u,h.s⟩
def PM.addV{x:Int}(h:PM pb base P R E l nv nr vd rw_ sk tk vs ls X w0 w)(z:w.grownBy w5 (vs 0).ownBlock)(J:WO base (Ds 0) (.slice (some ⟨g,0,none⟩) len cap) (ls 0++[I6 x]) w5)(H:(vs 0).ownBlock=some g\/g=w.heap.size)(Y:vd nv=x):
  PM pb base P R E l (nv+1) nr vd rw_ sk tk (Yj vs 0 (.slice (some ⟨g,0,none⟩) len cap)) (Yj ls 0 (ls 0++[I6 x])) X w0 (w5.setCell ⟨pb,0,none⟩ (.slice (some ⟨g,0,none⟩) len cap)):=by
 obtain⟨e,c,m,k⟩:=h.q.app (i:=0) Qo z J H;simp only[a_,sL]at m;have f:=h.b.size;have d:Bl w0 w5:=h.b.grown z Qo (λq j=>by have:=((h.q.o 0 Qo).lt q j).1;have:=h.q.g;have:=h.s;omega);refine⟨e,?_,?_,?_,?_,?_,?_,λi a w2 h2 h3=>h.st i a w2 (c.trans h2) Qo,λi a w2 h2 h3=>h.rs i a w2 (c.trans h2) Qo,d.setCell (p:=⟨pb,0,none⟩) h.s _,h.s⟩
 .rw[Y1,h.l0,ZT,eK,<-Y];rfl
 .rw[Y5 _ _ Qo];exact h.l1
 .rw[Y5 _ _ Qo];exact h.l2
 .rw[Y5 _ _ Qo];exact h.l3
 .rw[Y5 _ _ Qo];exact h.l4
 rw[Y5 _ _ Qo];exact h.l5
def PM.addR(h:PM pb base P R E l nv nr vd rw_ sk tk vs ls X w0 w)(t:TO pb tob (inl f 256) vs X w0 w)(H:w.grownBy w5 (vs 1).ownBlock)(Y:WO base (Ds 1) (.slice (some ⟨g,0,none⟩) len cap) (ls 1++[.slice (some ⟨tob,0,none⟩) 256 256]) w5)(J:(vs 1).ownBlock=some g\/g=w.heap.size)(Z:∀b,b<256->rw_ nr b=f b):
  PM pb base P R E l nv (nr+1) vd rw_ sk (Yj tk nr tob) (Yj vs 1 (.slice (some ⟨g,0,none⟩) len cap)) (Yj ls 1 (ls 1++[.slice (some ⟨tob,0,none⟩) 256 256])) (λk=>X k\/k=tob) w0 (w5.setCell ⟨pb,1,none⟩ (.slice (some ⟨g,0,none⟩) len cap)):=by
 have D:L6 pb base 3 6 Ds vs ls (λk=>X k\/k=tob) w:=h.q.more (λk a=>by
  rcases a with h1|h1
  .exact Or.inl h1
  subst h1;exact Or.inr ⟨t.l,t.n.2,t.d⟩)
 obtain⟨z,c,G,F⟩:=D.app (i:=1) Qo H Y J;simp only[a_,sL]at G;have A:=h.b.size;have y:Bl w0 w5:=h.b.grown H Qo (λq B=>by have:=((h.q.o 1 Qo).lt q B).1;have:=h.q.g;have:=h.s;omega);have m:Wk X w (w5.setCell ⟨pb,1,none⟩ (.slice (some ⟨g,0,none⟩) len cap)):=λk a=>c k (Or.inl a)
 refine⟨z,?_,?_,?_,?_,?_,?_,λi u w2 h2 h3=>h.st i u w2 (m.trans (λk a=>h2 k (Or.inl a))) Qo,λi u w2 h2 h3=>?_,y.setCell (p:=⟨pb,1,none⟩) h.s _,h.s⟩
 .rw[Y5 _ _ Qo];exact h.l0
 .rw[Y1,h.l1,ZT,eK];congr 1
  .refine ZO (λr C=>?_);rw[Y5 _ _ (by have:=ZI.1 C;omega)]
  simp[Y1]
 .rw[Y5 _ _ Qo];exact h.l2
 .rw[Y5 _ _ Qo];exact h.l3
 .rw[Y5 _ _ Qo];exact h.l4
 .rw[Y5 _ _ Qo];exact h.l5
 by_cases e:i=nr
 .subst e;rw[Y1];intro j v;refine⟨tob,0,rfl,?_⟩;rw[Zn,Z j v];exact((t.x.block ((h2 tob (Or.inr rfl)).trans (c tob (Or.inr rfl)))) j _ (Xf f v)).1
 rw[Y5 _ _ e];exact h.rs i Qo w2 (m.trans (λk a=>h2 k (Or.inl a))) Qo
def MP(h:i<l.length)(g:N_):(l++[g]).getD i Ve=l.getD i Ve:=by
 simp only[Zf,Zv h]
def BF(l:List (N_))(g:N_):(l++[g]).getD l.length Ve=g:=by
 simp[Zf]
def PM.addS{w2 w3 w5:World}{g1 len1 cap1 g2 len2 cap2 mb:Nat}{m:N_}(h:PM pb base P R E l nv nr vd rw_ sk tk vs ls X w0 w)(ae:TC mb (bl (em P m) (P+R)) w)(af:mb<w.heap.size)(ac:mb≠pb/\∀j,j<6->(vs j).ownBlock≠some mb)
  (hg:w.grownBy w2 (vs 4).ownBlock) (ho:WO base (Ds 4) (sL g1 len1 cap1) (ls 4++[sL mb (P+R) (P+R)]) w2) (hb:(vs 4).ownBlock=some g1\/g1=w.heap.size) (Z:Bl w2 w3)
  (ab:w3.grownBy w5 (vs 5).ownBlock) (ag:WO base (Ds 5) (sL g2 len2 cap2) (ls 5++[.string (Wi (em P m) (P+R))]) w5) (aa:(vs 5).ownBlock=some g2\/g2=w3.heap.size):
  PM pb base P R E (l++[m]) nv nr vd rw_ (Yj sk l.length mb) tk (Yj (Yj vs 4 (sL g1 len1 cap1)) 5 (sL g2 len2 cap2)) (Yj (Yj ls 4 (ls 4++[sL mb (P+R) (P+R)])) 5 (ls 5++[.string (Wi (em P m) (P+R))])) (λk=>X k\/k=mb) w0 w5 /\
  (∀k,k<w.heap.size->k≠pb->(vs 4).ownBlock≠some k->(vs 5).ownBlock≠some k->w5.heap[k]?=w.heap[k]?)/\w.heap.size<=w5.heap.size/\(∀k,k<w.heap.size->(∀j,j<6->(vs j).ownBlock≠some k)->∀j,j<6->(Yj (Yj vs 4 (sL g1 len1 cap1)) 5 (sL g2 len2 cap2) j).ownBlock≠some k):=by
 have V:L6 pb base 3 6 Ds vs ls (λk=>X k\/k=mb) w:=h.q.more (λk a=>by
  rcases a with h1|h1
  .exact Or.inl h1
  subst h1;exact Or.inr ⟨af,ac.1,ac.2⟩)
 obtain⟨D,K,W,U⟩:=V.appN (i:=4) Qo Qo Qo hg ho hb;have N:=D.below Qo Z;have p:Yj vs 4 (sL g1 len1 cap1) 5=vs 5:=Y5 _ _ Qo;have f:Yj ls 4 (ls 4++[sL mb (P+R) (P+R)]) 5=ls 5:=Y5 _ _ Qo;obtain⟨F,L,Y,J⟩:=N.appN (i:=5) (t:=.string (Wi (em P m) (P+R))) Qo Qo Qo (by rw[p];exact ab) (by rw[f];exact ag) (by rw[p];exact aa);rw[f]at F;rw[p]at J;have T:=Z.size;have d:Wk (λk=>X k\/k=mb) w w5:=K.trans (Wk.trans (λk a=>Z.block k (D.x k a).1) L);have A:Wk X w w5:=λk a=>d k (Or.inl a)
 have S:=h.b.size;have B:Bl w0 w2:=h.b.grown hg Qo (λq y=>by have:=((h.q.o 4 Qo).lt q y).1;have:=h.q.g;have:=h.s;omega);have C:Bl w0 w3:=B.trans (Z.mono B.size);have M:Bl w0 w5:=C.grown ab C.size (λq y=>by have:=((h.q.o 5 Qo).lt q y).1;have:=h.q.g;have:=h.s;omega);refine⟨⟨F,?_,?_,?_,?_,?_,?_,λi u w' h2 h3=>?_,λi u w' h2 h3=>h.rs i u w' (A.trans (λk a=>h2 k (Or.inl a))) Qo,M,h.s⟩,λk G c O Q=>?_,Qo,λk G c j v=>?_⟩
 .rw[Y5 _ _ Qo,Y5 _ _ Qo];exact h.l0
 .rw[Y5 _ _ Qo,Y5 _ _ Qo];exact h.l1
 .rw[Y5 _ _ Qo,Y5 _ _ Qo];exact h.l2
 .rw[Y5 _ _ Qo,Y5 _ _ Qo];exact h.l3
 .rw[Y5 _ _ Qo,Y1,h.l4,Zl,dN,ZT,eK];congr 1
  .refine ZO (λr z=>?_);rw[Y5 _ _ (by have:=ZI.1 z;omega)]
  simp[Y1]
 .rw[Y1,h.l5,Zl,dN,ZT,eK];congr 1
  .refine ZO (λr z=>?_);rw[MP (ZI.1 z)]
  simp
 .rw[Zl,dN]at u;by_cases e:i=l.length
  .subst e;rw[Y1,BF];intro j v;refine⟨mb,0,rfl,?_⟩;rw[Zn];exact((ae.block ((h2 mb (Or.inr rfl)).trans (d mb (Or.inr rfl)))) j _ (YO _ v)).1
  rw[Y5 _ _ e,MP Qo];exact h.st i Qo w' (A.trans (λk a=>h2 k (Or.inl a))) Qo
 .rw[J k Qo c Q,Z.block k Qo,U k G c O]
 by_cases I:j=5
 .subst I;rw[Y1];intro e;have n:g2=k:=Zh e;rcases aa with x|x
  .exact c 5 Qo (n▸x)
  omega
 rw[Y5 _ _ I];by_cases H:j=4
 .subst H;rw[Y1];intro e;have n:g1=k:=Zh e;rcases hb with x|x
  .exact c 4 Qo (n▸x)
  omega
 rw[Y5 _ _ H];exact c j v
end
end
section
open Bm
def Ov(A:(Nat->Bool)->Nat->Nat->Bool)(F:Nat->Bool)(ls:List Nat):Prop:=∃s k l t f b,WU A F ls s k l t/\l[s]?=some f/\ls[k]?=some b/\200<=Xp l (A f b)
def Gh(A:(Nat->Bool)->Nat->Nat->Bool)(F:Nat->Bool)(E:Nat->Nat->Bool)(s:Nat)(t0:List Int)(b:Nat)(l:List (Nat->Bool))(to:Nat->Int):Prop:=
 (∃t,WU A F (reps E 256) s (cnt E b) l t/\(∃u,t=t0++u)/\∀c,c<b->to c=t.getD (s*(reps E 256).length+idx E c) (-1))\/(200<l.length/\Ov A F (reps E 256))
variable {l:List (N_)}{t0:List Int}{b i k n:Nat}{F:N_}{E:Nat->N_}{nx:Nat->Nat->Int}
def Gh.first{A:(Nat->Bool)->Nat->Nat->Bool}{s:Nat}{t:List Int}(h:WU A F (reps E 256) s 0 l t)(to:Nat->Int):Gh A F E s t 0 l to:=
 Or.inl ⟨t,h,⟨[],by simp⟩,λc a=>by omega⟩
variable {to:Nat->Int}
def Gh.copy{A:(Nat->Bool)->Nat->Nat->Bool}{s:Nat}(hE:Eqv E 256)(h:Gh A F E s t0 b l to)(hb:b<256)(hl:least E b<b):Gh A F E s t0 (b+1) l (λc=>if c=b then to (least E b) else to c):=by
 rcases h with ⟨t,h1,h2,h3⟩|h
 .refine Or.inl ⟨t,by rw[cnt_succ,dG (by omega),eP];exact h1,h2,λc d=>?_⟩;by_cases e:c=b
  .subst e;simp only[dB];rw[h3 _ hl];congr 2;have a:=least_idem hE hb;rw[idx_rep a];rfl
  simp only[e,eU];exact h3 c (by omega)
 exact Or.inr h
def Gh.step{A:(Nat->Bool)->Nat->Nat->Bool}{s:Nat}{g:Nat->Bool}(hE:Eqv E 256)(h:Gh A F E s t0 b l to)(hb:b<256)(hl:least E b=b)(hg:l[s]?=some g):Gh A F E s t0 (b+1) (WK l (A g b)) (λc=>if c=b then Xp l (A g b) else to c):=by
 rcases h with ⟨t,h1,⟨u,h2⟩,h3⟩|⟨h1,h2⟩
 .have d:=reps_get E 256 b hb hl;have a:=h1.size;by_cases k:Xp l (A g b)<200
  .refine Or.inl ⟨t++[Xp l (A g b)],by rw[cnt_succ,dF hl];exact h1.kind hg d k,⟨u++[Xp l (A g b)],by rw[h2,Zs]⟩,λc m=>?_⟩;by_cases e:c=b
   .subst e;simp only[dB];rw[idx_rep hl,<-a.2.2.1];simp[Zf]
   simp only[e,eU];rw[h3 c (by omega)];have f:idx E c<cnt E b:=by
    have i:=least_le E c;exact cnt_lt (least_idem hE (by omega)) (by omega)
   simp only[Zf];rw[Zv (by omega)]
  refine Or.inr ⟨?_,s,_,l,t,g,b,h1,hg,d,by omega⟩;have j:=Ol l (A g b);omega
 refine Or.inr ⟨?_,h2⟩;rcases TU l (A g b)with h|h
 .omega
 omega
def Gh.last{A:(Nat->Bool)->Nat->Nat->Bool}{s:Nat}(h:Gh A F E s t0 256 l to)(hs:s<l.length):(200<l.length/\Ov A F (reps E 256))\/(l.length<=200/\∃t,WU A F (reps E 256) (s+1) 0 l t/\(∃u,t=t0++u)/\∀c,c<256->to c=t.getD (s*(reps E 256).length+idx E c) (-1)):=by
 rcases h with ⟨t,h1,h2,h3⟩|h
 .have e:cnt E 256=(reps E 256).length:=rfl;rw[e]at h1;exact Or.inr ⟨h1.size.2.1,t,WU.set h1 hs,h2,h3⟩
 exact Or.inl h
structure Pn (A:Aut) (E:Nat->Nat->Bool) (nx:Nat->Nat->Int):Prop where
 e:Eqv E 256
 k:A.K=(reps E 256).length
 x:∀i b,i<A.N->b<256->nx i b=A.to i (idx E b)
 g:A.Good
 b:Bfs A
variable {A:Aut}
def Pn.kk(h:Pn A E nx){b:Nat}(z:b<256):idx E b<A.K:=by
 rw[h.k];exact idx_lt h.e z
def Pn.lt(h:Pn A E nx){i b:Nat}(H:i<A.N)(z:b<256):nx i b<A.N:=by
 rw[h.x i b H z];exact(h.g.rng i _ H (h.kk z)).2
end
section
open Bm
variable {A:Aut}{i k n:Nat}{E:Nat->N_}{nx:Nat->Nat->Int}
def Pn.to(h:Pn A E nx){i b:Nat}(H:i<=A.N)(z:b<256):Tu A.N nx i b<=A.N/\st A (Tu A.N nx i b)=if i=A.N then -1 else A.to i (idx E b):=by
 have c:=NN (λh1=>h.lt h1 z) H;refine⟨c,?_⟩;unfold Tu;by_cases h1:i=A.N
 .rw[dF (Or.inl h1),dF h1];unfold st;rw[dF rfl]
 have a:i<A.N:=Qo
 have d:=h.g.rng i _ a (h.kk z);rw[dG h1];by_cases h2:nx i b<0
 .rw[dF (Or.inr h2)];have:=h.x i b a z;unfold st;rw[dF rfl];omega
 rw[g_];have h3:=h.x i b a z;unfold st;rw[g_];omega
def yS(z:k<(reps E 256).length):∃b,(reps E 256)[k]?=some b/\b<256/\idx E b=k:=by
 refine⟨_,Zd z,?_⟩;let⟨h1,h2,h3⟩:=reps_mem (Zd z);exact⟨h1,by rw[idx_rep h2];exact h3⟩
def JT(_hi:i<=A.N):ext A (st A i) []=Dr A.N A.vd i:=by
 unfold st Dr;by_cases h:i=A.N
 .rw[dF h,dF h,ext_none _ _ Qo]
 rw[dG h,dG h,ext_nil]
def NL(h:Pn A E nx){t:Nat->N_}(Y:Ou A.N A.vd nx (reps E 256) t)(Z:zu A.N nx (reps E 256) t (A.N+1) 0){i j:Nat}(H:i<=A.N)(J:j<=A.N):t i j=false<->Al A (st A i) (st A j):=by
 have q:∀k,k<A.K->∃b,(reps E 256)[k]?=some b/\b<256/\idx E b=k:=λk m=>yS (by rw[<-h.k];exact m)
 let toN:Nat->Nat->Nat:=λi k=>Tu A.N nx i ((reps E 256).getD k 0)
 have d:∀i k b,(reps E 256)[k]?=some b->toN i k=Tu A.N nx i b:=λi k b v=>by
  show Tu A.N nx i ((reps E 256).getD k 0)=_;rw[Zf,v];rfl
 have u:∀i k,i<=A.N->k<A.K->toN i k<=A.N/\st A (toN i k)=if i=A.N then -1 else A.to i k:=λi k H m=>by
  let⟨b,o,p,D⟩:=q k m;rw[d i k b o];have:=h.to H p;rw[D]at this;exact this
 constructor
 .intro g w C;refine pairs_al u (λi j H J g=>?_) (λi j k H J m g=>?_) w i j C H J g
  .rw[JT H,JT J];by_cases e:Dr A.N A.vd i=Dr A.N A.vd j
   .exact e
   have:=Y.base i j H J (by unfold t0;exact bne_iff_ne.2 e);rw[g]at this;cases this
  let⟨b,o,p,_⟩:=q k m;rw[d i k b o,d j k b o];have l:∀a c,c<a->a<=A.N->t a c=false->t (Tu A.N nx a b) (Tu A.N nx c b)=false:=λa c x ha g=>by
   have h1:=Z a c x ha (Or.inl Qo) g;unfold Vu at h1;rw[gp]at h1;have h2:=List.any_eq_false.1 h1 b (dI o);simpa using h2
  rcases dJ i j with B|F|y
  .have h1:=l j i B J (by rw[Y.sym j i J H];exact g);rw[Y.sym _ _ (h.to H p).1 (h.to J p).1];exact h1
  .subst F;exact Y.irr _ (h.to H p).1
  exact l i j y H g
 intro f;cases g:t i j
 .rfl
 exfalso;have n:=Y.sub i j H J g;have l:∀i j,xN A.N A.vd nx (reps E 256) i j->¬Al A (st A i) (st A j):=λi j n=>by
  induction n with
  |base H J h0=>
   intro f;have:=f [] (Kd.nil A);rw[JT H,JT J]at this;unfold t0 at h0;exact(bne_iff_ne.1 h0) this
  |step H J v hx ih=>
   rename_i i j b;let⟨k,m,z⟩:=List.mem_iff_getElem.1 v;have r:(reps E 256)[k]?=some b:=by rw[Zd m,z]
   have s:k<A.K:=by rw[h.k];exact m
   intro f;refine ih (λw C=>?_);have e:∀i,i<=A.N->ext A (st A i) (k::w)=ext A (st A (toN i k)) w:=λi H=>by
    rw[(u i k H s).2];unfold st;by_cases h1:i=A.N
    .rw[dF h1,dF h1,ext_none _ _ Qo,ext_none _ _ Qo]
    rw[dG h1,dG h1];simp only[ext,ZE];rw[g_]
   have:=f (k::w) (C.cons s);rw[e i H,e j J,d i k b r,d j k b r]at this;exact this
 exact l i j n f
noncomputable def UD(A:Aut)(i:Nat):Nat:=if i=A.N then A.N else least (alB A) i
def yE(h:Pn A E nx){t:Nat->N_}(H:Ou A.N A.vd nx (reps E 256) t)(z:zu A.N nx (reps E 256) t (A.N+1) 0){i f:Nat}(J:i<=A.N)(Y:f<=i)(h1:t i f=false)(h2:∀j,j<f->t i j=true):f=UD A i:=by
 unfold UD;by_cases e:i=A.N
 .rw[dF e];rcases ZD f A.N with h3|h3
  .exfalso;have d:=(NL h H z J Qo).1 h1;unfold st at d;rw[dF e,g_]at d;exact h.g.live f h3 d.symm
  omega
 rw[dG e];have a:∀x,x<A.N->st A x=(x:Int):=λx k=>by unfold st;rw[g_]
 have c:i<A.N:=Qo
 refine(least_eq ((alB_iff A f i).2 ?_) (λb l=>?_) (least_like (alB_eqv A A.N) c)).symm
 .have:=(NL h H z J Qo).1 h1;rw[a i c,a f Qo]at this;exact this.symm
 cases k:alB A b i
 .rfl
 exfalso;have h3:=(alB_iff A b i).1 k;have d:=(NL h H z J (show b<=A.N by omega)).2 (by rw[a i c,a b Qo];exact h3.symm);rw[h2 b l]at d;cases d
def BE(z:i<A.N):UD A i<A.N:=by
 unfold UD;rw[g_];have:=least_le (alB A) i;omega
def MO(A:Aut):UD A A.N=A.N:=by unfold UD;rw[dF rfl]
def Rp(O:List Nat)(x:Nat):Int:=if x∈O then (O.idxOf x:Int) else -1
structure Or (A:Aut) (E:Nat->Nat->Bool) (O:List Nat) (i r b:Nat):Prop where
 o:O=reps (alB A) (kn A (r*A.K+cnt E b))
 i:O[i]?=some r
 r:r<A.N
def Gw(E:Nat->N_)(n:Nat):(reps E n).Nodup:=List.Pairwise.filter _ List.nodup_range
def SB{x:Nat}:x∈reps E n<->x<n/\least E x=x:=by
 unfold reps;rw[List.mem_filter];simp
def Or.step(h:Pn A E nx){O:List Nat}{i r b:Nat}(z:Or A E O i r b)(H:b<256):
  (Tu A.N nx r b=A.N/\Or A E O i r (b+1))\/(∃m,Tu A.N nx r b=m/\m<A.N/\((least (alB A) m∈O/\Or A E O i r (b+1))\/(least (alB A) m ∉ O/\Or A E (O++[least (alB A) m]) i r (b+1)))):=by
 have c:=h.to (ZM z.r) H;rw[dG (by have:=z.r;omega)]at c;have a:=h.kk H;have l:least E b≠b->cnt E (b+1)=cnt E b:=λv=>by rw[cnt_succ,dG v,eP]
 have g:least E b=b->idx E b=cnt E b:=λf=>idx_rep f
 by_cases w:Tu A.N nx r b=A.N
 .refine Or.inl ⟨w,⟨?_,z.i,z.r⟩⟩;rw[w]at c;have j:A.to r (idx E b)<0:=by
   have:=c.2;unfold st at this;rw[dF rfl]at this;omega
  by_cases f:least E b=b
  .rw[cnt_succ,dF f,<-ZN];rw[g f]at j a;rw[step_none a j];exact z.o
  rw[l f];exact z.o
 have t:Tu A.N nx r b<A.N:=Qo
 refine Or.inr ⟨_,rfl,t,?_⟩;let⟨m,u⟩:=nam (Tu A.N nx r b);rw[<-u]at c t ⊢;have d:A.to r (idx E b)=(m:Int):=by
  have:=c.2;unfold st at this;rw[g_]at this;exact this.symm
 have q:=least_idem (alB_eqv A A.N) t;have s:∀k,k<A.K->A.to r k=(m:Int)->least (alB A) m<kn A (r*A.K+k+1):=λk x p=>by
  rcases step_rep h.b z.r x p with ⟨h1,_⟩|⟨h1,h2,_⟩
  .have:=kn_mono A (show r*A.K+k<=r*A.K+k+1 by omega);omega
  rw[kn,fl_at A x,p,p_];omega
 by_cases f:least E b=b
 .have n:cnt E (b+1)=cnt E b+1:=by rw[cnt_succ,dF f]
  rw[g f]at d a;rcases step_rep h.b z.r a d with ⟨h1,h2⟩|⟨h1,h2,h3⟩
  .refine Or.inl ⟨by rw[z.o,SB];exact⟨h1,q⟩,⟨?_,z.i,z.r⟩⟩;rw[n,<-ZN,h2];exact z.o
  refine Or.inr ⟨by rw[z.o,SB];intro y;omega,⟨?_,?_,z.r⟩⟩
  .rw[n,<-ZN,h3,h1,<-z.o]
  rw[Zv (Zi.1 z.i).1];exact z.i
 refine Or.inl ⟨?_,⟨by rw[l f];exact z.o,z.i,z.r⟩⟩;rw[z.o,SB];refine⟨?_,q⟩;have h1:=s _ a d;have h2:idx E b<cnt E b:=cnt_lt (least_idem h.e H) (by have:=least_le E b;omega);have:=kn_mono A (show r*A.K+idx E b+1<=r*A.K+cnt E b by omega);omega
def Or.first(h:Pn A E nx):Or A E [0] 0 0 0:=by
 refine⟨?_,rfl,h.b.pos⟩;have:cnt E 0=0:=rfl;rw[this,fJ];rfl
def Or.next(h:Pn A E nx){O:List Nat}{i r:Nat}(z:Or A E O i r 256):(∃r',O[i+1]?=some r'/\Or A E O (i+1) r' 0)\/(O.length=i+1/\O=reps (alB A) A.N):=by
 have d:=z.o;have e:r*A.K+cnt E 256=(r+1)*A.K:=by
  have:cnt E 256=A.K:=by rw[h.k];rfl
  rw[this,du]
 rw[e]at d;have j:=z.i;have m:=(Zi.1 j).1;rw[d]at j;by_cases l:i+1<O.length
 .obtain⟨r',c⟩:∃r',O[i+1]?=some r':=⟨_,Zd l⟩;have f:=c;rw[d]at f;let⟨q,n,s,p⟩:=next_rep h.g h.b z.r j f;refine Or.inl ⟨r',c,⟨?_,c,n⟩⟩;have:cnt E 0=0:=rfl;rw[this,eP,<-p];exact d
 have a:O.length=i+1:=Qo
 refine Or.inr ⟨a,?_⟩;rw[<-last_rep h.g h.b z.r j (by rw[<-d];exact a)];exact d
open Go.RowKit
open Pg (Pt)
def Rl(v:Value)(e r a:Int)(w:World)(J:e≠0)(Y:∀W,Bl w W->Cp 124 #[v] W λe' w'=>e'=.returned (.tuple #[I6 e,I6 r,I6 a])/\Bl W w'):
  Cp 34 #[v] w λen w'=>en=.returned (.tuple #[.agg XD.toArray,I6 e])/\Bl w w':=by
 have hz:=Wq;have D:=QR;have C:(e != 0)=true:=by simp[J]
 let⟨W0,b⟩:=nam (w.alloc (.cells #[I6 0,sN,sN,sN] 25));have T0:TC w.heap.size XD W0:=by rw[b];exact TC.boxed w XD _
 have B0:Bl w W0:=by rw[b];exact box_bel _ _
 have o:W0.heap.size=w.heap.size+1:=by rw[b];simp
 have k:=hyd (yO v e r a W0 J (λW B=>Y W (B0.trans (B.mono Qo))));have l:=hyd b;have d:=hyd o;clear b o Y J;go_enter func34,ntmps34;go_wp2_with fail;rw[<-l.o];apply k.o.mono;rintro en w2 ⟨rfl,p⟩;have H:w.heap.size+1<=w2.heap.size:=by have:=d.o;have:=p.size;omega
 have y:=T0.block (p.block _ (by have:=d.o;omega));have h:Bl w w2:=B0.trans (p.mono (by have:=d.o;omega));let⟨Z,q⟩:=nam Xs;rw[<-q];have u:Hid (Z.length=106):=by show _=_;rw[q];exact UN _ _ _
 have j:Hid (Z.toArray.all (·.oneCell')=true):=by show _=true;rw[q];exact Qu rfl rfl _
 clear q p B0 T0 k l;go_wp2_with (first|(with_reducible apply gst 137;refine Ya.out ?_));refine⟨?_⟩;let⟨w3,g⟩:=nam ((w2.alloc (.cells Xs.toArray 137)).setCells w2.heap.size 0 Z);have n:=Xa w2 Xs Z 137 (by rw[u.o];exact(UN _ _ _).symm);rw[<-g]at n;let⟨s,E,F,A⟩:=n;apply Za rfl 137 _ _ rfl w2.heap.size 0 Z.toArray rfl rfl (by simpa using A) (by simpa[u.o]using Vt) j.o;rw[Zc,<-g];have z:=y.block (s.block _ Qo);have i:Bl w w3:=h.trans (s.mono Qo);let⟨G,x,c,_⟩:=WN (I6 0) (sN) (sN) (sN) z i;let⟨I,f⟩:=nam (w3.setCells w.heap.size 0 [I6 0,sN,sN,sN]);rw[<-f]at x c;have t:=hyd f;have m:=hyd c;clear g f c z i y h s E F A H u j;go_wp2_with (first|(with_reducible apply gst 25;refine Ya.out ?_));refine⟨?_⟩;apply Za rfl 25 _ _ rfl w.heap.size 0 #[I6 0,sN,sN,sN] rfl rfl G Yg (by simp[Value.oneCell']);rw[Zc,<-t.o];go_wp2_with fail;apply Zr (v:=.tuple #[.agg #[I6 0,sN,sN,sN],I6 e]) (XG results34 rfl m.o rfl) rfl;exact⟨rfl,x⟩
def RI(v:Value)(w:World)(Q:World->Ending->World->Prop)(R:Ending->World->Prop)(H:∀W,Bl w W->W.heap.size=w.heap.size+1->Cp 34 #[v] W (Q W))
  (J:∀en w' W,Bl w W->W.heap.size=w.heap.size+1->Q W en w'->Bl W w'/\∃a b c d e,en=.returned (.tuple #[.agg #[a,b,c,d],I6 e])/\(#[a,b,c,d]:Array Value).all (·.oneCell')=true/\∀WX,w'.grownBy WX (some w.heap.size)->Bl w WX->R en WX):
  Cp 22 #[v] w R:=by
 have hz:=Wq;let⟨W0,f⟩:=nam (w.alloc (.cells #[I6 0,sN,sN,sN] 25));have T0:TC w.heap.size XD W0:=by rw[f];exact TC.boxed w XD _
 have B0:Bl w W0:=by rw[f];exact box_bel _ _
 have i:W0.heap.size=w.heap.size+1:=by rw[f];simp
 have r:=hyd (H W0 B0 i);have l:=hyd f;have s:Hid (∀en w',Q W0 en w'->Bl W0 w'/\∃a b c d e,en=.returned (.tuple #[.agg #[a,b,c,d],I6 e])/\(#[a,b,c,d]:Array Value).all (·.oneCell')=true/\∀WX,w'.grownBy WX (some w.heap.size)->Bl w WX->R en WX):=λen w' h=>J en w' W0 B0 i h
 have n:=hyd i;clear f i H J;go_enter func22,ntmps22;go_wp2_with fail;rw[<-l.o];apply r.o.mono;intro en w2 z;obtain⟨o,a,b,c,d,e,rfl,h1,y⟩:=s.o en w2 z;have u:=T0.block (o.block _ (by have:=n.o;omega));have k:Bl w w2:=B0.trans (o.mono (by have:=n.o;omega));let⟨B,q,g,x⟩:=WN a b c d u k;have t:=hyd (y _ x q);let⟨WX,j⟩:=nam (w2.setCells w.heap.size 0 [a,b,c,d]);rw[<-j]at g t;have p:=hyd j;have m:=hyd g;have A:=hyd h1;clear j g x q y z u k o T0 B0 s r l h1;go_wp2_with (first|(with_reducible apply gst 25;refine Ya.out ?_));refine⟨?_⟩;apply Za rfl 25 _ _ rfl w.heap.size 0 #[a,b,c,d] rfl rfl B Yg A.o;rw[Zc,<-p.o];go_wp2_with fail;exact Zr (v:=.tuple #[.agg #[a,b,c,d],I6 e]) (XG results22 rfl m.o rfl) rfl t.o
def M1:XD.toArray.all (·.oneCell')=true:=by simp[XD,Value.oneCell']
def SC(v:Value)(e r a:Int)(w:World)(H:e≠0)(z:∀W,Bl w W->Cp 124 #[v] W λe' w'=>e'=.returned (.tuple #[I6 e,I6 r,I6 a])/\Bl W w'):
  Cp 22 #[v] w λen w'=>en=.returned (.tuple #[.agg XD.toArray,I6 e])/\Bl w w':=by
 apply RI v w (λW en w'=>en=.returned (.tuple #[.agg XD.toArray,I6 e])/\Bl W w') _ (λW c hs=>Rl v e r a W H (λW' b=>z W' (c.trans (b.mono Qo))));rintro en w' W c hs ⟨rfl,d⟩;exact⟨d,_,_,_,_,e,rfl,M1,λf _ h=>⟨rfl,h⟩⟩
def LL(b H cap n:Nat)(f:Nat->ByteArray)(w:World)(h1:1<=n)(Z:n<=8)(hb:b<w.heap.size)(hm:∀i,i<n->(f i).size<=maxLen)(hr:RL b H f n w)(Y:∀j,j<n->(Pg.gP (Y7 (f j)) (f j).size).1=0)(J:¬96<X8 (λj=>Yh (f j)) n):
  Cp 22 #[.slice (some (a_ b H)) n cap] w (Mj (λj=>TZ (f j)) n w):=by
 apply RI _ w (λW=>Mj (λj=>TZ (f j)) n W) _ (λW s hs=>Lj b H cap n f W h1 Z Qo hm (hr.below hb s) Y J);rintro en w' W s hs ⟨x,z⟩;refine⟨x,?_⟩;rcases z with ⟨rfl,B⟩|⟨l,t,A,p,r,⟨d,rfl⟩|⟨d,vc,vl,vn,kf,rfl,y,g,k,m,C,D,E⟩⟩
 .exact⟨_,_,_,_,8,rfl,M1,λo _ h=>⟨h,Or.inl ⟨rfl,B⟩⟩⟩
 .exact⟨_,_,_,_,9,rfl,M1,λo _ h=>⟨h,Or.inr ⟨l,t,A,p,r,Or.inl ⟨d,rfl⟩⟩⟩⟩
 refine⟨_,_,_,_,0,rfl,?_,λo c h=>⟨h,Or.inr ⟨l,t,A,p,r,Or.inr ⟨d,vc,vl,vn,kf,rfl,y,?_,?_,?_,C,D,E⟩⟩⟩⟩
 .let⟨_,_,u,_⟩:=g.il;let⟨_,_,e2,_⟩:=k.il;let⟨_,_,v,_⟩:=m.il;show([I6 n,vc,vl,vn]:List Value).toArray.all (·.oneCell')=true;rw[gy,u,e2,v];rfl
 .exact(g.grown c (λq a e=>by have:=Zh e;have:=(g.blk q a).1;omega)).mono Qo
 .exact(k.grown c (λq a e=>by have:=Zh e;have:=(k.blk q a).1;omega)).mono Qo
 exact(m.grown c (λq a e=>by have:=Zh e;have:=(m.blk q a).1;omega)).mono Qo
end
