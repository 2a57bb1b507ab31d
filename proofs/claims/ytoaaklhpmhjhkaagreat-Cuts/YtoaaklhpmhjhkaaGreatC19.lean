import Derived.Test.YtoaaklhpmhjhkaaGreatC18
set_option maxRecDepth 100000
set_option maxHeartbeats 4000000
set_option linter.all false
namespace Go.Proofs.YtoaaklhpmhjhkaaGreat
open Go.Proofs.Tryz
section
open Go.RowKit
open Bm
def GL(gb P R:Nat)(w:World):Prop:=(∃a c,w.cell? ⟨gb,0,none⟩=some (.slice a R c))/\∃a c,w.cell? ⟨gb,1,none⟩=some (.slice a P c)
def JY(gb P R:Nat)(sa:Option Addr)(sc:Nat)(f:Nat->Bool)(w:World)(hP:P<=1000000)(hR:R<=1000000)(hG:GL gb P R w)(hB:BR sa f (P+R) w):
  Cp 57 #[.pointer (some ⟨gb,0,none⟩),.slice sa (P+R) sc] w λe w'=>e=.returned (.int .i64 (UY (λr=>f (P+r)) R 0))/\w'=w:=by
 obtain⟨⟨l,x0,c0⟩,m,x1,c1⟩:=hG;obtain⟨V,d⟩:=nam (UY (λr=>f (P+r)) R 0);rw[<-d];have b:=hyd d;have i:=hyd hB;clear d hB;go_enter func57,ntmps57;go_wp2_with fail
 go_loop [5] (λx=>∃(u r:Nat),u+r=R/\x=.int .i64 r/\Hid (V=UY (λr=>f (P+r)) u r)) (λx=>R-(intOf x).toNat)
 .exact⟨R,0,rfl,rfl,b⟩
 clear b;obtain⟨u,r,n,rfl,b⟩:=hrel;by_cases k:r<R
 .have h:(r:Int)<R:=by omega
  rcases u with _|u
  .omega
  obtain⟨g,o,j,c⟩:=i.out (P+r) (by omega);subst j;cases hf:f (P+r)
  .rw[hf]at c;have a:Hid (V=UY (λr=>f (P+r)) u (r+1)):=by show _=_;rw[b.out,UY,hf];rfl
   clear b hf;go_wp2_with fail
   go_round
   .exact⟨u,r+1,by omega,by go_num,a⟩
   simp[intOf];omega
  rw[hf]at c;have a:Hid (V=r):=by show _=_;rw[b.out,UY,hf];rfl
  clear b hf;go_wp2_with fail;go_ret;exact⟨Y2 a.out.symm,rfl⟩
 have⟨hge,hu0⟩:¬(r:Int)<R/\u=0:=by omega
 subst hu0;have a:Hid (V=-1):=b;go_wp2_with fail;go_ret;exact⟨Y2 a.out.symm,rfl⟩
def RZ(gb P R:Nat)(w:World)(hP:P<=1000)(hR:R<=1000)(hG:GL gb P R w):
  Cp 52 #[.pointer (some ⟨gb,0,none⟩)] w λe w'=>e=.returned (.slice (some ⟨w.heap.size,0,none⟩) (P+R) (P+R))/\TC w.heap.size (bl (λ_=>false) (P+R)) w'/\Bl w w'/\w.heap.size+1<=w'.heap.size:=by
 obtain⟨⟨c,x0,c0⟩,d,x1,c1⟩:=hG;have b:(Instr.makeSlice 78 (.int .i64 ((P:Int)+(R:Int))) (.int .i64 ((P:Int)+(R:Int)))).run prog w.drew=.ok (.slice (some ⟨w.heap.size,0,none⟩) (P+R) (P+R)) (w.drew.alloc (.cells (bl (λ_=>false) (P+R)).toArray 4)):=by
  have:=Tm w.drew (P+R) (by omega);rw[Int.natCast_add]at this;exact this
 obtain⟨W,a⟩:=nam (w.drew.alloc (.cells (bl (λ_=>false) (P+R)).toArray 4));rw[<-a]at b;have T:TC w.heap.size (bl (λ_=>false) (P+R)) W:=by rw[a];exact TC.boxed w.drew _ _
 have B:Bl w W:=by rw[a];exact(Zk _ _).drew.trans (box_bel w.drew _)
 have s:w.heap.size+1<=W.heap.size:=by rw[a];simp
 clear a;go_enter func52,ntmps52;go_wp2_with fail;refine wp_region_still_tail 11 (by kernel_rfl) (by kernel_rfl) ?_;simp only[ZK,f7,ZL,Zw];change wpStill _ _ w.drew (λa'=>wpList _ _ _ _ a' w.drew) _ _;have f:=c0;have g:=c1
 repeat still_step
 refine f8 ?_;go_wp2_with fail;rw[b];go_wp2_with fail;go_ret;exact⟨rfl,T,B,s⟩
def nm(s:ByteArray):List Nat:=s.data.toList.map (·.toNat)
def Co(s:ByteArray):(nm s).length=s.size:=by simp[nm]
def zl(s:ByteArray){i:Nat}(h:i<s.size):(nm s)[i]?=some s[i].toNat:=by
 have h2:i<s.data.toList.length:=by simpa using h
 unfold nm;rw[fT,Zd h2];simp;rfl
variable {a:Act}{ops:Array Oper}{Q:Exit->Act->World->Prop}{l:List (N_)}{fs kids ks x:List Nat}{rest:List Oper}{K K' N N0 P R b base c cap g gb i j k kind m n p tb:Nat}{F:N_}{f kf:Nat->Int}{Ns cl cm nd ti tr:Nat->Nat}{E bh hs:Nat->N_}{rw:Nat->Nat->Int}{S S' S0 S1:Nat->Prop}{o op:Oper}{v v' v0 v1 vk vr:Value}{W w w' w0 w1 w2 w5:World}
def yC{L:Ln}{f g:Nat->Prop}(h:∀i,i<=j->(f i<->g i)):En L x f j<->En L x g j:=⟨Oa λi a=>(h i a).1,Oa λi a=>(h i a).2⟩
def FW:(prog.info? 4).map (·.size)=some 1:=Qk
def x9{ob fc:Nat}{fa:Option Addr}{f g:N_}(J:0<p)(z:TC ob (bl g p) w)(H:BR fa f p w):
  (Builtin.copy_ #[78,78] 3 #[sL ob p p,.slice fa p fc]).run prog w=.ok (goInt p) (w.setCells ob 0 (bl f p))/\TC ob (bl f p) (w.setCells ob 0 (bl f p)):=by
 obtain⟨b,c,rfl,m⟩:=H 0 J;have d:∀j:Nat,((a_ b c):Addr).add j=(a_ b (c+j)):=λj=>by unfold Addr.add;split<;>simp_all
 have e:w.there ob 0 (bl f p).length:=by have:=z.there;rw[Y9]at this ⊢;exact this
 have h:=run_copy_cells (P:=prog) w 78 78 3 4 ob 0 p p (a_ b c) p fc (bl f p) u_q FW
  (by rw[Y9];exact(Nat.min_self p).symm)
  (λj v h=>by
   have a:j<p:=by have:=(Zi.1 h).1;rwa [Y9]at this
   rw[YO f a]at h;cases h;let⟨b',k,n,l⟩:=H j a;cases n;rw[d];exact l)
  (λj a=>by rw[Y9]at a;have:=(z j _ (YO g a)).1;rw[Zn,this];rfl)
  (λj a=>by rw[Y9]at a;have:=(z j _ (YO g a)).2;rw[Zn];exact this)
  (λv i=>by simp only[bl,eV]at i;obtain⟨j,_,rfl⟩:=i;rfl)
 rw[Y9]at h;exact⟨h,Tt e⟩
def yq(ob:Nat)(w:World):Nat->Nat
 |0=>0
 |p+1=>yq ob w p+match w.cell? ⟨ob,p,none⟩with|some (.bool false)=>1|_=>0
def Cm(g:Nat->Bool):Nat->Nat
 |0=>0
 |p+1=>Cm g p+(!g p).toNat
def FS{ob:Nat}{g:N_}:∀p,TC ob (bl g p) w->yq ob w p=Cm g p
 |0,_=>rfl
 |p+1,h=>by
  rw[yq,Cm,FS p (h.part (fH p)),(h p _ (YO g (fF p))).1];cases g p<;>rfl
def Cn(g h:N_):∀p,Cm (λi=>g i || h i) p<=Cm g p
 |0=>Zg _
 |p+1=>by
  have:=Cn g h p;rw[Cm,Cm];cases g p<;>cases h p<;>simp<;>omega
def IZ{g h:N_}:∀p,Vd g h p=true->Cm (λi=>g i || h i) p<Cm g p
 |0,hm=>by simp[Vd]at hm
 |p+1,hm=>by
  rw[M4]at hm;have h1:=Cn g h p;rw[Cm,Cm];cases e:Vd g h p
  .rw[e]at hm;cases hg:g p<;>cases hh:h p<;>simp[hg,hh]at hm ⊢;omega
  have h2:=IZ p e;cases g p<;>cases h p<;>simp<;>omega
def Ch{g h:N_}(z:Vd g h p=false)(J:j<p)(H:h j=true):g j=true:=by
 unfold Vd at z;rw[List.any_eq_false]at z;have:=z j (ZI.2 J);cases hg:g j
 .simp[hg,H]at this
 rfl
def BR.of{ob:Nat}{g:N_}(h:TC ob (bl g p) w):BR (some (a_ ob 0)) g p w:=λi a=>⟨ob,0,rfl,by rw[Zn];exact(h i _ (YO g a)).1⟩
def ltB(s:ByteArray)(inn f:Nat->Bool)(i j:Nat):Bool:=decide (1<=j/\j<=i)&&(f (j-1)&&inn ((nm s).getD (j-1) 0))
def Cf(s:ByteArray)(inn f:N_)(j:Nat):ltB s inn f 0 j=false:=by
 have:decide (1<=j/\j<=0)=false:=decide_eq_false Qo;rw[ltB,this];rfl
def Ce(s:ByteArray)(inn f:N_){i:Nat}(h:i<s.size)(j:Nat):ltB s inn f (i+1) j=if j=i+1 then (f i&&inn s[i].toNat) else ltB s inn f i j:=by
 by_cases e:j=i+1
 .subst e;rw[dF rfl,ltB,Zf,gD,zl s h];simp
 rw[dG e,ltB,ltB];congr 1;have:(1<=j/\j<=i+1)<->(1<=j/\j<=i):=Qo
 simp[this]
def yI(s:ByteArray)(inn f:N_)(j:Nat)(z:j<=s.size):ltB s inn f s.size j=true<->En (Li inn) (nm s) (λi=>f i=true) j:=by
 rcases j with _|j
 .refine⟨λh=>?_,λh=>absurd h yD⟩;simp[ltB]at h
 have a:=zl s (show j<s.size by omega);rw[yc a (s[j].toNat_lt),ltB,Zf,gD,a];simp[z]
def EP{P:Program}{l:List Oper}{Q:Act->Prop}(h:∀Q':Act->Prop,(∀a,Q a->Q' a)->wpStill P ops w Q' l a):wpStill P ops w Q l a:=h Q λ_ h=>h
def Jx{P:Program}{Q:Act->Prop}(z:Region.wanted op (yielded ops a.tmps)=false):wpStill P ops w Q (op::rest) a=wpStill P ops w Q rest (a.put op.dst undef):=by
 rw[wpStill,z];rfl
def xG(v:Value)(k:Nat):Nat:=match v with|.bool true=>k+1|_=>0
structure QY (L:Ln) (x:List Nat) (p:Nat) (F:Nat->Prop) (g0:Nat->Bool) (M:Ln):Prop where
 start:∀j,j<p->g0 j=true->En M x F j
 step:∀j,j<p->En L x (En M x F) j->En M x F j
 fin:∀g:Nat->Bool,(∀j,j<p->g0 j=true->g j=true)->(∀j,j<p->g j=true->En M x F j)->(∀j,j<p->En L x (fun i=>g i=true) j->g j=true)->∀j,j<p->(g j=true<->En M x F j)
def Ec(z:x.length+1=p)(L:Ln)(f:N_):QY L x p (λi=>f i=true) f (St L):=
 ⟨λj _ h=>⟨j,Zg _,h,by rw[KH];exact .nil⟩,λ_ _ h=>JS h,λg h1 h2 h3 j a=>zS (g:=λj=>g j=true) (λj a=>h1 j Qo) (λj a=>h2 j Qo) (λj a=>h3 j Qo) Qo⟩
def Eb{L:Ln}{F:Nat->Prop}{z:N_}(H:x.length+1=p)(h:∀j,j<p->(z j=true<->En L x F j)):QY L x p F z (Cc L (St L)):=
 ⟨λj b a=>(Bp Qo).2 ⟨j,Zg _,(h j b).1 a,by rw[KH];exact .nil⟩,λ_ b h=>JR Qo h,λg h1 h2 h3 j b=>zR (g:=λj=>g j=true) (λj b a=>h1 j Qo ((h j Qo).2 a)) (λj b=>h2 j Qo) (λj b=>h3 j Qo) Qo⟩
def QW(T:Nat->Nd)(x:List Nat)(p n:Nat)(f:Nat->Bool)(w:World)(e:Ending)(w':World):Prop:=
 ∃ob oc g,e=.returned (.slice (some ⟨ob,0,none⟩) p oc)/\TC ob (bl g p) w'/\w.heap.size<=ob/\Below w.heap.size w w'/\∀j,j<p->(g j=true<->En (EK T n) x (λi=>f i=true) j)
def GG(tb:Nat)(T:Nat->Nd)(N:Nat)(hN:N<=20000)(bu:Md T N)(s:ByteArray)(hs:s.size<=2000)(n:Nat)(fa:Option Addr)(fc:Nat)(f:N_)(w:World)(hn:n<N)(hT:TR tb T N w)(hB:BR fa f (s.size+1) w)(ih:∀(k:Nat) (ga:Option Addr) (gc:Nat) (g:N_) (w':World),k<n->TR tb T N w'->BR ga g (s.size+1) w'->Cp 92 #[pT tb,I6 k,.string s,.slice ga (s.size+1) gc] w' (QW T (nm s) (s.size+1) k g w')):
  Cp 92 #[pT tb,I6 n,.string s,.slice fa (s.size+1) fc] w (QW T (nm s) (s.size+1) n f w):=by
 have hz:=VU;have hE:=V4 bu.w bu.u;let⟨p,hp⟩:=nam (s.size+1);have HI:Hid (∀(k:Nat) (ga:Option Addr) (gc:Nat) (g:N_) (w':World),k∈(T n).kids->Bl w w'->BR ga g p w'->Cp 92 #[pT tb,I6 k,.string s,.slice ga p gc] w' (QW T (nm s) p k g w')):=λk ga gc g w' X hW hb=>by
  have aw:=bu.w n hn k X;rw[hp]at hb ⊢;exact ih k ga gc g w' aw (hT.below hW) hb
 rw[<-hp]at hB ⊢;have Hp:=hyd hp;have br:(s.size:Int)<(p:Int):=Qo
 have bq:(p:Int)<=2001:=Qo
 have HB:Hid (∀w',Bl w w'->BR fa f p w'):=λw' h=>hB.below h
 let⟨na,nc,c0,aP⟩:=hT;let⟨nb,a4,l,F,G,e,r,o,il,au⟩:=aP n hn;subst e;have bn:(n:Int)<N:=Qo
 have bc:(N:Int)<=20000:=Qo
 have aw:=(bu.k n hn).2;have a3:=(bu.k n hn).1;have ho:=bu.o n hn;have Q:=hE.tl0 n hn;have g1:=hE.tl1 n hn;have g2:=hE.tl2 n hn;have g3:=λc=>hE.tl3 n c hn
 have g4:=λc=>hE.tl4 n c hn
 let⟨tl,ay⟩:=nam (EK T);let⟨d,hd⟩:=nam (T n);rw[<-hd]at r il aw ho Q g1 g2 g3 g4 HI a3 au;rw[<-ay]at Q g1 g2 g3 g4;let⟨m,hm⟩:=nam d.kids.length;have bm:(m:Int)<=1000:=Qo
 have O:=hyd hm;have HG:=hyd5 Q g1 g2 g3 g4;have ab:Hid (∀w',Bl w w'->IL F (λk=>((d.kids.getD k 0:Nat):Int)) d.kids.length w'):=λw' h=>il.below h
 have aR:Hid (d.kind=0->∃ia ic,l=.slice ia 256 ic/\∀w',Bl w w'->BR ia d.inn 256 w'):=λh0=>by
  let⟨ia,ic,h1,h2⟩:=au h0;exact⟨ia,ic,h1,λw' h=>h2.below h⟩
 have D:=hyd ay;clear ih aP hd Q g1 g2 g3 g4 il au hE bu hB ay hp;go_enter func92,ntmps92;go_wp2_with (first|(with_reducible apply gld 118;refine Ya.out ?_));refine⟨?_⟩;apply Zb rfl 118 _ rfl nb (a4+n*5) rfl (WJ d l F G) _ r u_k rfl WW
 (try simp only[psm])
 go_wp2_with (first|(with_reducible apply gst 118;refine Ya.out ?_));refine⟨?_⟩;let⟨w2,ag⟩:=nam ((w.alloc (.cells RN.toArray 118)).setCells w.heap.size 0 (WJ d l F G));have ap:=Xa w RN (WJ d l F G) 118 rfl;have T2:TC w.heap.size (WJ d l F G) w2:=by rw[ag];exact Tt ap.2.2.2
 rw[<-ag]at ap;let⟨B2,_,s2,t2⟩:=ap;refine Za rfl 118 _ _ rfl w.heap.size 0 (WJ d l F G).toArray rfl rfl t2 WW (by simp only[WJ,gy,dD,o];rfl) ?_;rw[Zc];have ak:w2=(w.alloc (.cells #[I6 0,sN,sN,I6 0,I6 0] 118)).setCells w.heap.size 0 (WJ d l F G):=ag;rw[<-ak];obtain⟨ob,af⟩:∃ob,ob=w2.heap.size:=⟨_,rfl⟩;have aj:w.heap.size+1<=ob:=Qo
 have K:=Tm w2 p Qo;rw[<-af]at K;let⟨w3,ah⟩:=nam (w2.alloc (.cells (bl (λ_=>false) p).toArray 4));have T3:TC ob (bl (λ_=>false) p) w3:=by rw[af,ah];exact TC.boxed w2 _ _
 have x3:=box_bel w2 (.cells (bl (λ_=>false) p).toArray 4);rw[<-ah]at x3 K;have t:TC w.heap.size (WJ d l F G) w3:=T2.block (x3.block _ Qo);have L:Bl w w3:=B2.trans (x3.mono Qo);have ck:=(t 0 _ rfl).1;have s3:ob+1<=w3.heap.size:=by rw[af,ah];simp
 clear ag ak t2 r T2 x3 ah B2 af s2 o c0;by_cases e0:d.kind=0
 .have q0:((d.kind:Int)==0)=true:=by simp[e0]
  let⟨ia,ic,ev,aK⟩:=aR.o e0;subst ev;have aS:=hyd aK;have M:Hid (TC ob (bl (ltB s d.inn f 0) p) w3/\TC w.heap.size (WJ d (.slice ia 256 ic) F G) w3/\Bl w w3):=⟨by rw[YW (g:=λ_=>false) (λj _=>Cf ..)];exact T3,t,L⟩;clear T3 t L aK;go_wp2;clear K
  go_loopw [11] (λx w'=>∃i:Nat,i<=s.size/\x=I6 i/\TC ob (bl (ltB s d.inn f i) p) w'/\TC w.heap.size (WJ d (.slice ia 256 ic) F G) w'/\Bl w w') (λx _=>s.size-(intOf x).toNat)
  .exact⟨0,Qo,rfl,M.o.1,M.o.2.1,M.o.2.2⟩
  clear ck M;obtain⟨i,hi,rfl,T,J,B⟩:=hrel;by_cases ax:i<s.size
  .have ai:(i:Int)<(s.size:Int):=Qo
   have bi:(i:Int)<p:=Qo
   have a7:(i:Int)+1<(p:Int):=Qo
   let⟨fb,fo,aW,cf⟩:=HB.o wr B i Qo;let⟨c,hc⟩:=nam (s[i].toNat);have be:=s[i].toNat_lt;have bd:(s[i].toNat:Int)=(c:Int):=by rw[hc]
   have aq:c<256:=Qo
   have bf:(c:Int)<256:=Qo
   let⟨ib,io,aX,ci⟩:=aS.o wr B c aq;subst aW aX;have cv:wr.drew.cell? (a_ w.heap.size 1)=some (.slice (some (a_ ib io)) 256 ic):=(J 1 _ rfl).1;let⟨co,aH⟩:=T (i+1) _ (YO _ (show i+1<p by omega));have a9:=co;have bb:=aH;have aV:=cf;have a8:=ci;have H:Hid (TC ob (bl (ltB s d.inn f (i+1)) p) (wr.drew.setCell (a_ ob (i+1)) (.bool (f i&&d.inn c)))):=by
    show TC _ _ _;have h:=Bm.TC.set (w:=wr.drew) T (i+1) (by rw[Y9];omega) (.bool (f i&&d.inn c));rw[Vm]at h;rw[YW (g:=λj=>if j=i+1 then (f i&&d.inn c) else ltB s d.inn f i j) (λj _=>?_)]
    .exact h
    rw[hc];exact Ce s d.inn f ax j
   have HR:Hid (∀v,TC w.heap.size (WJ d (.slice (some (a_ ib io)) 256 ic) F G) (wr.drew.setCell (a_ ob (i+1)) v)/\Bl w (wr.drew.setCell (a_ ob (i+1)) v)):=λv=>⟨Bm.TC.block (w:=wr) J (Zq wr (a_ ob (i+1)) _ _ (λe=>by have:w.heap.size=ob:=e;omega)),B.drew.setCell (p:=(a_ ob (i+1))) (by show w.heap.size<=ob;omega) _⟩
   clear T J co aH cf ci hc;go_wp2;apply wp_region_still_tail 16 Qk Qk;simp only[ZK,f7,ZL,Zw];change wpStill _ _ wr.drew (λa'=>wpList _ _ _ _ a' wr.drew) _ _;let⟨y,hy⟩:=nam (f i);rw[<-hy]at aV H;clear hy;refine EP λQ9 ae=>?_
   cases y
   .iterate 8 still_step
    iterate 7 (rw[Jx];rotate_left;rfl;(try simp only[psm]))
    still_step
    refine f8 (ae _ ?_);clear ae Q9;go_wp2;go_roundw
    .exact⟨i+1,Qo,Qg,H,(HR _).1,(HR _).2⟩
    simp[intOf];omega
   rw[dL]at H
   repeat still_step
   refine f8 (ae _ ?_);clear ae Q9;go_wp2;go_roundw
   .exact⟨i+1,Qo,Qg,H,(HR _).1,(HR _).2⟩
   simp[intOf];omega
  have aL:¬(i:Int)<(s.size:Int):=Qo
  have aY:i=s.size:=Qo
  have HQ:Hid (∀j,j<p->(ltB s d.inn f i j=true<->En (tl n) (nm s) (λi=>f i=true) j)):=λj q=>by
   rw[HG.o.1 e0,aY];exact yI s d.inn f j (by have:=Hp.o;omega)
  go_wp2;go_ret;exact⟨ob,_,_,rfl,T,Qo,B,λj q=>by rw[<-D.o];exact HQ.o j q⟩
 have q0:((d.kind:Int)==0)=false:=Qp
 have a2:0<p:=by have:=Hp.o;omega
 have hx:(nm s).length+1=p:=by rw[Co];exact Hp.o.symm
 have Hx:=hyd hx;let⟨W,T4⟩:=x9 (fc:=fc) a2 T3 (HB w3 L);let⟨w4,az⟩:=nam (w3.setCells ob 0 (bl f p));have x4:Below ob w3 w4:=by rw[az];exact SX _ _ (Zg _) _ _ _
 rw[<-az]at W T4;have B4:Bl w w4:=L.trans (x4.mono Qo);have I:TC w.heap.size (WJ d l F G) w4:=t.block (x4.block _ Qo);have s4:ob+1<=w4.heap.size:=by have:=x4.size;omega
 clear az x4 hx;by_cases e1:d.kind=1
 .have q1:((d.kind:Int)==1)=true:=by simp[e1]
  have E:=(I 2 _ rfl).1;rw[<-O.o]at E;have H4:=hyd3 T4 I B4;clear T3 t L T4 I B4;go_wp2;clear W K
  go_loopw [10,12] (λo x w'=>∃(i Y U:Nat) (g:N_),i<=m/\x=I6 i/\o=sL Y p U/\TC Y (bl g p) w'/\w.heap.size+1<=Y/\TC w.heap.size (WJ d l F G) w'/\Bl w w'/\w.heap.size+1<=w'.heap.size/\Hid (∀j,j<p->(g j=true<->En (PG tl (d.kids.take i)) (nm s) (λi=>f i=true) j))) (λ_ x _=>m-(intOf x).toNat)
  .exact⟨0,ob,p,f,Qo,rfl,rfl,H4.o.1,aj,H4.o.2.1,H4.o.2.2,Qo,λj q=>(yb (x:=nm s) (f:=λi=>f i=true) (j:=j) (by have:=Hx.o;omega)).symm⟩
  clear ck E H4 s3 s4;obtain⟨i,Y,U,g,hi,rfl,rfl,TO,bo,J,B,sz,C⟩:=hrel;have E:=(J 2 _ rfl).1;rw[<-O.o]at E;by_cases ax:i<m
  .have ai:(i:Int)<m:=Qo
   obtain⟨k,X⟩:∃k,d.kids[i]?=some k:=⟨d.kids[i]'(by have:=O.o;omega),Zd _⟩;let⟨R,S,eg,cg⟩:=ab.o wr B i (by have:=O.o;omega);subst eg;simp only[Zf,X,fX]at cg;have V:=hyd (HI k _ U g wr (dI X) B (BR.of TO));have an:Hid (PG tl (d.kids.take (i+1))=Cc (PG tl (d.kids.take i)) (tl k)):=by
    show _=_;rw[fW,X];exact Lt tl _ k
   have H:=hyd J;clear J X TO;go_wp2_with fail;apply V.o.mono;rintro e w5 ⟨A,P,g2,rfl,T5,aQ,Z,h5⟩;have ac:=H.o.block (Z.block _ Qo);have aa:Bl w w5:=B.trans (Z.mono Qo);have s5:w.heap.size+1<=w5.heap.size:=by have:=Z.size;omega
   have a0:w.heap.size+1<=A:=Qo
   have HE:Hid (∀j,j<p->(g2 j=true<->En (PG tl (d.kids.take (i+1))) (nm s) (λi=>f i=true) j)):=λj q=>by
    have aZ:j<=(nm s).length:=by have:=Hx.o;omega
    have h6:g2 j=true<->En (tl k) (nm s) (λi=>g i=true) j:=by rw[D.o];exact h5 j q
    rw[an.o,Bp aZ];exact h6.trans (yC λi hi=>C.o i Qo)
   clear V E cg Z H h5 C;go_wp2;go_roundw
   .exact⟨i+1,A,P,g2,Qo,Qg,rfl,T5,a0,ac,aa,s5,HE⟩
   simp[intOf];omega
  have aL:¬(i:Int)<m:=Qo
  have ar:i=m:=Qo
  subst ar;have ht:d.kids.take i=d.kids:=by rw[O.o,gp]
  rw[ht]at C;have HR:=hyd (HG.o.2.1 e1);clear ht;go_wp2;go_ret;exact⟨Y,U,g,rfl,TO,Qo,B,λj q=>by rw[<-D.o,HR.o];exact C.o j q⟩
 have q1:((d.kind:Int)==1)=false:=Qp
 by_cases e2:d.kind=2
 .have q2:((d.kind:Int)==2)=true:=by simp[e2]
  have E:=(t 2 _ rfl).1;rw[<-O.o]at E;have M:=hyd3 T3 t L;clear T3 t L T4 I B4 W;go_wp2;clear K
  go_loopw [13,14] (λx _ w'=>∃(i:Nat) (g:N_),i<=m/\x=I6 i/\TC ob (bl g p) w'/\TC w.heap.size (WJ d l F G) w'/\Bl w w'/\ob+1<=w'.heap.size/\Hid (∀j,j<p->(g j=true<->∃c,c∈d.kids.take i/\En (tl c) (nm s) (λi=>f i=true) j))) (λx _ _=>m-(intOf x).toNat)
  .exact⟨0,_,Qo,rfl,M.o.1,M.o.2.1,M.o.2.2,s3,λj _=>Qs⟩
  clear ck E M s3 s4;obtain⟨i,g,hi,rfl,TO,J,B,sz,C⟩:=hrel;have E:=(J 2 _ rfl).1;rw[<-O.o]at E;by_cases ax:i<m
  .have ai:(i:Int)<m:=Qo
   obtain⟨k,X⟩:∃k,d.kids[i]?=some k:=⟨d.kids[i]'(by have:=O.o;omega),Zd _⟩;let⟨R,S,eg,cg⟩:=ab.o wr B i (by have:=O.o;omega);subst eg;simp only[Zf,X,fX]at cg;have V:=hyd (HI k _ fc f wr (dI X) B (HB wr B));have an:Hid (d.kids.take (i+1)=d.kids.take i++[k]):=by
    show _=_;rw[fW,X];rfl
   have H:=hyd2 J TO;clear J X TO;go_wp2_with fail;apply V.o.mono;rintro e w5 ⟨A,P,h,rfl,T5,aQ,Z,h5⟩;have ac:=H.o.1.block (Z.block _ Qo);have aD:=H.o.2.block (Z.block _ Qo);have aa:Bl w w5:=B.trans (Z.mono Qo);have a1:ob<A:=Qo
   have HU:=hyd (PO ob p p g (some (a_ A 0)) p P h w5 Qo aD (Zg _) (BR.of T5) (λk o e=>by cases e;omega));have H5:Hid (TC w.heap.size (WJ d l (some (a_ R S)) G) w5/\Bl w w5/\ob+1<=w5.heap.size):=⟨ac,aa,by have:=Z.size;omega⟩;have HE:Hid (∀j,j<p->((g j || h j)=true<->∃c,c∈d.kids.take (i+1)/\En (tl c) (nm s) (λi=>f i=true) j)):=λj q=>by
    have h6:h j=true<->En (tl k) (nm s) (λi=>f i=true) j:=by rw[D.o];exact h5 j q
    rw[an.o,dp,C.o j q,h6];constructor
    .rintro (⟨c,h1,h2⟩|h2)
     .exact⟨c,by simp[h1],h2⟩
     exact⟨k,Qs,h2⟩
    rintro ⟨c,h1,h2⟩;rcases ZU.1 h1 with h1|h1
    .exact Or.inl ⟨c,h1,h2⟩
    rw[ZC.1 h1]at h2;exact Or.inr h2
   clear V E cg Z H h5 C T5 ac aD aa;go_wp2_with fail;apply HU.o.mono;rintro e w6 ⟨rfl,T6,aM,a5,aI⟩;have aT:=H5.o.1.block (aM _ Qo);have B6:=aI _ _ Qo H5.o.2.1;have s6:ob+1<=w6.heap.size:=by have:=H5.o.2.2;omega
   clear HU aM aI a5 H5;go_wp2;go_roundw
   .exact⟨i+1,_,Qo,Qg,T6,aT,B6,s6,HE⟩
   simp[intOf];omega
  have aL:¬(i:Int)<m:=Qo
  have ar:i=m:=Qo
  subst ar;have ht:d.kids.take i=d.kids:=by rw[O.o,gp]
  rw[ht]at C;have HR:Hid (∀j,(∃c,c∈d.kids/\En (tl c) (nm s) (λi=>f i=true) j)<->En (tl n) (nm s) (λi=>f i=true) j):=λj=>by
   have h2:=HG.o.2.2.1 e2;constructor
   .rintro ⟨c,h3,i,h4,h5,h6⟩;exact⟨i,h4,h5,(h2 _).2 ⟨c,h3,h6⟩⟩
   rintro ⟨i,h4,h5,h6⟩;let⟨c,h7,h8⟩:=(h2 _).1 h6;exact⟨c,h7,i,h4,h5,h8⟩
  clear ht;go_wp2;go_ret;exact⟨ob,_,g,rfl,TO,Qo,B,λj q=>by rw[<-D.o,<-HR.o j];exact C.o j q⟩
 have q2:((d.kind:Int)==2)=false:=Qp
 have av:d.kids.length=1:=ho Qo;obtain⟨c,hc⟩:∃c,d.kids=[c]:=List.length_eq_one_iff.1 av;have bj:(0:Int)<m:=by have:=O.o;omega
 have HK:Hid (∀w',Bl w w'->∃R S,F=some (a_ R S)/\w'.cell? (a_ R S)=some (I6 c)):=λw' h=>by
  let⟨R,S,e,h2⟩:=ab.o w' h 0 Qo;exact⟨R,S,e,by simpa[hc]using h2⟩
 have aB:Hid (∀(ga:Option Addr) (gc:Nat) (g:N_) (w':World),Bl w w'->BR ga g p w'->Cp 92 #[pT tb,I6 c,.string s,.slice ga p gc] w' (QW T (nm s) p c g w')):=λga gc g w'=>HI.o c ga gc g w' (by rw[hc];exact ZC.2 rfl)
 have al:=HG.o.2.2.2.1 c;have am:=HG.o.2.2.2.2 c;by_cases e3:d.kind=3
 case' pos=>
  have q3:((d.kind:Int)==3)=true:=by simp[e3]
  have H6:=hyd4 T4 I B4 s4;have HL:Hid (QY (tl c) (nm s) p (λi=>f i=true) f (tl n)):=by
   show QY _ _ _ _ _ _;rw[al e3 hc];exact Ec Hx _ _
  clear T3 t L T4 I B4 hc av ho al am;go_wp2;clear W K;let⟨z,eo⟩:=nam ob;subst eo;let⟨w6,ew⟩:=nam w4;subst ew;let⟨Q,eg⟩:=nam f;rw[<-eg]at H6;have HL:Hid (QY (tl c) (nm s) p (λi=>f i=true) Q (tl n)):=by rw[eg];exact HL.o
  clear eg
 case' neg=>
  have q3:((d.kind:Int)==3)=false:=Qp
  have E:=(t 2 _ rfl).1;rw[<-O.o]at E;let⟨R,S,ek,ao⟩:=HK.o w3 L;subst ek;have V:=hyd (aB.o _ fc f w3 L (HB.o w3 L));have M:=hyd2 t L;have aC:=hyd (am Qo hc);clear T3 t L T4 I B4 W hc av ho al am;go_wp2_with fail;apply V.o.mono;rintro e w6 ⟨z,bt,Q,rfl,T6,bp,B6,h6⟩;have H6:Hid (TC z (bl Q p) w6/\TC w.heap.size (WJ d l (some (a_ R S)) G) w6/\Bl w w6/\z+1<=w6.heap.size):=⟨T6,M.o.1.block (B6.block _ Qo),M.o.2.trans (B6.mono Qo),by
   obtain⟨p',rfl⟩:∃p',p=p'+1:=⟨p-1,Qo⟩;exact T6.ltB⟩
  have HL:Hid (QY (tl c) (nm s) p (λi=>f i=true) Q (tl n)):=by
   show QY _ _ _ _ _ _;rw[aC.o];exact Eb Hx.o λj q=>by rw[D.o];exact h6 j q
  have aj:w.heap.size+1<=z:=Qo
  clear K V E ao M T6 B6 h6;go_wp2;obtain⟨F,aG⟩:∃x:Option Addr,x=some (a_ R S):=⟨_,rfl⟩;rw[<-aG]at H6 HK ab;clear aG
 all_goals
  go_loopw [15,16] (λmv _ w'=>∃(more:Bool) (g:N_),mv=.bool more/\TC z (bl g p) w'/\TC w.heap.size (WJ d l F G) w'/\Bl w w'/\z+1<=w'.heap.size/\Hid ((∀j,j<p->Q j=true->g j=true)/\(∀j,j<p->g j=true->En (tl n) (nm s) (λi=>f i=true) j)/\(more=false->∀j,j<p->En (tl c) (nm s) (λi=>g i=true) j->g j=true))) (λmv _ w'=>xG mv (yq z w' p))
  .exact⟨true,Q,rfl,H6.o.1,H6.o.2.1,H6.o.2.2.1,H6.o.2.2.2,λ_ _ h=>h,HL.o.start,λh=>by cases h⟩
  clear ck H6 s3 s4;obtain⟨more,g,rfl,TO,J,B,sz,C⟩:=hrel;have E:=(J 2 _ rfl).1;rw[<-O.o]at E;cases more
  .have HR:Hid (∀j,j<p->(g j=true<->En (tl n) (nm s) (λi=>f i=true) j)):=λj q=>HL.o.fin g C.o.1 C.o.2.1 (C.o.2.2 rfl) j q
   go_wp2;go_ret;exact⟨z,_,g,rfl,TO,Qo,B,λj q=>by rw[<-D.o];exact HR.o j q⟩
  let⟨R,S,ek,ao⟩:=HK.o wr B;subst ek;have V:Hid (∀U,Cp 92 #[pT tb,I6 c,.string s,sL z p U] wr (QW T (nm s) p c g wr)):=λU=>aB.o _ U g wr B (BR.of TO)
  have H:=hyd3 J TO (FS p TO);clear J TO;go_wp2_with fail;apply(V _).mono;rintro e w7 ⟨A,P,h,rfl,T7,aQ,B7,h7⟩;have aE:=H.o.1.block (B7.block _ Qo);have aF:=H.o.2.1.block (B7.block _ Qo);have aA:Bl w w7:=B.trans (B7.mono Qo);have a1:z<A:=Qo
  have HU:Hid (∀U,Cp 117 #[sL z p U,sL A p P] w7 λe w'=>e=.returned (.bool (Vd g h p))/\TC z (bl (λi=>g i || h i) p) w'/\(∀k,k≠z->w'.heap[k]?=w7.heap[k]?)/\w'.heap.size=w7.heap.size/\(∀B0 w0,B0<=z->Below B0 w0 w7->Below B0 w0 w')):=λU=>PO z U p g (some (a_ A 0)) p P h w7 Qo aF (Zg _) (BR.of T7) (λk o e=>by cases e;omega)
  have H7:Hid (TC w.heap.size (WJ d l (some (a_ R S)) G) w7/\Bl w w7/\z+1<=w7.heap.size):=⟨aE,aA,by have:=B7.size;omega⟩;have HE:Hid ((∀j,j<p->Q j=true->(g j || h j)=true)/\(∀j,j<p->(g j || h j)=true->En (tl n) (nm s) (λi=>f i=true) j)/\(Vd g h p=false->∀j,j<p->En (tl c) (nm s) (λi=>(g i || h i)=true) j->(g j || h j)=true)):=by
   have hh:∀j,j<p->(h j=true<->En (tl c) (nm s) (λi=>g i=true) j):=λj q=>by rw[D.o];exact h7 j q
   refine⟨λj q a=>by rw[C.o.1 j q a];rfl,λj q a=>?_,λhm j q a=>?_⟩
   .rcases Bool.or_eq_true_iff.1 a with a|a
    .exact C.o.2.1 j q a
    exact HL.o.step j q (Oa (λi hi b=>C.o.2.1 i Qo b) ((hh j q).1 a))
   have h2:∀i,i<=j->(g i || h i)=true->g i=true:=λi hi b=>by
    rcases Bool.or_eq_true_iff.1 b with b|b
    .exact b
    exact Ch hm (show i<p by omega) b
   have h3:=(hh j q).2 (Oa (g:=λi=>g i=true) h2 a);rw[h3,Bool.or_true]
  have HS:=hyd H.o.2.2;clear V E ao B7 H h7 C T7 aE aF aA;go_wp2_with fail;apply(HU _).mono;rintro e w8 ⟨rfl,T8,aN,a6,aJ⟩;have aU:=H7.o.1.block (aN _ Qo);have B8:=aJ _ _ Qo H7.o.2.1;have s8:z+1<=w8.heap.size:=by have:=H7.o.2.2;omega
  have HM:Hid (xG (.bool (Vd g h p)) (yq z w8 p)<xG (.bool true) (yq z wr p)):=by
   show _<_;rw[FS p T8,HS.o];cases e:Vd g h p
   .exact Nat.succ_pos _
   have:=IZ p e;show _+1<_+1;omega
  clear HU aN aJ a6 H7;let⟨mo,aO⟩:=nam (Vd g h p);rw[<-aO]at HE HM ⊢;clear aO;go_wp2;go_roundw
  .exact⟨mo,_,rfl,T8,aU,B8,s8,HE⟩
  exact HM.o
def EH(tb:Nat)(T:Nat->Nd)(N:Nat)(H:N<=20000)(z:Md T N)(s:ByteArray)(hs:s.size<=2000):
  ∀(n:Nat) (fa:Option Addr) (fc:Nat) (f:N_) (w:World),n<N->TR tb T N w->BR fa f (s.size+1) w->Cp 92 #[pT tb,I6 n,.string s,.slice fa (s.size+1) fc] w (QW T (nm s) (s.size+1) n f w):=by
 intro n
 induction n using Nat.strongRecOn with
 |ind n ih=>exact λfa fc f w h d c=>GG tb T N H z s hs n fa fc f w h d c λk a b g w' e h1 h2=>ih k e a b g w' Qo h1 h2
def KX(hE:Eqv E n){f:Nat->Int}(hf:∀b,b<n->f b=idxI E b):∀k,k<=n->YD f k=some (cnt E k)
 |0,_=>rfl
 |k+1,hk=>by
  have ih:=KX hE hf k (by omega);obtain⟨h1,h2⟩:=rep_new hE (show k<n by omega);have h3:f k=(idx E k:Int):=hf k (by omega);rw[YD,ih,cnt_succ];simp only;rw[dG (by rw[h3];omega)];by_cases h:least E k=k
  .rw[dF (by rw[h3,h1.2 h]),dF h]
  rw[dG (λe=>h (h1.1 (by rw[h3]at e;omega))),dG h];rfl
def zU(es:Nat->Rx)(n:Nat)(hP:Y4 es n<=96){ls:List Nat}{s k:Nat}{l:List (Nat->Bool)}{t:List Int}(h:WU (Wh es n) (X6 es n) ls s k l t):∀g∈l,G9 (Y4 es n) n g:=by
 induction h with
 |first=>intro g a;rw[ZC.1 a];exact Lx es n hP
 |@kind s k l t f b h hf hb hr ih=>
  intro g a;unfold WK at a;split at a
  .exact ih g a
  split at a
  .exact ih g a
  rcases ZU.1 a with a|a
  .exact ih g a
  rw[ZC.1 a];exact Jn es n hP f b
 |set h hs ih=>exact ih
def Cr{S:Nat}{x:Int}(h:x∈Xq rw fs S):∃s j,s<S/\j<fs.length/\x=rw s (fs.getD j 0):=by
 obtain⟨s,hs,h⟩:=List.mem_flatMap.1 h;obtain⟨j,a,h⟩:=eV.1 h;exact⟨s,j,ZI.1 hs,ZI.1 a,h.symm⟩
def Iv{α:Type}{l:List α}{d:α}(h:i<l.length):l.getD i d∈l:=by
 rw[Zf,Zd h];exact gA h
def Cg(n:Nat)(c l x:List Int):Mc:=⟨n,λi=>c.getD i 0,c.length,λi=>l.getD i 0,l.length,λi=>x.getD i 0,x.length⟩
def Fi:∀ {S s c:Nat},s<S->c<fs.length->(Xq rw fs S).getD (s*fs.length+c) 0=rw s (fs.getD c 0)
 |S+1,s,c,hs,hc=>by
  rw[Sd,Zf];by_cases h:s<S
  .have h1:s*fs.length+c<(Xq rw fs S).length:=by
    rw[V8];have:(s+1)*fs.length<=S*fs.length:=ZQ _ h;rw[dQ]at this;omega
   rw[Zv h1,<-Zf];exact Fi h hc
  have e:s=S:=Qo
  subst e;rw[ZG (by rw[V8];omega),V8,show s*fs.length+c-s*fs.length=c by omega];simp[Ui,hc]
structure xA (es:Nat->Rx) (n:Nat) (A:Aut) (c l x:List Int):Prop where
 good:A.Good
 bfs:Bfs A
 kp:0<A.K
 snd:WH (Cg n c l x)
 k:(Cg n c l x).k=cnt (Cl (YQ A (alB A)) (cnt (alB A) A.N)) A.K
 nl:l.length=cnt (alB A) A.N
 to:∀s d,s<l.length->d<(Cg n c l x).k->x.getD (s*(Cg n c l x).k+d) 0=YQ A (alB A) s ((reps (Cl (YQ A (alB A)) (cnt (alB A) A.N)) A.K).getD d 0)
 lb:∀s,s<l.length->l.getD s 0=A.vd ((reps (alB A) A.N).getD s 0)
variable {A:Aut}{es:Nat->Rx}
def yJ{t:List Int}(h1:1<=n)(h8:n<=8)(hP:Y4 es n<=96)(aa:∀k,k<n->(es k).Full)(hE:WU (Wh es n) (X6 es n) (UE es n) l.length 0 l t)(Z:A=XO l t (UE es n).length)(ab:¬96<cnt (alB A) A.N)(hk:∀b,b<256->kf b=BS es n b):
  xA es n A (Xb (Cl (YQ A (alB A)) (cnt (alB A) A.N)) kf 256) (WI A (alB A) (cnt (alB A) A.N)) (Xq (YQ A (alB A)) (reps (Cl (YQ A (alB A)) (cnt (alB A) A.N)) A.K) (cnt (alB A) A.N)):=by
 have H:A.Good:=by rw[Z];exact Ra (M7 es n h1 h8 hP aa) (M6 es n h8 hP) (MX _ _) hE
 have G:Bfs A:=by rw[Z];exact KV (Uu _ _).1 hE
 have B:0<A.K:=by rw[Z];exact(Uu _ _).1
 have F:A.N=l.length:=by rw[Z];rfl
 have y:A.K=cnt (Kq (XV es n) (Y4 es n)) 256:=by rw[Z];rfl
 have p:=Sp (YQ A (alB A)) (cnt (alB A) A.N) A.K;have W:0<cnt (alB A) A.N:=gC (dM _) (cnt_lt (Nat.le_zero.1 (least_le _ 0)) G.pos);have M:0<cnt (Cl (YQ A (alB A)) (cnt (alB A) A.N)) A.K:=gC (dM _) (cnt_lt (Nat.le_zero.1 (least_le _ 0)) B);have E:∀s,s<cnt (alB A) A.N->(reps (alB A) A.N).getD s 0<A.N:=λs hs=>(TX hs).1
 have r:Ow (Kq (XV es n) (Y4 es n)) (Cl (YQ A (alB A)) (cnt (alB A) A.N)) (λa b=>Cl (YQ A (alB A)) (cnt (alB A) A.N) (idx (Kq (XV es n) (Y4 es n)) a) (idx (Kq (XV es n) (Y4 es n)) b)) A.K:=by
  have o:∀a,a<256->idx (Kq (XV es n) (Y4 es n)) a<A.K:=λa ha=>by rw[y];exact idx_lt (Vi _ _ _) ha
  exact⟨Vi _ _ _,y,p,⟨λa ha=>p.refl _ (o a ha),λa b ha v h=>p.symm _ _ (o a ha) (o b v) h,λa b c ha v O h k=>p.trans _ _ _ (o a ha) (o b v) (o c O) h k⟩,λ_ _ _ _=>rfl⟩
 have C:Vc (λi=>(Xb (Cl (YQ A (alB A)) (cnt (alB A) A.N)) kf 256).getD i 0) 256=cnt (Cl (YQ A (alB A)) (cnt (alB A) A.N)) A.K:=by
  have h2:YD (λi=>(Xb (Cl (YQ A (alB A)) (cnt (alB A) A.N)) kf 256).getD i 0) 256=some _:=KX r.g (λb v=>by
   have L:(Xb (Cl (YQ A (alB A)) (cnt (alB A) A.N)) kf 256).getD b 0=idxI (Cl (YQ A (alB A)) (cnt (alB A) A.N)) (kf b).toNat:=by simp[Xb,Zf,v]
   show(Xb (Cl (YQ A (alB A)) (cnt (alB A) A.N)) kf 256).getD b 0=_;rw[L,hk b v];have e2:(BS es n b).toNat=idx (Kq (XV es n) (Y4 es n)) b:=ZE _;rw[e2];exact congrArg (λz:Nat=>(z:Int)) (r.ix v).symm) 256 (Zg _)
  unfold Vc;rw[dF rfl,h2];have h3:=congrArg List.length (r.reps_to 256 (Zg _));rw[Zy,<-r.k]at h3;exact h3
 have J:(Xb (Cl (YQ A (alB A)) (cnt (alB A) A.N)) kf 256).length=256:=TD _ _ _;have x:(WI A (alB A) (cnt (alB A) A.N)).length=cnt (alB A) A.N:=TP _ _ _;have S:(Xq (YQ A (alB A)) (reps (Cl (YQ A (alB A)) (cnt (alB A) A.N)) A.K) (cnt (alB A) A.N)).length=cnt (alB A) A.N*cnt (Cl (YQ A (alB A)) (cnt (alB A) A.N)) A.K:=by rw[V8];rfl
 have u:∀s,s<cnt (alB A) A.N->(WI A (alB A) (cnt (alB A) A.N)).getD s 0=A.vd ((reps (alB A) A.N).getD s 0):=λs hs=>by simp[WI,Zf,hs]
 have w:(Cg n (Xb (Cl (YQ A (alB A)) (cnt (alB A) A.N)) kf 256) (WI A (alB A) (cnt (alB A) A.N)) (Xq (YQ A (alB A)) (reps (Cl (YQ A (alB A)) (cnt (alB A) A.N)) A.K) (cnt (alB A) A.N))).k=cnt (Cl (YQ A (alB A)) (cnt (alB A) A.N)) A.K:=by
  show Vc _ (Xb (Cl (YQ A (alB A)) (cnt (alB A) A.N)) kf 256).length=_;rw[J];exact C
 refine⟨H,G,B,⟨⟨?_,?_,?_,?_⟩,?_,?_⟩,w,x,λs d hs I=>?_,λs hs=>u s (by rw[<-x];exact hs)⟩
 .show(1:Int)<=n/\(n:Int)<=8;omega
 .show 1<=(WI A (alB A) (cnt (alB A) A.N)).length/\(WI A (alB A) (cnt (alB A) A.N)).length<=96;rw[x];omega
 .show 0<Vc (λi=>(Xb (Cl (YQ A (alB A)) (cnt (alB A) A.N)) kf 256).getD i 0) (Xb (Cl (YQ A (alB A)) (cnt (alB A) A.N)) kf 256).length;rw[J,C];exact M
 .show ∀i,i<(WI A (alB A) (cnt (alB A) A.N)).length->-1<=(WI A (alB A) (cnt (alB A) A.N)).getD i 0/\(WI A (alB A) (cnt (alB A) A.N)).getD i 0<=(n:Int)-1;intro i D;rw[x]at D;rw[u i D];have hs:=ZH (E i D) (Nat.le_of_eq F);have Q:=zU es n hP hE _ (Iv (d:=Ve) hs);have R:A.vd ((reps (alB A) A.N).getD i 0)=UY (λq=>(l.getD ((reps (alB A) A.N).getD i 0) Ve) (96+q)) 8 0:=by rw[Z];rfl
  have h2:=QM (f:=λq=>(l.getD ((reps (alB A) A.N).getD i 0) Ve) (96+q)) n (8-n) 0 (λq X Y=>by
   cases hq:(l.getD ((reps (alB A) A.N).getD i 0) Ve) (96+q)
   .rfl
   have:=Q (96+q) Qo hq;omega)
  rw[show n+(8-n)=8 by omega]at h2;rw[R,h2];have:=GP (λq=>(l.getD ((reps (alB A) A.N).getD i 0) Ve) (96+q)) n 0;omega
 .show(Xq (YQ A (alB A)) (reps (Cl (YQ A (alB A)) (cnt (alB A) A.N)) A.K) (cnt (alB A) A.N)).length=(WI A (alB A) (cnt (alB A) A.N)).length*_;rw[w,x,S]
 .show ∀i,i<(Xq (YQ A (alB A)) (reps (Cl (YQ A (alB A)) (cnt (alB A) A.N)) A.K) (cnt (alB A) A.N)).length->-1<=(Xq (YQ A (alB A)) (reps (Cl (YQ A (alB A)) (cnt (alB A) A.N)) A.K) (cnt (alB A) A.N)).getD i 0/\(Xq (YQ A (alB A)) (reps (Cl (YQ A (alB A)) (cnt (alB A) A.N)) A.K) (cnt (alB A) A.N)).getD i 0<=((WI A (alB A) (cnt (alB A) A.N)).length:Int)-1;intro i D;let⟨s,j,hs,P,e⟩:=Cr (Iv (d:=0) D);rw[x,e];rcases QG H hs (TX (show j<cnt _ _ from P)).1 with ⟨_,V⟩|⟨m,T,_,U⟩
  .rw[V];omega
  rw[U];have:=idx_lt (alB_eqv A A.N) T;omega
 rw[w]at I ⊢;exact Fi (by rw[<-x];exact hs) I
def qM(M:Mc):Aut:=⟨M.nlb,M.k,λs c=>M.nx (s*M.k+c),M.lb⟩
def yh{c l x:List Int}(h:xA es n A c l x):Mq A (qM (Cg n c l x)):=
 ⟨h.nl,h.k,λs d hs a=>h.to s d hs a,λs hs=>h.lb s hs⟩
structure Cz (cl cm:Nat->Nat) (K:Nat):Prop where
 z:cm 0=0
 le:∀b,b<256->cl b<=cm b
 s:∀b,b<256->cm (b+1)=if cl b=cm b then cm b+1 else cm b
 k:cm 256=K
def Cz.mono(h:Cz cl cm K){a:Nat}:∀d,a+d<=256->cm a<=cm (a+d)
 |0,_=>Zg _
 |d+1,hd=>by
  have h1:=h.mono d (a:=a) Qo;have h2:=h.s (a+d) Qo;rw[<-ZN,h2];split<;>omega
def Cz.upto{a:Nat}(h:Cz cl cm K)(z:a<=b)(H:b<=256):cm a<=cm b:=by
 have:=h.mono (b-a) (a:=a) Qo
 rwa [show a+(b-a)=b by omega]at this
def Cz.lt(h:Cz cl cm K)(z:b<256):cl b<cm (b+1):=by
 have h1:=h.le b z;rw[h.s b z];split<;>omega
def Cz.ltK(h:Cz cl cm K)(z:b<256):cl b<K:=by
 have:=h.lt z;have:=h.upto (show b+1<=256 by omega) (Zg _);rw[h.k]at this;omega
def Cz.sec(h:Cz cl cm K):∀j,j<=256->∀c,c<cm j->∃b,b<j/\cl b=c
 |0,_,c,hc=>by rw[h.z]at hc;omega
 |j+1,hj,c,hc=>by
  rw[h.s j Qo]at hc;split at hc
  .rename_i e;rcases ZD c (cm j)with hl|hl
   .let⟨b,h1,h2⟩:=h.sec j Qo c hl;exact⟨b,Qo,h2⟩
   exact⟨j,Qo,Qo⟩
  let⟨b,h1,h2⟩:=h.sec j Qo c hc;exact⟨b,Qo,h2⟩
def Ie:∀j {m:Nat},YD f j=some m->(∀b,b<j->∃q,YD f b=some q/\0<=f b/\f b<=q/\YD f (b+1)=some (if f b=q then q+1 else q))
 |0,m,_,b,hb=>Qo
 |j+1,m,h,b,hb=>by
  rcases hc:YD f j with _|q
  .rw[YD,hc]at h;cases h
  by_cases e:b=j
  .subst e;refine⟨q,hc,?_⟩;have h0:=h;rw[YD,hc]at h;simp only at h;split at h
   .cases h
   rename_i a;refine⟨Qo,Qo,?_⟩;rw[h0,<-h];split<;>rfl
  exact Ie j hc b Qo
variable {M:Mc}
def yY(h:WH M):Cz (λb=>(M.cl b).toNat) (λb=>(YD M.cl b).getD 0) M.k/\∀b,b<256->0<=M.cl b:=by
 have i:=h.ncl;have d:=h.hd.2.2.1;unfold Vc at d;rw[dF i]at d;rcases hc:YD M.cl 256 with _|m
 .rw[hc]at d;simp at d
 have a:=Ie 256 hc;refine⟨⟨rfl,λb c=>?_,λb c=>?_,?_⟩,λb c=>?_⟩
 .let⟨q,k1,f,j,g⟩:=a b c;simp only[k1,fX];omega
 .let⟨q,k1,f,j,g⟩:=a b c;simp only[k1,g,fX];by_cases e:M.cl b=q
  .rw[dF e,p_]
  rw[dG e,g_]
 .show(YD M.cl 256).getD 0=Vc M.cl M.ncl;unfold Vc;rw[dF i]
 let⟨q,k1,f,j,g⟩:=a b c;exact f
def TY(hs bh:Nat->Nat->Bool)(P:Nat):(Nat->Bool)->List Nat->Nat->Bool
 |f,[]=>f
 |f,b::w=>TY hs bh P (YC hs bh f b P) w
def Rn(hs bh:Nat->Nat->Bool)(P:Nat):(Nat->Bool)->List Nat->Nat->Prop
 |f,[],q=>f q=true
 |f,b::w,q=>∃p,p<P/\f p=true/\hs p b=true/\Rn hs bh P (bh p) w q
def JH(hs bh:Nat->Nat->Bool)(f:Nat->Bool)(b P q:Nat):YC hs bh f b P q=true<->∃p,p<P/\f p=true/\hs p b=true/\bh p q=true:=by
 simp only[YC,fY,ZI,ZS];constructor
 .rintro ⟨p,h1,⟨h2,h3⟩,a⟩;exact⟨p,h1,h2,h3,a⟩
 rintro ⟨p,h1,h2,h3,a⟩;exact⟨p,h1,⟨h2,h3⟩,a⟩
def CV(hs bh:Nat->Nat->Bool)(P:Nat):∀(w:List Nat) (f:Nat->Bool) (q:Nat),TY hs bh P f w q=true<->Rn hs bh P f w q
 |[],f,q=>Iff.rfl
 |b::w,f,q=>by
  rw[TY,CV hs bh P w];cases w with
  |nil=>exact JH hs bh f b P q
  |cons c w=>
   simp only[Rn];constructor
   .rintro ⟨a,h1,h2,h3,d⟩;obtain⟨p,k1,e,g,h⟩:=(JH hs bh f b P a).1 h2;exact⟨p,k1,e,g,a,h1,h,h3,d⟩
   rintro ⟨p,k1,e,g,a,h1,h,h3,d⟩;exact⟨a,h1,(JH hs bh f b P a).2 ⟨p,k1,e,g,h⟩,h3,d⟩
def Kw(es:Nat->Rx)(n:Nat)(hP:Y4 es n<=96){k r:Nat}(hk:k<n):∀(w:List Nat) (p:Nat),Y4 es k<=p->p<Y4 es (k+1) ->
  (Rn (XV es n) (U0 es n) (Y4 es n) (U0 es n p) w (96+r)<->r=k/\(es k).Acc (Y4 es k) p w)
 |[],p,h1,h2=>by
  have i:=X7 es (show k+1<=n from hk);have j:Y4 es (k+1)=Y4 es k+(es k).sz:=rfl;have h:(es k).fol (Y4 es k) p (96+r)=false:=Rx.fol_lt (by omega);simp only[Rn,Rx.Acc];rw[Uv es n k p (96+r) hk h1 h2,h,dx,ZS,eB];constructor
  .rintro ⟨a,b⟩;exact⟨by omega,b⟩
  rintro ⟨a,b⟩;exact⟨by omega,b⟩
 |c::w,p,h1,h2=>by
  have i:=X7 es (show k+1<=n from hk);have j:Y4 es (k+1)=Y4 es k+(es k).sz:=rfl;simp only[Rn,Rx.Acc];constructor
  .rintro ⟨q,m,d,g,l⟩;rw[Uv es n k p q hk h1 h2,dp,ZS,eB]at d;rcases d with d|⟨d,_⟩
   .have f:=Rx.fol_rng _ _ _ _ d;rw[Sb es n k q c hk f.2.2.1 (by omega)]at g;obtain⟨e,ha⟩:=(Kw es n hP hk w q f.2.2.1 (by omega)).1 l;exact⟨e,q,d,g,ha⟩
   omega
  rintro ⟨e,q,d,g,ha⟩;have f:=Rx.fol_rng _ _ _ _ d;refine⟨q,by omega,?_,?_,(Kw es n hP hk w q f.2.2.1 (by omega)).2 ⟨e,ha⟩⟩
  .rw[Uv es n k p q hk h1 h2,d,Bool.true_or]
  rw[Sb es n k q c hk f.2.2.1 (by omega)];exact g
def Cj(es:Nat->Rx)(n:Nat)(hP:Y4 es n<=96)(r:Nat)(w:List Nat):TY (XV es n) (U0 es n) (Y4 es n) (X6 es n) w (96+r)=true<->r<n/\(es r).Lg w:=by
 rw[CV,<-Rx.mt_lg (es r) (Y4 es r) w];cases w with
 |nil=>simp only[Rn,Rx.Mt];rw[Sa,ZS,eB]
 |cons c w=>
  simp only[Rn,Rx.Mt];constructor
  .rintro ⟨q,i,b,e,g⟩;obtain⟨k,a,b⟩:=(VO es n q (by omega)).1 b;have d:=Rx.fst_rng _ _ _ b;have f:Y4 es (k+1)=Y4 es k+(es k).sz:=rfl;rw[Sb es n k q c a d.1 (by omega)]at e;obtain⟨rfl,ha⟩:=(Kw es n hP a w q d.1 (by omega)).1 g;exact⟨a,q,b,e,ha⟩
  rintro ⟨a,q,b,e,ha⟩;have d:=Rx.fst_rng _ _ _ b;have f:Y4 es (r+1)=Y4 es r+(es r).sz:=rfl;have h:=X7 es (show r+1<=n from a);refine⟨q,by omega,(VO es n q (by omega)).2 ⟨r,a,b⟩,?_,(Kw es n hP a w q d.1 (by omega)).2 ⟨rfl,ha⟩⟩;rw[Sb es n r q c a d.1 (by omega)];exact e
def PQ{f g:N_}:∀u r,(∀x,r<=x->x<r+u->f x=g x)->UY f u r=UY g u r
 |0,r,_=>rfl
 |u+1,r,h=>by
  rw[UY,UY,h r Qo Qo,PQ u (r+1) (λx h1 h2=>h x Qo Qo)]
def Dg:∀u r,UY (λ_=>false) u r=-1
 |0,r=>rfl
 |u+1,r=>by rw[UY,Dg u (r+1)];simp
def Q4{α:Type}{f g:α->Bool}:∀l:List α,(∀x∈l,f x=g x)->l.any f=l.any g
 |[],_=>rfl
 |a::l,h=>by rw[dH,dH,h a Qs,Q4 l (λx b=>h x (by simp[b]))]
def Dx{f g:Nat->Bool}(b:Nat)(h:∀p,p<P->f p=g p):YC hs bh f b P=YC hs bh g b P:=by
 funext q
 exact Q4 _ (fun p hp=>by rw[h p (List.mem_range.1 hp)])
def AZ(f:Nat->Bool)(h:∀p,p<P->hs p b=hs p c):YC hs bh f b P=YC hs bh f c P:=by
 funext q
 exact Q4 _ (fun p hp=>by rw[h p (List.mem_range.1 hp)])
def Nv(z:P<=m):∀(w:List Nat) (f g:N_),(∀q,q<m->f q=g q)->∀q,q<m->TY hs bh P f w q=TY hs bh P g w q
 |[],f,g,h,q,hq=>h q hq
 |b::w,f,g,h,q,hq=>by rw[TY,TY,Dx b (λp a=>h p Qo)]
def Fn:∀(w:List Nat) (q:Nat),TY hs bh P (fun _=>false) w q=false
 |[],q=>rfl
 |b::w,q=>by
  rw[TY,show YC hs bh (fun _=>false) b P=fun _=>false from by funext q;simp[YC]];exact Fn w q
def Nu(j:Nat->Nat):∀(u:List Nat) (f:N_),(∀b∈u,∀p,p<P->hs p (j b)=hs p b)->TY hs bh P f (u.map j)=TY hs bh P f u
 |[],f,_=>rfl
 |b::u,f,h=>by
  rw[dt,TY,TY,AZ f (h b Qs),Nu j u _ (λc a=>h c (by simp[a]))]
def E4{ls:List Nat}{t:List Int}(H:P<=96)(h:WU (λf b=>YC hs bh f b P) F ls l.length 0 l t):
  ∀(ks:List Nat) (s:Nat) (f:N_),l[s]?=some f->(∀k∈ks,k<ls.length)->ext (XO l t ls.length) s ks=UY (λr=>TY hs bh P f (ks.map λk=>ls.getD k 0) (96+r)) 8 0
 |[],s,f,hf,_=>by
  rw[ext_nil];show UY (λr=>(l.getD s Ve) (96+r)) 8 0=_;rw[Zf,hf];rfl
 |k::ks,s,f,hf,hk=>by
  let⟨y,e2,z,A,B⟩:=h.size;have w:t.length=l.length*ls.length:=Qo
  have d:=hk k Qs;have e:=(Zi.1 hf).1;have u:s*ls.length+k<t.length:=by
   have:(s+1)*ls.length<=l.length*ls.length:=ZQ _ e;rw[dQ]at this;omega
  let⟨f',b,x,i,n,o,c⟩:=h.fnd.to s k d u;rw[hf]at i;cases i;rw[ext_cons,show(XO l t ls.length).to s k=x from by simp[XO,Zf,o],dt,show ls.getD k 0=b from by rw[Zf,n];rfl];rcases c with ⟨c,p⟩|⟨j,g,c1,c2,c3⟩
  .rw[p,ext_none _ _ Qo,<-Dg 8 0];refine PQ 8 0 (λr _ v=>?_);have h1:=Nv (hs:=hs) (bh:=bh) (P:=P) (m:=104) Qo (ks.map λk=>ls.getD k 0) (YC hs bh f b P) (λ_=>false) (λq a=>(WY _ _ _).1 c q a) (96+r) Qo;rw[TY,h1,Fn]
  rw[c1,E4 H h ks j g c2 (λq a=>hk q (by simp[a]))];refine PQ 8 0 (λr _ v=>?_);exact Nv (hs:=hs) (bh:=bh) (P:=P) (m:=104) Qo _ _ _ (λq a=>(WY _ _ _).1 c3 q a) (96+r) Qo
def F8(hs:Nat->N_)(P:Nat){b:Nat}(z:b<256):idx (Kq hs P) b<(F0 hs P).length/\∀p,p<P->hs p ((F0 hs P).getD (idx (Kq hs P) b) 0)=hs p b:=by
 have a:=Vi hs P 256;have h1:=idx_lt a z;refine⟨h1,λp c=>?_⟩;have h2:=reps_get (Kq hs P) 256 (least (Kq hs P) b) (by have:=least_le (Kq hs P) b;omega) (least_idem a z);have h3:(F0 hs P).getD (idx (Kq hs P) b) 0=least (Kq hs P) b:=by
  rw[Zf];unfold F0 idx;rw[h2];rfl
 rw[h3];exact(Vj hs P _ _).1 (least_like a z) p c
def DS{t:List Int}(H:P<=96)(h:WU (λf b=>YC hs bh f b P) F (F0 hs P) l.length 0 l t){s:Nat}{f:N_}(J:l[s]?=some f)(u:List Nat)(z:∀b∈u,b<256):
  ext (XO l t (F0 hs P).length) s (u.map (idx (Kq hs P)))=UY (λr=>TY hs bh P f u (96+r)) 8 0:=by
 rw[E4 H h _ s f J (λk c=>by
  obtain⟨b,a,rfl⟩:=eV.1 c;exact(F8 hs P (z b a)).1),List.map_map]
 rw[Nu ((λk=>(F0 hs P).getD k 0) ∘ idx (Kq hs P)) u f (λb a p d=>(F8 hs P (z b a)).2 p d)]
def Br{A:(N_)->Nat->N_}{ls:List Nat}{s:Nat}{t:List Int}(h:WU A F ls s k l t):l[0]?=some F:=by
 induction h with
 |first=>rfl
 |@kind s k l t f b h hf hb hr ih=>
  let⟨u,a⟩:=I0 l (A f b);rw[a,Zv (by have:=(Zi.1 ih).1;omega)];exact ih
 |set h hs ih=>exact ih
noncomputable def Di(es:Nat->Rx)(n:Nat)(w:List Nat):Int:=UY (λr=>TY (XV es n) (U0 es n) (Y4 es n) (X6 es n) w (96+r)) 8 0
def Bs{t:List Int}(z:Y4 es n<=96)(h:WU (Wh es n) (X6 es n) (UE es n) l.length 0 l t)(u:List Nat)(H:∀b∈u,b<256):
  ext (XO l t (UE es n).length) 0 (u.map (idx (Kq (XV es n) (Y4 es n))))=Di es n u:=
 DS (s:=0) z h (Br h) u H
def CP(A:Aut)(h:0<A.N):(reps (alB A) A.N).getD 0 0=0:=by
 have h1:=QD (alB_eqv A A.N) h;have h2:least (alB A) 0=0:=Nat.le_zero.1 (least_le _ 0);unfold idx at h1;rw[h2]at h1;exact h1
def Ai{ls:List (Nat->Bool)}{t:List Int}{l x:List Int}(hP:Y4 es n<=96)(hE:WU (Wh es n) (X6 es n) (UE es n) ls.length 0 ls t)(hA:A=XO ls t (UE es n).length)(hk:∀b,b<256->kf b=BS es n b)
  (h:xA es n A (Xb (Cl (YQ A (alB A)) (cnt (alB A) A.N)) kf 256) l x) (u:List Nat) (hu:∀b∈u,b<256):
  ext (qM (Cg n (Xb (Cl (YQ A (alB A)) (cnt (alB A) A.N)) kf 256) l x)) 0 (u.map λb=>((Cg n (Xb (Cl (YQ A (alB A)) (cnt (alB A) A.N)) kf 256) l x).cl b).toNat)=Di es n u:=by
 have j:=yh h;have o:=h.bfs.pos;have m:∀b,b<256->((Cg n (Xb (Cl (YQ A (alB A)) (cnt (alB A) A.N)) kf 256) l x).cl b).toNat=idx (Cl (YQ A (alB A)) (cnt (alB A) A.N)) (idx (Kq (XV es n) (Y4 es n)) b):=λb c=>by
  show((Xb (Cl (YQ A (alB A)) (cnt (alB A) A.N)) kf 256).getD b 0).toNat=_;unfold Xb;rw[Zf,fT,Zd (by simpa using c)];simp only[List.getElem_range,dX,fX,hk b c,BS,idxI,ZE]
 have f:A.K=(UE es n).length:=by rw[hA];rfl
 have d:Kd A (u.map (idx (Kq (XV es n) (Y4 es n)))):=λk a=>by
  obtain⟨b,c,rfl⟩:=eV.1 a;rw[f];exact(F8 (XV es n) (Y4 es n) (hu b c)).1
 have e:(u.map λb=>((Cg n (Xb (Cl (YQ A (alB A)) (cnt (alB A) A.N)) kf 256) l x).cl b).toNat)=(u.map (idx (Kq (XV es n) (Y4 es n)))).map (idx (Cl (YQ A (alB A)) (cnt (alB A) A.N))):=by
  rw[List.map_map];exact ZO (λb c=>m b (hu b c))
 have i:Kd (qM (Cg n (Xb (Cl (YQ A (alB A)) (cnt (alB A) A.N)) kf 256) l x)) ((u.map (idx (Kq (XV es n) (Y4 es n)))).map (idx (Cl (YQ A (alB A)) (cnt (alB A) A.N)))):=λk a=>by
  obtain⟨q,p,rfl⟩:=eV.1 a;rw[j.k];exact idx_lt (Sp _ _ _) (d q p)
 rw[e];have h1:=Bt h.good j _ 0 i (by rw[j.n];exact gC (dM _) (cnt_lt (Nat.le_zero.1 (least_le _ 0)) o));have h2:=DT h.good (u.map (idx (Kq (XV es n) (Y4 es n)))) 0 d (by omega);have h3:=Bs hP hE u hu;rw[<-hA]at h3;rw[CP A o]at h1;rw[<-h3,h2];refine h1.trans ?_;rw[List.map_map (g:=fk A (alB A))];rfl
def DQ:∃i,prog.info? 118=some i/\i.zero=some (.agg RN.toArray)/\i.size=5/\i.bytes=72:=by
 have h:(prog.info? 118).isSome=true:=Qk
 let⟨i,a⟩:=Zx.1 h;refine⟨i,a,?_,?_,?_⟩
 .have:((prog.info? 118).bind (·.zero))=some (.agg RN.toArray):=Qk
  rw[a]at this;simpa using this
 .have:((prog.info? 118).map (·.size))=some 5:=Qk
  rw[a]at this;simpa using this
 have:((prog.info? 118).map (·.bytes))=some 72:=Qk
 rw[a]at this;simpa using this
def KB(cs:List Value)(z:cs.length=5)(w:World):(Instr.buildSlice 114 1 #[(0,.agg cs.toArray)]).run prog w=.ok (.slice (some (a_ w.heap.size 0)) 1 1) (w.alloc (.cells cs.toArray 118)):=by
 have hs:(sizeOf 118).run prog w=.ok 5 w:=Qk
 have hz:=VU w;have a:=MK (λi=>some (i*5,5)) ((Array.range (1*5)).map (RN.toArray[·%RN.toArray.size]!)) (.agg cs.toArray) 5 rfl (by simp[Value.cells,z]) Qs;have b:(Value.agg cs.toArray).cells=cs.toArray:=rfl;have e2:(Value.agg #[I6 0,sN,sN,I6 0,I6 0]).cells=RN.toArray:=rfl;rw[b]at a;simp only[Instr.buildSlice,fE,gd underlying114,Zu,hs,f9,hz,e2,fV,a,newRow];simp
def OF(z:op.guard=none)(x:Operand)(J:op.op=.buildSlice 114 1 #[(0,x)])
  (cs:List Value) (H:cs.length=5) (Y:a.eval x=.agg cs.toArray) (h:wpList prog ops Q rest (a.put op.dst (.slice (some (a_ w.heap.size 0)) 1 1)) (w.alloc (.cells cs.toArray 118))):wpList prog ops Q (op::rest) a w:=
 fU z λ_ b=>by
  unfold Oper.wp execOp;have c:=KB cs H w;have e:(#[((0:Nat),x)].map λ(p:Nat × Operand)=>(p.1,a.eval p.2))=#[(0,.agg cs.toArray)]:=by simp[Y]
  simp only[J,fE,e,c,Zu,fV];exact b _ _ h
def Ry(hgd:o.guard=none)(s x:Operand)
  (ho:o.op=.call { callee:=.builtin .append,args:=#[s,x],argTypes:=#[114,114] }) (base:Nat)
  (v:Value) (N:Nat) (xs:List Value) (hs:a.eval s=v) (hown:w.ownsRow base 118 5 v N xs) (hn:N<=1000000)
  (B:Nat) (cs:List Value) (hl:cs.length=5) (hone:∀u∈cs,u.oneCell'=true) (hx:a.eval x=.slice (some ⟨B,0,none⟩) 1 1) (hnews:w.rangeAt B 0 cs) (hbase:base<=w.heap.size) (H:Nat) (hH:w.heap.size=H)
  (h:∀g cap w',w'.ownsRow base 118 5 (.slice (some ⟨g,0,none⟩) (N+1) cap) (N+1) (xs++cs)->w.grownBy w' v.ownBlock->(v.ownBlock=some g\/g=H)->g<w'.heap.size->wpList prog ops Q rest (a.put o.dst (.slice (some ⟨g,0,none⟩) (N+1) cap)) w'):wpList prog ops Q (o::rest) a w:=by
 obtain⟨i,e,b,c,d⟩:=DQ;exact fD w hgd s x 114 ho base 118 i _ 5 72 underlying114 e b c d (by simp[Value.cells,RN]) Qo v N xs hs hown ⟨B,0,none⟩ 1 1 cs hx Qo (λj u f=>by rw[fe];exact hnews j u f) hone Qo (by unfold maxLen;omega) Qo hbase H hH h
variable {T T':Nat->Nd}
def TW.poke{M:Nat}(h:TW tb base T N M (sL g N cap) vr S w)(J:tb<base)(k j:Nat)(H:k<N)(z:j<5)(u:Value)
  (h1:∀m i,i<N->LM T' m i=if i=k then (LM T m k).set j u else LM T m i) (h2:∀i,i<N->(T' i).kind=(T i).kind/\(T' i).kids=(T i).kids/\(T' i).inn=(T i).inn):
  TW tb base T' N M (sL g N cap) vr S (w.setCell (a_ g (k*5+j)) u):=by
 have n:=(h.blk g rfl).1;let⟨m,f,l⟩:=h.o;have b:∀q,q≠g->(w.setCell (a_ g (k*5+j)) u).heap[q]?=w.heap[q]?:=λq a=>Zq w (a_ g (k*5+j)) _ q (λe=>a e)
 refine⟨h.c.block (b tb Qo),⟨m,?_,(l.congr h2).move (λq a=>b q (λe=>(h.s q a).2.2 (by rw[e];rfl))) (λ_ h=>h)⟩,λq a=>⟨by rw[Zz];exact(h.s q a).1,(h.s q a).2⟩⟩;have:=(f.stored (k*5+j) u).1;rw[K7 (Tl T m) k j H z,Sy (E:=LM T' m) (λi d=>(h1 m i d).symm)]at this;exact this
def TF.poke(h:TF tb v (sL g n cap) S S' w w')(z:tb<=g)(q:Nat)(u:Value):TF tb v (sL g n cap) S S' w (w'.setCell (a_ g q) u):=
 ⟨h.b.setCell (p:=(a_ g q)) z u,λk a h1 h2=>by
  rw[Zq w' (a_ g q) _ k (λe=>?_)]
  .exact h.k k a h1 h2
  have e':=e;subst e';rcases h.o k rfl with h3|h3
  .exact h2 h3
  omega,h.o,h.s⟩
def Ro(kind:Nat)(kids:List Nat):Nd:=⟨kind,kids,-1,0,λ_=>false⟩
def UH(T:Nat->Nd)(N kind:Nat)(kids:List Nat)(i:Nat):Nat->Nd:=λn=>
 if n=N then Ro kind kids else if n∈kids.take i then { T n with up:=N,at_:=kids.idxOf n } else T n
def AY(T:Nat->Nd)(N kind:Nat)(kids:List Nat):UH T N kind kids kids.length=Yv T N kind kids (fun _=>false):=by
 funext n
 unfold UH Yv Ro;rw[gp]
def xX(T:Nat->Nd)(N kind:Nat)(kids:List Nat)(i n:Nat):(UH T N kind kids i n).kind=(UH T N kind kids 0 n).kind/\(UH T N kind kids i n).kids=(UH T N kind kids 0 n).kids/\(UH T N kind kids i n).inn=(UH T N kind kids 0 n).inn:=by
 unfold UH;by_cases h:n=N
 .simp[h]
 simp only[h,eU,f7,eM];split<;>exact⟨rfl,rfl,rfl⟩
def FD(T:Nat->Nd)(N kind:Nat)(kids:List Nat)(i k:Nat):Nat->Nd:=λn=>if n=k then { UH T N kind kids i n with up:=N } else UH T N kind kids i n
def KT(H:kids.Nodup)(z:kids[i]?=some k)(J:k<N)(n:Nat):UH T N kind kids (i+1) n=if n=k then { FD T N kind kids i k n with at_:=i } else FD T N kind kids i k n:=by
 let⟨c,b⟩:=Zi.1 z;have a:kids.idxOf k=i:=by rw[<-b];exact H.idxOf_getElem i c
 unfold FD UH;rw[fW,z];by_cases h:n=k
 .subst h;have d:¬n=N:=Qo
  simp only[dB,d,eU,Option.toList_some,ZU,ZC,or_true,a];split<;>rfl
 by_cases h2:n=N
 .subst h2;simp[h]
 simp only[h,h2,eU,Option.toList_some,ZU,ZC,or_false]
def Gj{P:Nat->Prop}{ka:Option Addr}{kc:Nat}{m:Pl}(J:TW tb base T N N v vr S w)(o2:OG S T m N N w)(hK:∀w',Wk P w w'->IL ka (λk=>((kids.getD k 0:Nat):Int)) kids.length w')(hP:∀k,P k->k<w.heap.size/\k≠tb/\v.ownBlock≠some k)(aa:tb<base)(_hb:base<=w.heap.size)
  (Z:Bl w W) (hO:w5.ownsRow base 118 5 (sL g (N+1) cap) (N+1) (Us N (LM T m)++WJ (Ro kind kids) (sN) ka kc)) (hg:W.grownBy w5 v.ownBlock) (Y:v.ownBlock=some g\/g=W.heap.size):
  TW tb base (UH T N kind kids 0) (N+1) N (sL g (N+1) cap) vr (λk=>S k\/P k) (w5.setCell (a_ tb 0) (sL g (N+1) cap))/\TF tb v (sL g (N+1) cap) S S w (w5.setCell (a_ tb 0) (sL g (N+1) cap)):=by
 have F:=Z.size;have D:=hg.size;have y:=J.c.lt;have B:=(hO.lt g rfl).1;have n:=J.blk;obtain⟨r,f⟩:∃r,r=w5.setCell (a_ tb 0) (sL g (N+1) cap):=⟨_,rfl⟩;have j:∀k,k≠tb->r.heap[k]?=w5.heap[k]?:=λk a=>by rw[f];exact Zq w5 (a_ tb 0) _ k (λe=>a e)
 have E:r.heap.size=w5.heap.size:=by rw[f,Zz]
 have b:∀k,k<w.heap.size->k≠tb->v.ownBlock≠some k->r.heap[k]?=w.heap[k]?:=λk h1 h2 h3=>by
  rw[j k h2,hg.block k Qo (λe=>h3 e.symm),Z.block k h1]
 have c5:TC tb [v,vr] w5:=J.c.block (by rw[hg.block tb Qo (λe=>by have:=(n tb e.symm).1;omega),Z.block tb y]);have d:∀i,i<N->UH T N kind kids 0 i=T i:=λi l=>by
  unfold UH;rw[g_,f7,dG Qs]
 have new:UH T N kind kids 0 N=Ro kind kids:=by unfold UH;rw[dF rfl]
 rw[<-f];refine⟨⟨by rw[f];exact c5.set 0 Qs _,⟨⟨λi=>if i=N then sN else m.vin i,λi=>if i=N then ka else m.ka i,λi=>if i=N then kc else m.kc i⟩,?_,?_⟩,λk a=>?_⟩,?_,b,λk a=>?_,λk a=>Or.inl a⟩
 .have e:Us (N+1) (LM (UH T N kind kids 0) ⟨λi=>if i=N then sN else m.vin i,λi=>if i=N then ka else m.ka i,λi=>if i=N then kc else m.kc i⟩)=Us N (LM T m)++WJ (Ro kind kids) (sN) ka kc:=by
   rw[UL];congr 1
   .refine Sy (λi l=>?_);have x:¬i=N:=Qo
    simp only[LM,d i l,x,eU]
   simp only[LM,new,dB]
  rw[e];exact XS hO (λk a=>j k (by cases a;show g≠tb;omega))
 .refine⟨λi l=>?_,λi l w' t=>?_,λi l u h0=>?_⟩
  .by_cases e:i=N
   .simp only[e,dB];rfl
   simp only[e,eU];exact o2.o i Qo
  .by_cases e:i=N
   .subst e;simp only[dB,new];exact hK w' (λk a=>by rw[t k (Or.inr a)];exact b k (hP k a).1 (hP k a).2.1 (hP k a).2.2)
   simp only[e,eU,d i Qo];exact o2.k i Qo w' (λk a=>by rw[t k (Or.inl a)];exact b k (J.s k a).1 (J.s k a).2.1 (J.s k a).2.2)
  have e:¬i=N:=Qo
  rw[d i u]at h0 ⊢;let⟨G,H,A,e2⟩:=o2.i i u u h0;refine⟨G,H,by simp only[e,eU];exact A,λw' t=>e2 w' (λk a=>by rw[t k (Or.inl a)];exact b k (J.s k a).1 (J.s k a).2.1 (J.s k a).2.2)⟩
 .have h1:k<w.heap.size/\k≠tb/\v.ownBlock≠some k:=by
   rcases a with h|h
   .exact J.s k h
   exact hP k h
  refine⟨Qo,h1.2.1,λe=>?_⟩;have e':g=k:=Zh e;rcases Y with h|h
  .exact h1.2.2 (e'▸h)
  omega
 .have z:Below tb w w5:=(Z.mono Qo).grown hg Qo (λq C=>by have:=(n q C).1;omega);rw[f];exact z.setCell (p:=(a_ tb 0)) (Zg _) _
 cases a;rcases Y with h|h
 .exact Or.inl h
 exact Or.inr (by show w.heap.size<=g;omega)
def Ly(tb base:Nat)(T:Nat->Nd)(N:Nat)(v vr:Value)(S P:Nat->Prop)(kind:Nat)(vk:Value)(kids:List Nat)(w:World)(hT:TW tb base T N N v vr S w)(hK:Jz P vk kids w)(hP:∀k,P k->k<w.heap.size/\k≠tb/\v.ownBlock≠some k)
  (hk:∀k∈kids,k<N) (hd:kids.Nodup) (ar:tb<base) (hb:base<=w.heap.size) (hN:N<=1000000) (hl:kids.length<=1000):
  Cp 148 #[pT tb,I6 kind,vk] w λe w'=>∃v',e=.returned (I6 N)/\TW tb base (Yv T N kind kids (λ_=>false)) (N+1) N v' vr (λk=>S k\/P k) w'/\TF tb v v' S S w w':=by
 have hz:=VU;obtain⟨A,B,rfl,y⟩:=hK;let⟨n,Y⟩:=nam kids.length;have V:=hyd Y;have G:=hyd y;have D:=hyd hP;let⟨m,L,o2⟩:=hT.o;have ag:∃na nc,v=.slice na N nc:=by
  rcases L.2 with ⟨h1,h2⟩|⟨g,cap,aj,h1,_⟩
  .exact⟨none,0,by rw[h1,h2]⟩
  exact⟨_,_,h1⟩
 let⟨na,nc,hv⟩:=ag;have Hv:=hyd hv;have c0:=(hT.c 0 _ rfl).1;rw[hv]at c0;have af:=hT.c.lt;have an:(n:Int)<=1000:=Qo
 rw[<-Y];let⟨W,X⟩:=nam (w.alloc (.cells (WJ (Ro kind kids) (sN) A B).toArray 118));have HW:=hyd X;have C:Bl w W:=by rw[X];exact box_bel _ _
 have r:W.rangeAt w.heap.size 0 (WJ (Ro kind kids) (sN) A B):=by rw[X];exact(TC.boxed w _ _).range
 have oW:=XS L (λk hk=>C.block k (L.lt k hk).2);have I:base<=W.heap.size:=by have:=C.size;omega
 have p:Hid (∀u∈WJ (Ro kind kids) (sN) A B,u.oneCell'=true):=by
  show ∀u∈_,_;intro u hu;simp only[WJ,ZR,eM,or_false]at hu;rcases hu with rfl|rfl|rfl|rfl|rfl<;>rfl
 have F:Hid (WJ (Ro kind kids) (sN) A B=[I6 kind,sN,.slice A n B,I6 (-1),I6 0]):=by show _=_;rw[Y];rfl
 have Z:Hid (∀w5,W.grownBy w5 v.ownBlock->TC tb [v,vr] w5):=λw5 hg=>hT.c.block (by rw[hg.block tb (by have:=C.size;omega) (λe=>by have:=(L.lt tb e.symm).1;omega),C.block tb af])
 have HS:Hid (∀g cap w5,w5.ownsRow base 118 5 (sL g (N+1) cap) (N+1) (Us N (LM T m)++WJ (Ro kind kids) (sN) A B)->W.grownBy w5 v.ownBlock->(v.ownBlock=some g\/g=W.heap.size)->TW tb base (UH T N kind kids 0) (N+1) N (sL g (N+1) cap) vr (λk=>S k\/P k) (w5.setCell (a_ tb 0) (sL g (N+1) cap))/\TF tb v (sL g (N+1) cap) S S w (w5.setCell (a_ tb 0) (sL g (N+1) cap))):=
  λg cap w5 h1 h2 h3=>Gj hT o2 y hP ar hb C h1 h2 h3
 clear hv hT y hP L o2 X Y;go_enter func148,ntmps148;go_wp2_with (first|(with_reducible show wpList _ _ _ (⟨_,Op.buildSlice 114 _ _,_,_,_,_⟩::_) _ _;refine Ya.out ?_));refine⟨?_⟩;refine OF rfl _ rfl (WJ (Ro kind kids) (sN) A B) rfl (by rw[F.o];rfl) ?_;rw[<-HW.o]
 (try simp only[psm])
 go_wp2_with (first|(at_builtin;refine Ry Qr _ _ Qr base v N _ (by rw[Hv.o];rfl) oW hN w.heap.size _ rfl p.o Qr r I _ rfl ?_;intro g cap w5 t a J ae;have c5:=(Z.o w5 a 0 _ rfl).1;have aa:=(Z.o w5 a 0 _ rfl).2));let⟨Q,M⟩:=HS.o g cap w5 t a J;have am:=(t.lt g rfl).1;clear c5 aa t a HS Z r oW I HW C c0 p F ae J
 go_loopw [8] (λx w'=>∃i:Nat,i<=n/\x=I6 i/\TW tb base (UH T N kind kids i) (N+1) N (sL g (N+1) cap) vr (λk=>S k\/P k) w'/\TF tb v (sL g (N+1) cap) S S w w') (λx _=>n-(intOf x).toNat)
 .exact⟨0,Qo,rfl,Q,M⟩
 clear Q M;obtain⟨i,hi,rfl,E,tf⟩:=hrel;by_cases ao:i<n
 .have ai:(i:Int)<n:=Qo
  obtain⟨k,d⟩:∃k,kids[i]?=some k:=⟨kids[i]'(by have:=V.o;omega),Zd _⟩;have K:=hk k (dI d);have ah:(k:Int)<N+1:=Qo
  let⟨kb,ko,ek,ck⟩:=G.o wr (λq z=>tf.k q (D q z).1 (D q z).2.1 (D q z).2.2) i (by have:=V.o;omega);simp only[Zf,d,fX]at ck;have ab:=(E.c 0 _ rfl).1;obtain⟨d3,f3⟩:(∃u,wr.cell? (a_ g (k*5+3))=some (I6 u))/\wr.frozen? (a_ g (k*5+3))=false:=by
   let⟨m',f,_⟩:=E.o;refine⟨⟨(UH T N kind kids i k).up,?_⟩,f.frozenAt _⟩;rw[f.cellAt _ Qo,UK (Tl _ _) k 3 Qo Qo];rfl
  let⟨u3,d3⟩:=d3;have h:=E.poke (T':=FD T N kind kids i k) ar k 3 Qo Qo (I6 (N:Int)) (λm' j _=>by
   unfold FD LM;by_cases e:j=k
   .subst e;simp only[dB];rfl
   simp only[e,eU]) (λj _=>by unfold FD;split<;>exact⟨rfl,rfl,rfl⟩)
  have l:=tf.poke (show tb<=g by omega) (k*5+3) (I6 (N:Int));let⟨U,h7⟩:=nam (wr.setCell (a_ g (k*5+3)) (I6 (N:Int)));rw[<-h7]at h l;have s:=(G U (λq z=>l.k q (D q z).1 (D q z).2.1 (D q z).2.2)) i (by have:=V.o;omega);let⟨ap,aq,H,s⟩:=s;simp only[Zf,d,fX]at s;rw[ek]at H;cases H;subst ek;have ak:=(h.c 0 _ rfl).1;obtain⟨d4,f4⟩:(∃u,U.cell? (a_ g (k*5+4))=some (I6 u))/\U.frozen? (a_ g (k*5+4))=false:=by
   let⟨m',f,_⟩:=h.o;refine⟨⟨(FD T N kind kids i k k).at_,?_⟩,f.frozenAt _⟩;rw[f.cellAt _ Qo,UK (Tl _ _) k 4 Qo Qo];rfl
  let⟨u4,d4⟩:=d4;have R:=h.poke (T':=UH T N kind kids (i+1)) ar k 4 Qo Qo (I6 (i:Int)) (λm' j _=>by
   unfold LM;rw[KT hd d K];by_cases e:j=k
   .subst e;simp only[dB];rfl
   .simp only[e,eU]) (λj _=>by
   rw[KT hd d K];split<;>exact⟨rfl,rfl,rfl⟩)
  have O:=l.poke (show tb<=g by omega) (k*5+4) (I6 (i:Int));have b:=hyd2 R O;have H7:=hyd h7;clear E tf h l R O h7;go_wp2;apply wp_region_still_tail 11 Qk Qk;simp only[ZK,f7,ZL,Zw];change wpStill _ _ wr.drew (λa'=>wpList _ _ _ _ a' wr.drew) _ _
  repeat still_step
  apply f8;go_wp2;rw[<-H7.o];clear ab ck d3 f3;apply wp_region_still_tail 11 Qk Qk;simp only[ZK,f7,ZL,Zw];change wpStill _ _ U.drew.drew (λa'=>wpList _ _ _ _ a' U.drew.drew) _ _
  repeat still_step
  apply f8;go_wp2;go_roundw
  .exact⟨i+1,Qo,Qg,b.o.1.below (Zk _ _).drew.drew,b.o.2.trans (TF.of _ _ (ZM b.o.1.c.lt) (Zk _ _).drew.drew)⟩
  simp[intOf];omega
 have al:¬(i:Int)<n:=Qo
 have ac:i=n:=Qo
 subst ac;go_wp2;go_ret;rw[V.o,AY]at E;exact⟨rfl,_,E,tf⟩
structure VV (tb base:Nat) (T:Nat->Nd) (N:Nat) (v vr:Value) (S:Nat->Prop) (K:Nat) (w:World):Prop where
 t:TW tb base T N N v vr S w
 r:Md T N
 b:tb<base
 s:base<=w.heap.size
 n:N+K<=1000000
def Yp(tb base:Nat)(T:Nat->Nd)(N:Nat)(v vr:Value)(S:Nat->Prop)(e:Rx)(K:Nat)(w:World)(ee:Ending)(w':World):Prop:=
 ∃T' n v' S',ee=.returned (.int .i64 (n:Nat))/\TW tb base T' (n+1) (n+1) v' vr S' w'/\TF tb v v' S S' w w'/\Md T' (n+1)/\ST T' (n+1) N n e/\(∀i,i<N->T' i=T i)/\n+1<=N+K
def Ml(ts:List Tq)(e:Rx):Prop:=∀(tb base:Nat) (s:ByteArray) (T:Nat->Nd) (N:Nat) (v vr:Value) (S:Nat->Prop) (w:World),s.data.toList=tx ts->s.size<=40->VV tb base T N v vr S (WB s.size e.sz) w ->
 Calls prog 147 #[.pointer (some ⟨tb,0,none⟩),.string s] w (Yp tb base T N v vr S e (WB s.size e.sz) w)
def zB(ts:List Tq)(e:Rx):Prop:=∀(tb base:Nat) (s:ByteArray) (T:Nat->Nd) (N:Nat) (v vr:Value) (S:Nat->Prop) (w:World),s.data.toList=tx ts->s.size<=40->VV tb base T N v vr S (WB s.size e.sz+2) w ->
 Calls prog 91 #[.pointer (some ⟨tb,0,none⟩),.string s] w (Yp tb base T N v vr S e (WB s.size e.sz+2) w)
def TF.sub(h:TF tb v v' S S1 w w')(hs:∀k,S' k->S1 k\/w.heap.size<=k):TF tb v v' S S' w w':=
 ⟨h.b,h.k,h.o,λk a=>by
  rcases hs k a with h1|h1
  .exact h.s k h1
  exact Or.inr h1⟩
structure GS (tb base:Nat) (T0:Nat->Nd) (N0:Nat) (v0 vr:Value) (S0:Nat->Prop) (w0:World) (T:Nat->Nd) (N:Nat) (v:Value) (S:Nat->Prop) (w:World):Prop where
 t:TW tb base T N N v vr S w
 f:TF tb v0 v S0 S w0 w
 r:Md T N
 o:∀i,i<N0->T i=T0 i
 l:N0<=N
def GS.first(h:VV tb base T N v vr S K w):GS tb base T N v vr S w T N v S w:=
 ⟨h.t,TF.of v S (ZM h.t.c.lt) (Zk _ _),h.r,λ_ _=>rfl,Zg _⟩
variable {T0:Nat->Nd}
def GS.pre(h:GS tb base T0 N0 v0 vr S0 w0 T N v S w)(h1:tb<base)(h2:base<=w0.heap.size)(h3:N+K<=1000000):VV tb base T N v vr S K w:=
 ⟨h.t,h.r,h1,by have:=h.f.b.size;omega,h3⟩
def GS.below(h:GS tb base T0 N0 v0 vr S0 w0 T N v S w)(z:Bl w w'):GS tb base T0 N0 v0 vr S0 w0 T N v S w':=
 ⟨h.t.below z,h.f.trans (TF.of v S (ZM h.t.c.lt) z),h.r,h.o,h.l⟩
def GS.made(h:GS tb base T0 N0 v0 vr S0 w0 T N v S w){T':Nat->Nd}{n:Nat}{v':Value}{S':Nat->Prop}{w':World}{e:Rx}(h1:TW tb base T' (n+1) (n+1) v' vr S' w')(h2:TF tb v v' S S' w w')(h3:Md T' (n+1))(z:ST T' (n+1) N n e)(H:∀i,i<N->T' i=T i):GS tb base T0 N0 v0 vr S0 w0 T' (n+1) v' S' w':=
 ⟨h1,h.f.trans h2,h3,λi a=>by have:=h.l;rw[H i Qo];exact h.o i a,by have:=h.l;have:=z.ge;omega⟩
structure PL (w0:World) (v:Value) (S:Nat->Prop) (vk:Value) (ks:List Nat) (w:World):Prop where
 o:OwnL w0.heap.size vk (ks.map fun x:Nat=>(x:Int)) w
 s:∀k,vk.ownBlock=some k->v.ownBlock≠some k/\¬S k
def PL.nil(w0:World)(v:Value)(S:Nat->Prop)(w:World):PL w0 v S (sN) [] w:=⟨OwnL.nil _ _,λk a=>by cases a⟩
def PL.tf(h:PL w0 v S vk ks w)(z:tb<w0.heap.size)(f:TF tb v v1 S S1 w w1):PL w0 v1 S1 vk ks w1:=by
 refine⟨h.o.keep (λk a=>?_),λk a=>⟨λe=>?_,λe=>?_⟩⟩
 .have:=h.o.blk k a;exact f.k k this.2 Qo (h.s k a).1
 .have:=h.o.blk k a;rcases f.o k e with h1|h1
  .exact(h.s k a).1 h1
  omega
 have:=h.o.blk k a;rcases f.s k e with h1|h1
 .exact(h.s k a).2 h1
 omega
def PL.app(h:GS tb base T0 N0 v0 vr S0 w0 T N v S w){vk:Value}{ks:List Nat}(p:PL w0 v S vk ks w)(Y:tb<w0.heap.size){g len cap n:Nat}(z:w.grownBy w5 vk.ownBlock)(J:OwnL w0.heap.size (sL g len cap) (ks.map (λx:Nat=>(x:Int))++[(n:Int)]) w5)(H:vk.ownBlock=some g\/g=w.heap.size):
  GS tb base T0 N0 v0 vr S0 w0 T N v S w5/\PL w0 v S (sL g len cap) (ks++[n]) w5:=by
 have m:=h.f.b.size;have i:=z.size;have a:∀k,k<w.heap.size->vk.ownBlock≠some k->w5.heap[k]?=w.heap[k]?:=λk h1 h2=>z.block k h1 (λe=>h2 e.symm)
 refine⟨⟨h.t.keep i (λk d=>?_),⟨?_,λk h1 h2 h3=>?_,h.f.o,h.f.s⟩,h.r,h.o,h.l⟩,⟨by rw[eK];exact J,λk d=>?_⟩⟩
 .rcases d with h1|h1|h1
  .subst h1;exact a k h.t.c.lt (λe=>by have:=(p.o.blk k e).1;omega)
  .exact a k (h.t.blk k h1).2 (λe=>(p.s k e).1 h1)
  exact a k (h.t.s k h1).1 (λe=>(p.s k e).2 h1)
 .exact h.f.b.grown z Qo (λq j=>by have:=(p.o.blk q j).1;omega)
 .rw[a k Qo (λe=>by have:=(p.o.blk k e).1;omega)];exact h.f.k k h1 h2 h3
 cases d;rcases H with h1|h1
 .exact p.s g h1
 exact⟨λe=>by have:=(h.t.blk g e).2;omega,λe=>by have:=(h.t.s g e).1;omega⟩
def GS.node(h:GS tb base T0 N0 v0 vr S0 w0 T N v S w){vk:Value}{ks:List Nat}{P:Nat->Prop}(hK:Jz P vk ks w)(H:∀k,P k->w0.heap.size<=k/\k<w.heap.size/\v.ownBlock≠some k)(J:tb<base)(hb:base<=w0.heap.size)(kind:Nat)(Z:kind<=4)(h0:kind≠0)(z:∀k∈ks,N0<=k/\k<N)(hd:ks.Nodup)(hN:N<=1000000)(Y:ks.length<=1000)(ho:3<=kind->ks.length=1:=by first|(intro h;omega)|(intro h;rfl)):
  Cp 148 #[pT tb,I6 kind,vk] w λe w'=>∃v',e=.returned (I6 N)/\GS tb base T0 N0 v0 vr S0 w0 (Yv T N kind ks (λ_=>false)) (N+1) v' (λk=>S k\/P k) w'/\TF tb v v' S S w w':=by
 have j:=h.f.b.size;refine(Ly tb base T N v vr S P kind vk ks w h.t hK (λk z=>⟨(H k z).2.1,by have:=(H k z).1;omega,(H k z).2.2⟩) (λk a=>(z k a).2) hd J Qo hN Y).mono ?_;rintro e w' ⟨v',c,m,tf⟩;refine⟨v',c,⟨m.more (by rw[YP];exact h0),(h.f.trans tf).sub (λk z=>?_),h.r.add (λk a=>(z k a).2) Z Y ho,λi d=>?_,by have:=h.l;omega⟩,tf⟩
 .rcases z with h1|h1
  .exact Or.inl h1
  exact Or.inr (H k h1).1
 have:=h.l;rw[WZ Qo (λg=>by have:=(z i g).1;omega)];exact h.o i d
def PL.add{P:Nat->Prop}(h:PL w0 v S vk ks w)(z:∀k,vk.ownBlock=some k->¬P k):PL w0 v (λk=>S k\/P k) vk ks w:=
 ⟨h.o,λk a=>⟨(h.s k a).1,λe=>by
  rcases e with e|e
  .exact(h.s k a).2 e
  exact z k a e⟩⟩
def Jz.two(w:World)(a b:Nat)(z:TypeId):Jz (λk=>k=w.heap.size) (.slice (some (a_ w.heap.size 0)) 2 2) [a,b] (w.alloc (.cells #[I6 (a:Int),I6 (b:Int)] z)):=by
 refine⟨_,2,rfl,λw' d i c=>⟨w.heap.size,0,rfl,?_⟩⟩;rw[eZ (w:=w.alloc (.cells #[I6 (a:Int),I6 (b:Int)] z)) (a:=(a_ w.heap.size (0+i))) (d _ rfl),Zm];simp only[dZ,eO]at c
 match i,c with
 |0,_=>rfl
 |1,_=>rfl
def Jz.one(w:World)(a:Nat)(z:TypeId):Jz (λk=>k=w.heap.size) (.slice (some (a_ w.heap.size 0)) 1 1) [a] (w.alloc (.cells #[I6 (a:Int)] z)):=by
 refine⟨_,1,rfl,λw' c i b=>⟨w.heap.size,0,rfl,?_⟩⟩;rw[eZ (w:=w.alloc (.cells #[I6 (a:Int)] z)) (a:=(a_ w.heap.size (0+i))) (c _ rfl),Zm];simp only[dZ,eO]at b
 match i,b with
 |0,_=>rfl
variable {e:Rx}
def GS.post(h:GS tb base T0 N0 v0 vr S0 w0 T (n+1) v S w)(z:ST T (n+1) N0 n e)(H:n+1<=N0+K):Yp tb base T0 N0 v0 vr S0 e K w0 (.returned (I6 (n:Nat))) w:=
 ⟨T,n,v,S,rfl,h.t,h.f,h.r,z,h.o,H⟩
variable {ts:List Tq}
def IT(h:Ml ts e)(tb base:Nat)(s:ByteArray)(T:Nat->Nd)(N:Nat)(v vr:Value)(S:Nat->Prop)(w:World)(Z:s.data.toList=tx ts)(hs:s.size<=40)(Y:VV tb base T N v vr S (WB s.size e.sz+2) w):
  Cp 183 #[pT tb,.string s] w (Yp tb base T N v vr S (.opt e) (WB s.size e.sz+2) w):=by
 let⟨K,A⟩:=nam (WB s.size e.sz);have F:Hid (Cp 147 #[pT tb,.string s] w (Yp tb base T N v vr S e K w)):=by rw[A];exact h tb base s T N v vr S w Z hs ⟨Y.t,Y.r,Y.b,Y.s,by have:=Y.n;omega⟩
 rw[<-A]at Y ⊢;have c:=Y.b;have B:=Y.s;have L:=Y.n;have G:=hyd (GS.first Y);go_enter func183,ntmps183;go_wp2_with fail;apply F.o.mono;rintro ee w1 ⟨H,a,v1,S1,rfl,y,x,i,z,g,J⟩;have C:=G.o.made y x i z g;have l:=hyd (C.node (P:=λ_=>False) (Jz.nil w1) (λk q=>q.elim) c B 1 Qo Qo Qs Qs Qo Qs);have o:=hyd2 z i;go_wp2_with fail;apply l.o.mono;rintro ee w2 ⟨v2,rfl,j,_⟩;have D:=j.below (box_bel w2 (.cells #[I6 (a:Int),I6 ((a+1:Nat):Int)] 3));let⟨d,u⟩:=o.o;have I:=d.ge;have m:Hid (Cp 148 #[pT tb,I6 (2:Nat),.slice (some (a_ w2.heap.size 0)) 2 2] (w2.alloc (.cells #[I6 (a:Int),I6 ((a+1:Nat):Int)] 3)) λe w'=>∃v',e=.returned (I6 ((a+1+1:Nat):Int))/\GS tb base T N v vr S w (Yv (Yv H (a+1) 1 [] (λ_=>false)) (a+1+1) 2 [a,a+1] (λ_=>false)) (a+1+1+1) v' (λk=>(S1 k\/False)\/k=w2.heap.size) w'/\TF tb v2 v' (λk=>S1 k\/False) (λk=>S1 k\/False) (w2.alloc (.cells #[I6 (a:Int),I6 ((a+1:Nat):Int)] 3)) w'):=
  D.node (Jz.two w2 a (a+1) 3) (λk q=>by
   subst q;refine⟨j.f.b.size,Qs,λe=>?_⟩;have:=(j.t.blk _ e).2;omega) c B 2 Qo Qo Qp Qs Qo Qs
 have p:=hyd (Cu u.w d);go_wp2_with fail;apply m.o.mono;rintro ee M ⟨v4,rfl,E,_⟩;go_wp2;go_ret;exact E.post p Qo
def I8(h:Ml ts e)(m n:Nat)(aq:m<=9)(ar:n<=9)(tb base:Nat)(s:ByteArray)(T:Nat->Nd)(N:Nat)(v vr:Value)(S:Nat->Prop)(w:World)(ap:s.data.toList=tx ts)(hs:s.size<=40)(hp:VV tb base T N v vr S (n*(WB s.size e.sz+2)+1) w):
  Cp 184 #[pT tb,.string s,I6 m,I6 n] w (Yp tb base T N v vr S (Rx.rowOf (Rx.copies e m n)) (n*(WB s.size e.sz+2)+1) w):=by
 let⟨K,hK⟩:=nam (WB s.size e.sz);have HC:Hid (∀(T':Nat->Nd) (N':Nat) (v':Value) (S':Nat->Prop) (w':World),VV tb base T' N' v' vr S' K w'->Cp 147 #[pT tb,.string s] w' (Yp tb base T' N' v' vr S' e K w')):=by
  rw[hK];exact λT' N' v' S' w' R=>h tb base s T' N' v' vr S' w' ap hs R
 have HM:Hid (∀(T':Nat->Nd) (N':Nat) (v':Value) (S':Nat->Prop) (w':World),VV tb base T' N' v' vr S' (K+2) w'->Cp 183 #[pT tb,.string s] w' (Yp tb base T' N' v' vr S' (.opt e) (K+2) w')):=by
  rw[hK];exact λT' N' v' S' w' R=>IT h tb base s T' N' v' vr S' w' ap hs R
 rw[<-hK]at hp ⊢;have U:=hp.b;have hb:=hp.s;let⟨Q,hQ⟩:=nam (K+2);rw[<-hQ]at hp ⊢;let⟨nQ,ac⟩:=nam (n*Q);have I:=hyd ac;rw[<-ac]at hp ⊢;have hN:=hp.n;have D:=hp.t.c.lt;have HG:=hyd (GS.first hp);have ao:(n:Int)<=9:=Qo
 go_enter func184,ntmps184;go_wp2
 go_loopw [9,10] (λkv iv w'=>∃(i V:Nat) (ks:List Nat) (T':Nat->Nd) (N':Nat) (v':Value) (S':Nat->Prop) (E:Option Addr) (F:Nat),i<=n/\iv=I6 i/\kv=.slice E i F/\GS tb base T N v vr S w T' N' v' S' w'/\PL w v' S' kv ks w'/\Hid (Yy T' N' N ks (Rx.copies e m i) N')/\N'<=N+V/\Hid (V=i*Q)/\Hid ((ks.map (λx:Nat=>(x:Int))).length=i)) (λ_ iv _=>n-(intOf iv).toNat)
 .exact⟨0,0,[],T,N,v,S,none,0,Qo,rfl,rfl,HG,PL.nil _ _ _ _,Yy.nil N,Qo,(fJ Q).symm,rfl⟩
 obtain⟨i,V,ks,T',N',v',S',E,F,hi,rfl,rfl,G,u,y,al,C,p⟩:=hrel;by_cases ai:i<n
 .have ak:(i:Int)<n:=Qo
  have am:V+Q<=nQ:=by
   have h1:(i+1)*Q<=n*Q:=ZQ _ ai;rw[du]at h1;have h2:=C.o;have h3:=I.o;omega
  have Z:Hid (V+Q=(i+1)*Q):=by show _=_;rw[du,C.o]
  by_cases aa:i<m
  .have ab:(i:Int)<m:=Qo
   have H:=hyd (HC T' N' v' S' wr (G.pre U hb Qo));have l:=hyd2 G u;go_wp2_with fail;apply H.o.mono;rintro ee w1 ⟨T1,a,v1,S1,rfl,X,B,W,f1,j,aj⟩;have A:=box_bel w1 (.cells #[I6 (a:Int)] 3);have Y:=(l.o.1.made X B W f1 j).below A;have P1:=(l.o.2.tf D B);have P2:PL w v1 S1 (.slice E i F) ks (w1.alloc (.cells #[I6 (a:Int)] 3)):=⟨P1.o.below A,P1.s⟩;have z:Hid (Yy T1 (a+1) N (ks++[a]) (Rx.copies e m (i+1)) (a+1)):=by
    show Yy _ _ _ _ _ _;rw[Rx.copies_succ,dF aa];exact y.o.more l.o.1.r.w j f1
   have J:=P2.o;have P:(w1.alloc (.cells #[I6 (a:Int)] 3)).cell? (a_ w1.heap.size 0)=some (I6 (a:Int)):=by rw[Zm];rfl
   have M:=Y.f.b.size;have d:=hyd2 Y P2;go_wp2_with (first|(at_builtin;refine Bm.wpList_append_int Qr _ _ Qr w.heap.size (.slice E i F) _ Qr J (by rw[p.o];omega) w1.heap.size (a:Int) Qr P M _ rfl ?_;rw[p.o];intro g cap w5 L q O ag));let⟨G5,P5⟩:=d.o.2.app d.o.1 D q L O;go_roundw
   .exact⟨i+1,V+Q,ks++[a],T1,a+1,v1,S1,some (a_ g 0),cap,Qo,Qg,rfl,G5,P5,z,Qo,Z,by show _=_;have:=p.o;simp at this;simp[this]⟩
   simp[intOf];omega
  have ab:¬(i:Int)<m:=Qo
  have H:=hyd (HM T' N' v' S' wr (G.pre U hb Qo));have l:=hyd2 G u;go_wp2_with fail;apply H.o.mono;rintro ee w1 ⟨T1,a,v1,S1,rfl,X,B,W,f1,j,aj⟩;have A:=box_bel w1 (.cells #[I6 (a:Int)] 3);have Y:=(l.o.1.made X B W f1 j).below A;have P1:=(l.o.2.tf D B);have P2:PL w v1 S1 (.slice E i F) ks (w1.alloc (.cells #[I6 (a:Int)] 3)):=⟨P1.o.below A,P1.s⟩;have z:Hid (Yy T1 (a+1) N (ks++[a]) (Rx.copies e m (i+1)) (a+1)):=by
   show Yy _ _ _ _ _ _;rw[Rx.copies_succ,dG aa];exact y.o.more l.o.1.r.w j f1
  have J:=P2.o;have P:(w1.alloc (.cells #[I6 (a:Int)] 3)).cell? (a_ w1.heap.size 0)=some (I6 (a:Int)):=by rw[Zm];rfl
  have M:=Y.f.b.size;have d:=hyd2 Y P2;go_wp2_with (first|(at_builtin;refine Bm.wpList_append_int Qr _ _ Qr w.heap.size (.slice E i F) _ Qr J (by rw[p.o];omega) w1.heap.size (a:Int) Qr P M _ rfl ?_;rw[p.o];intro g cap w5 L q O ag));let⟨G5,P5⟩:=d.o.2.app d.o.1 D q L O;go_roundw
  .exact⟨i+1,V+Q,ks++[a],T1,a+1,v1,S1,some (a_ g 0),cap,Qo,Qg,rfl,G5,P5,z,Qo,Z,by show _=_;have:=p.o;simp at this;simp[this]⟩
  simp[intOf];omega
 have an:¬(i:Int)<n:=Qo
 have af:i=n:=Qo
 subst af;have ah:=y.o.le;have ae:Hid (Cp 148 #[pT tb,I6 (1:Nat),(.slice E i F)] wr λe w'=>∃v2,e=.returned (I6 (N':Int))/\GS tb base T N v vr S w (Yv T' N' 1 ks (λ_=>false)) (N'+1) v2 (λk=>S' k\/(Value.slice E i F).ownBlock=some k) w'/\TF tb v' v2 S' S' wr w'):=
  G.node (Jz.of u.o) (λk hk=>⟨(u.o.blk k hk).1,(u.o.blk k hk).2,(u.s k hk).1⟩) U hb 1 Qo Qo ah.2.2.1 y.o.nodup (by have:=C.o;have:=I.o;omega) (by have:=p.o;simp at this;omega)
 have HF:=hyd (Nr G.r.w y);have HB:Hid (N'+1<=N+(nQ+1)):=by
  have h2:=C.o;have h3:=I.o;show _<=_;omega
 go_wp2_with fail;apply ae.o.mono;rintro ee w4 ⟨v4,rfl,G4,_⟩;go_wp2;go_ret;exact G4.post HF HB.o
def Jf(tb base:Nat)(T0:Nat->Nd)(N0:Nat)(v0 vr:Value)(S0:Nat->Prop)(w0:World)(T:Nat->Nd)(k:Nat)(v:Value)(S:Nat->Prop)(w:World)(e:Rx)(K:Nat)(hG:GS tb base T0 N0 v0 vr S0 w0 T (k+1) v S w)(hF:ST T (k+1) N0 k e)(aw:tb<base)(hb:base<=w0.heap.size)(hK:k+2<=N0+K)(hN:N0+K<=1000000)(st:Bool):
  Cp 182 #[pT tb,I6 (if st then 3 else 4),I6 k] w (Yp tb base T0 N0 v0 vr S0 (if st then .star e else .plus e) K w0):=by
 have hz:=VU;let⟨Y,b,hU,aq,ak,R⟩:=Ea hG.r.w hF.toGood st;let⟨E,hE⟩:=nam ((if st then Rx.star e else .plus e));rw[<-hE]at R ⊢;have aj:=hyd R;have HG:=hyd hG;have y:=hyd2 hG.r.w hF.ge;have HU:=hyd hU;obtain⟨H,z⟩:∃H:Int,H=if st then 3 else 4:=⟨_,rfl⟩
 rw[<-z];have I:Hid (H=if st || false then 3 else 4):=by show _=_;rw[z,dw]
 have ar:(k:Int)<=1000000:=Qo
 clear hU R hE hF hG z;go_enter func182,ntmps182;go_wp2
 go_loopw [1,2] (λkd kv w'=>∃(s:Nat) (u:Int) (b1 b2:Bool),kd=I6 u/\kv=I6 s/\Hid (u=if st || b1 then 3 else 4)/\Hid (QS T s Y b2)/\Hid ((b1 || b2)=b)/\s<=k/\GS tb base T0 N0 v0 vr S0 w0 T (k+1) v S w') (λ_ kv _=>(intOf kv).toNat)
 .exact⟨k,H,false,b,rfl,rfl,I,HU,by show _=_;cases b<;>rfl,Zg _,HG⟩
 clear HU HG I;obtain⟨s,u,b1,b2,rfl,rfl,J,HU,Hb,au,G⟩:=hrel;have ae:(s:Int)<k+1:=Qo
 have hT:=G.t.tr (Zg _);let⟨na,nc,c0,ai⟩:=hT;let⟨nb,ao,x,N,h,en,r,o,il,_⟩:=ai s Qo;subst en;let⟨d,hd⟩:=nam (T s);rw[<-hd]at r il;have Hd:=hyd hd;let⟨m,hm⟩:=nam d.kids.length;have Q:=hyd hm;have Z:=hyd G;have aa:=hyd il;clear ai hd hm il G;go_wp2_with (first|(with_reducible apply gld 118;refine Ya.out ?_));refine⟨?_⟩;apply Zb rfl 118 _ rfl nb (ao+s*5) rfl (WJ d x N h) _ r u_k rfl WW
 (try simp only[psm])
 go_wp2_with (first|(with_reducible apply gst 118;refine Ya.out ?_));refine⟨?_⟩;let⟨w2,F⟩:=nam ((wr.alloc (.cells RN.toArray 118)).setCells wr.heap.size 0 (WJ d x N h));have U:=Xa wr RN (WJ d x N h) 118 rfl;have T2:TC wr.heap.size (WJ d x N h) w2:=by rw[F];exact Tt U.2.2.2
 rw[<-F]at U;let⟨B2,_,s2,t2⟩:=U;refine Za rfl 118 _ _ rfl wr.heap.size 0 (WJ d x N h).toArray rfl rfl t2 WW (by simp only[WJ,gy,dD,o];rfl) ?_;rw[Zc];have M:w2=(wr.alloc (.cells #[I6 0,sN,sN,I6 0,I6 0] 118)).setCells wr.heap.size 0 (WJ d x N h):=F;rw[<-M];have ck:=(T2 0 _ rfl).1;have cK:=(T2 2 _ rfl).1;rw[<-Q.o]at cK;have i:Hid (GS tb base T0 N0 v0 vr S0 w0 T (k+1) v S w2):=Z.o.below B2;have ab:Hid (IL N (λk=>((d.kids.getD k 0:Nat):Int)) d.kids.length w2):=aa.o.below B2;clear F M t2 r T2 c0 B2 s2 ae Z aa;generalize ap:wr.heap.size=bx at *;have hU:=HU.o;have av:(m:Int)<=1000:=by
  have:=(i.o.r.k s Qo).2;rw[<-Hd.o,<-Q.o]at this;omega
 have g:∀(j c:Nat),d.kids[j]?=some c->∃V W,N=some (a_ V W)/\w2.cell? (a_ V (W+j))=some (I6 (c:Int)):=λj c hj=>by
  let⟨V,W,L,e2⟩:=ab.o j (Zi.1 hj).1;refine⟨V,W,L,?_⟩;rw[e2];simp only[Zf,hj,fX]
 cases hU with
 |star h1 h2 hu=>
  rename_i c b3;rw[<-Hd.o]at h1 h2;have q3:((d.kind:Int)==3)=true:=by simp[h1]
  let⟨V,W,L,e2⟩:=g 0 c (by rw[h2];rfl);have A:m=1:=by rw[Q.o,h2];rfl
  subst L A;have af:=y.o.1 s Qo c (by rw[<-Hd.o,h2];simp);have HR:=hyd hu;simp only[eP]at e2;clear g h1 h2 hu;go_wp2;go_roundw
  .exact⟨c,3,true,b3,rfl,rfl,by show _=_;simp,HR,by show _=_;have:=Hb.o;simp at this;simp[this],Qo,i⟩
  simp[intOf];omega
 |one h1 h2 hu=>
  rename_i c;rw[<-Hd.o]at h1 h2;have q3:((d.kind:Int)==3)=false:=Qp
  let⟨V,W,L,e2⟩:=g 0 c (by rw[h2];rfl);have A:m=1:=by rw[Q.o,h2];rfl
  subst L A;have af:=y.o.1 s Qo c (by rw[<-Hd.o,h2];simp);have HR:=hyd hu;simp only[eP]at e2;clear g h1 h2 hu;go_wp2;go_roundw
  .exact⟨c,u,b1,b2,rfl,rfl,J,HR,Hb,Qo,i⟩
  simp[intOf];omega
 |may h1 h2 h3 h4 hu=>
  rename_i c l b3;rw[<-Hd.o]at h1 h2;have q3:((d.kind:Int)==3)=false:=Qp
  have q2:((d.kind:Int)==2)=true:=by simp[h1]
  let⟨V,W,L,e2⟩:=g 0 c (by rw[h2];rfl);let⟨am,an,X,e4⟩:=g 1 l (by rw[h2];rfl);rw[L]at X;cases X;have A:m=2:=by rw[Q.o,h2];rfl
  subst L A;have af:=y.o.1 s Qo c (by rw[<-Hd.o,h2];simp);have ag:=y.o.1 s Qo l (by rw[<-Hd.o,h2];simp);have HR:=hyd hu;have p:=HY tb T (k+1) l w2 Qo Qo (i.o.t.tr (Zg _));rw[show decide ((T l).kind=1/\(T l).kids=[])=true by simp[h3,h4]]at p;have O:=hyd p;simp only[eP]at e2;clear g h1 h2 hu h3 h4 p;go_wp2_with fail;apply O.o.mono;rintro ee w3 ⟨rfl,rfl⟩;go_wp2;go_roundw
  .exact⟨c,3,true,b3,rfl,rfl,by show _=_;simp,HR,by show _=_;have:=Hb.o;simp at this;simp[this],Qo,i⟩
  simp[intOf];omega
 |stop h1 h2 h3=>
  rw[<-Hd.o]at h1 h2 h3;have q3:((d.kind:Int)==3)=false:=Qp
  have q1:((m:Int)==1)=false:=by rw[Q.o];simp;omega
  have C:b1=b:=by have:=Hb.o;simpa using this
  have ac:Hid (u=((if st || b then 3 else 4:Nat):Int)):=by
   show _=_;rw[J.o,C];split<;>rfl
  have B:(if st || b then 3 else 4:Nat)<=4/\(if st || b then 3 else 4:Nat)≠0:=by split<;>omega
  have n:Hid (∀w3,w3=w2->Cp 148 #[pT tb,I6 u,.slice (some (a_ w3.heap.size 0)) 1 1] (w3.alloc (.cells #[I6 (Y:Int)] 3)) (Yp tb base T0 N0 v0 vr S0 E K w0)):=λw3 X=>by
   subst X;rw[ac.o];have al:=i.o.f.b.size;refine((i.o.below (box_bel w3 (.cells #[I6 (Y:Int)] 3))).node (P:=λq=>q=w3.heap.size) (ks:=[Y]) (Jz.one w3 Y 3) (λq hq=>?_) aw hb _ B.1 B.2 ?_ Qs Qo Qs).mono ?_
   .subst hq;exact⟨al,Qs,λe=>by have:=(i.o.t.blk _ e).2;omega⟩
   .simp only[ZC];rintro q rfl;exact⟨ak,Qo⟩
   rintro ee w5 ⟨v5,rfl,G5,_⟩;exact G5.post aj Qo
  by_cases e2:d.kind=2
  .have q2:((d.kind:Int)==2)=true:=by simp[e2]
   by_cases em:m=2
   .obtain⟨c,l,D⟩:∃c l,d.kids=[c,l]:=by
     have hl:=Q.o;rw[em]at hl
     match hkk:d.kids,hl with
     |[c,l],_=>exact⟨c,l,rfl⟩
    let⟨am,an,X,e4⟩:=g 1 l (by rw[D];rfl);subst X em;have ag:=y.o.1 Y Qo l (by rw[<-Hd.o,D];simp);have p:=HY tb T (k+1) l w2 Qo Qo (i.o.t.tr (Zg _));have ah:=h3 c l D e2;rw[show decide ((T l).kind=1/\(T l).kids=[])=false by rw[decide_eq_false_iff_not];exact ah]at p;have O:=hyd p;clear g h1 h2 h3 p ah D e2 B C;go_wp2_with fail;apply O.o.mono;rintro ee w3 ⟨rfl,rfl⟩;go_wp2_with fail;apply(n.o w3 rfl).mono;rintro ee w5 ⟨T5,n5,v5,S5,rfl,a⟩;go_wp2;go_ret;exact⟨T5,n5,v5,S5,rfl,a⟩
   have qm:((m:Int)==2)=false:=Qp
   clear g h1 h2 h3 e2 B C;go_wp2_with fail;apply(n w2 rfl).mono;rintro ee w5 ⟨T5,n5,v5,S5,rfl,a⟩;go_wp2;go_ret;exact⟨T5,n5,v5,S5,rfl,a⟩
  have q2:((d.kind:Int)==2)=false:=Qp
  clear g h1 h2 h3 e2 B C;go_wp2_with fail;apply(n w2 rfl).mono;rintro ee w5 ⟨T5,n5,v5,S5,rfl,a⟩;go_wp2;go_ret;exact⟨T5,n5,v5,S5,rfl,a⟩
def TW.form{M:Nat}(h:TW tb base T (N+1) M v vr S w):∃g cap,v=sL g (N+1) cap:=by
 let⟨m,b,_⟩:=h.o;rcases b.2 with ⟨h1,h2⟩|⟨g,cap,a,h1,_⟩
 .omega
 exact⟨g,cap,h1⟩
def TW.letter{f:N_}(h:TW tb base (Yv T N 0 [] (λ_=>false)) (N+1) N (sL g (N+1) cap) vr S w)(aa:tb<base)(B:Nat)(Z:XZ B f w)(J:B<w.heap.size)(Y:B≠tb)(H:B≠g):
  TW tb base (Yv T N 0 [] f) (N+1) (N+1) (sL g (N+1) cap) vr (λk=>S k\/k=B) (w.setCell (a_ g (N*5+1)) (sL B 256 256)):=by
 have D:=(h.blk g rfl).1;let⟨m,C,u⟩:=h.o;let⟨w',l⟩:=nam (w.setCell (a_ g (N*5+1)) (sL B 256 256));have r:∀q,q≠g->w'.heap[q]?=w.heap[q]?:=λq b=>by rw[l];exact Zq w (a_ g (N*5+1)) _ q (λe=>b e)
 have p:w'.heap.size=w.heap.size:=by rw[l,Zz]
 have v:Wk S w w':=λq b=>r q (λe=>(h.s q b).2.2 (by rw[e];rfl))
 have n:∀i,i<N->Yv T N 0 [] f i=Yv T N 0 [] (λ_=>false) i:=λi d=>by rw[WZ d Qs,WZ d Qs]
 rw[<-l];refine⟨h.c.block (r tb Qo),⟨⟨λi=>if i=N then sL B 256 256 else m.vin i,m.ka,m.kc⟩,?_,?_⟩,λq b=>?_⟩
 .have:=(C.stored (N*5+1) (sL B 256 256)).1;rw[K7 (Tl _ m) N 1 Qo Qo,<-l]at this;rw[Sy (E:=λi=>if i=N then (LM (Yv T N 0 [] (λ_=>false)) m N).set 1 (sL B 256 256) else LM (Yv T N 0 [] (λ_=>false)) m i) (λi d=>?_)]
  .exact this
  by_cases e:i=N
  .subst e;simp only[dB,LM,YP];rfl
  simp only[e,eU,LM,n i Qo]
 .refine⟨λi d=>?_,λi d w2 h2=>?_,λi d _ h0=>?_⟩
  .by_cases e:i=N
   .simp only[e,dB];rfl
   simp only[e,eU];exact u.o i d
  .have e:(Yv T N 0 [] f i).kids=(Yv T N 0 [] (λ_=>false) i).kids:=by
    by_cases e:i=N
    .subst e;rw[YP,YP]
    rw[n i Qo]
   rw[e];exact u.k i d w2 (v.trans (λk t=>h2 k (Or.inl t)))
  by_cases e:i=N
  .subst e;refine⟨some (a_ B 0),256,by simp only[dB],λw2 h2 j y=>⟨B,0,rfl,?_⟩⟩;rw[YP,eZ (w:=w) (a:=(a_ B (0+j))) ((h2 B (Or.inr rfl)).trans (r B H)),Zn];exact(Z j y).1
  rw[n i Qo]at h0 ⊢;let⟨z,A,x,e2⟩:=u.i i d Qo h0;exact⟨z,A,by simp only[e,eU];exact x,λw2 h2=>e2 w2 (v.trans (λk t=>h2 k (Or.inl t)))⟩
 rcases b with b|b
 .exact⟨by rw[p];exact(h.s q b).1,(h.s q b).2⟩
 subst b;exact⟨by rw[p];exact J,Y,λe=>H (Zh e).symm⟩
def Sz{f:N_}(Y:VV tb base T N v vr S 1 w)(J:TW tb base (Yv T N 0 [] (λ_=>false)) (N+1) N (sL g (N+1) cap) vr (λk=>S k\/False) w1)(tf:TF tb v (sL g (N+1) cap) S S w w1)(z:Bl w1 w2){B:Nat}(Z:XZ B f w2)(H:B<w2.heap.size)(aa:w1.heap.size<=B)(hf:∀b,b<256->f b=F b):
  Yp tb base T N v vr S (.lit F) 1 w (.returned (I6 (N:Nat))) (w2.setCell (a_ g (N*5+1)) (sL B 256 256)):=by
 have l:=J.blk g rfl;have d:=Y.b;have h:=tf.b.size;have j:=J.c.lt;refine⟨Yv T N 0 [] F,N,_,λk=>(S k\/False)\/k=B,rfl,(J.below z).letter d B (Z.congr hf) H Qo Qo,(((tf.trans (TF.of _ S Qo z)).poke Qo (N*5+1) _).sub (λk a=>?_)),Y.r.add Qs Qo Qs,IP T N F,λi e=>WZ e Qs,Zg _⟩;rcases a with (a|a)|a
 .exact Or.inl a
 .exact a.elim
 exact Or.inr Qo
def I2{t:Tq}(z:UC t)(H:t.t.kd=1):∃c w,t.t.w=c::w/\c≠40:=by
 let⟨c,w,b,_,_,a,_⟩:=WS z.1;exact⟨c,w,b,λe=>by have:=a.1 e;omega⟩
def D9{t:Tq}(ht:UC t)(aA:t.t.kd=1)(tb base:Nat)(s:ByteArray)(T:Nat->Nd)(N:Nat)(v vr:Value)(S:Nat->Prop)(w:World)(aB:s.data.toList=t.t.w)(hs:s.size<=40)(hp:VV tb base T N v vr S 1 w):
  Cp 181 #[pT tb,.string s] w (Yp tb base T N v vr S (.lit t.f) 1 w):=by
 have L:=Lu;let⟨c,r0,hw,z⟩:=I2 ht aA;have hd:s.data.toList.drop 0=c::r0:=by rw[Zw,aB,hw]
 let⟨ay,M,ap⟩:=YT hd;have aw:((s[0].toNat:Int)==40)=false:=by rw[M];exact Yl z
 have hN:=hp.n;have i:=Ly tb base T N v vr S (λ_=>False) 0 (sN) [] w hp.t (Jz.nil w) (λk hk=>hk.elim) Qs Qs hp.b hp.s Qo Qs;have HN:=hyd i;have HP:=hyd hp;let⟨F,hF⟩:=nam t.f;have al:Hid (P4 (c::r0) F):=by show P4 _ _;rw[<-hw,hF];exact ht.2.1 aA
 rw[<-hF];have W:Hid (s.data.toList=c::r0):=by show _=_;rw[aB,hw]
 have d:=hyd M;clear i hp hF aB hd ap ht aA hw z M;go_enter func181,ntmps181;go_wp2_with fail;apply HN.o.mono;rintro ee w1 ⟨v1,rfl,r,ai⟩;obtain⟨g,cap,rfl⟩:=r.form;have Q:=hyd2 r ai;have E:Hid (∀w2,Bl w1 w2->w2.cell? (a_ tb 0)=some (sL g (N+1) cap)/\(∃u,w2.cell? (a_ g (N*5+1))=some u)/\w2.frozen? (a_ g (N*5+1))=false):=λw2 h=>by
  have t2:=r.below h;let⟨m,o1,_⟩:=t2.o;refine⟨(t2.c 0 _ rfl).1,⟨m.vin N,?_⟩,o1.frozenAt _⟩;rw[o1.cellAt _ Qo,UK (Tl _ _) N 1 Qo Qo];rfl
 clear r ai HN;have az:(N:Int)<N+1:=Qo
 rcases al with ⟨Y,hf⟩|⟨c',v',r',G,ag,ah,au,A,hf⟩|⟨e,G,C⟩
 .have X:((s[0].toNat:Int)==46)=true:=by rw[d.o,(gE Y).1];rfl
  have Hf:=hyd hf;clear Y hf;go_wp2;clear L
  go_loopw [7] (λx w'=>∃b:Nat,b<=256/\x=I6 b/\XZ w1.heap.size (λy=>decide (y<b)&&(y != 10)) w'/\Bl w1 w'/\w1.heap.size<w'.heap.size) (λx _=>256-(intOf x).toNat)
  .exact⟨0,Qo,rfl,(XZ.blank w1 _).congr (λy _=>Qs),(Zk _ _).alloc (Zg _) _,Qs⟩
  obtain⟨b,hb,rfl,a,R,ae⟩:=hrel;by_cases ac:b<256
  .have av:(b:Int)<256:=Qo
   let⟨j,ao⟩:=a b ac;have h:=a.set b ac (b != 10);have an:((b:Int) != 10)=(b != 10):=by
    by_cases e:b=10
    .subst e;rfl
    rw[bne_iff_ne.2 e,bne_iff_ne.2 (show(b:Int)≠10 by omega)]
   let⟨V,hV⟩:=nam ((b != 10));rw[<-hV]at h an;have HV:=hyd hV;have aj:=hyd h;clear hV a h;go_wp2;go_roundw
   .refine⟨b+1,Qo,Qg,aj.o.congr (λy _=>?_),R.trans (Yf _ _ _ _),by rw[Zz];exact ae⟩;by_cases e1:y=b
    .subst e1;simp[HV.o]
    by_cases e2:y<b
    .simp[e1,e2,Nat.lt_succ_of_lt e2]
    simp[e1,e2,show ¬y<b+1 by omega]
   simp[intOf];omega
  have ax:¬(b:Int)<256:=Qo
  let⟨k0,⟨u1,k1⟩,k2⟩:=E.o wr R;have U:=hyd a;have ak:Hid (b=256):=by show _=_;omega
  clear a;go_wp2;go_ret;exact Sz HP.o Q.o.1 Q.o.2 R U.o ae (Zg _) (λy hy=>by rw[Hf.o y hy,ak.o];simp[hy])
 .have j:=(gE G).1;have X:((s[0].toNat:Int)==46)=false:=by rw[d.o,j];exact Yl ag
  have am:((s[0].toNat:Int)==91)=false:=by rw[d.o,j];exact Yl ah
  have h1:=A [];rw[dv]at h1;let⟨v0,v1,_,_⟩:=Rf.jr h1;obtain⟨vn,rfl⟩:∃vn:Nat,v'=vn:=⟨v'.toNat,Qo⟩;have af:vn<256:=Qo
  have HO:Hid (∀w2,Cp 159 #[.string s,I6 (0:Nat)] w2 λe w'=>e=.returned (.tuple #[I6 (vn:Int),I6 ((0+(c::r0).length:Nat):Int)])/\∃q,w'=w2.drewN q):=λw2=>Fj s 0 vn _ w2 hs (by rw[Zw,W.o];exact h1)
  have Hf:=hyd hf;clear G ag ah au A hf h1 j;go_wp2_with fail;apply(HO _).mono;rintro ee w2 ⟨rfl,q,rfl⟩;have l:XZ w1.heap.size (λ_=>false) ((w1.alloc (.cells blank 4)).drewN q):=(XZ.blank w1 _).drewN q;have ab:Bl w1 ((w1.alloc (.cells blank 4)).drewN q):=((Zk _ _).alloc (Zg _) _).trans (WC _ _ _);let⟨w3,P⟩:=nam ((w1.alloc (.cells blank 4)).drewN q);have aq:w1.heap.size<w3.heap.size:=by rw[P];simp
  rw[<-P]at l ab ⊢;let⟨j,ao⟩:=l vn af;have H:=l.set vn af true;have I:Bl w1 (w3.setCell (a_ w1.heap.size vn) (.bool true)):=ab.trans (Yf _ _ _ _);let⟨w4,p⟩:=nam (w3.setCell (a_ w1.heap.size vn) (.bool true));have ar:w1.heap.size<w4.heap.size:=by rw[p,Zz];exact aq
  rw[<-p]at H I;let⟨k0,⟨u1,k1⟩,k2⟩:=E.o w4 I;have U:=hyd H;have H4:=hyd p;clear l H P p L;go_wp2_with (first|(with_reducible apply gld 114;refine Ya.out ?_));refine⟨?_⟩;rw[<-H4.o];go_wp2;go_ret;exact Sz HP.o Q.o.1 Q.o.2 I U.o ar (Zg _) (λy hy=>by
   rw[Hf.o y hy];by_cases e:y=vn
   .simp[e]
   have:¬(y:Int)=(vn:Int):=Qo
   simp[e,this])
 have X:((s[0].toNat:Int)==46)=false:=by rw[d.o,(gE G).1];rfl
 have am:((s[0].toNat:Int)==91)=true:=by rw[d.o,(gE G).1];rfl
 let⟨fa,O⟩:=C [] 0;rw[dv]at O;have HO:Hid (∀w2,Cp 160 #[.string s,I6 (0:Nat)] w2 λe' w'=>e'=.returned (.tuple #[.slice (some (a_ w2.heap.size 0)) 256 256,I6 ((0+(e.length+1):Nat):Int),I6 fa])/\XZ w2.heap.size F w'/\Bl w2 w'):=λw2=>Fp s 0 _ fa F w2 hs (by rw[W.o,G];exact O)
 clear G C O;go_wp2_with fail;apply(HO _).mono;rintro ee w2 ⟨rfl,a,J⟩;have K:=box_bel w1 (.cells blank 4);have R:=K.trans (J.mono K.size);have hs2:=J.size;have D:(w1.alloc (.cells blank 4)).heap.size=w1.heap.size+1:=Qs
 let⟨B,Z⟩:=nam ((w1.alloc (.cells blank 4)).heap.size);rw[<-Z]at a hs2 D ⊢;let⟨k0,⟨u1,k1⟩,k2⟩:=E.o w2 R;have U:=hyd a;have aa:B<w2.heap.size:=Ze w2 _ (a 0 Qo).1;clear a Z J K L;go_wp2;go_ret;have a:=U.o;rw[D]at a aa;exact Sz HP Q.o.1 Q.o.2 R a aa Qo (λy hy=>rfl)
def Ar{f:Nat}(h:Pp f 0 ts e)(hz:e.sz=0):e=.eps:=by
 cases f with
 |zero=>exact absurd h (by simp[Pp])
 |succ f=>
  have c:∀x:Rx,x.nz.sz=0->x.nz=.eps:=λx d=>by
   rw[Rx.nz_sz]at d;unfold Rx.nz;rw[dF d]
  rcases h with ⟨q,_,_,_,rfl⟩|⟨a,inn,b,e0,_,_,_,_,_,_,rfl⟩|⟨q,t,e0,_,_,_,_,rfl⟩
  .simp[Rx.sz]at hz
  .exact c _ hz
  exact c _ hz
variable {ee:Ending}{e':Rx}
def Yp.eq(h:Yp tb base T N v vr S e K w ee w')(z:XU e e')(H:K<=K'):Yp tb base T N v vr S e' K' w ee w':=by
 obtain⟨T',n,v',S',h1,h2,h3,a,b,c,d⟩:=h;exact⟨T',n,v',S',h1,h2,h3,a,b.eq z,c,Qo⟩
def VV.less(h:VV tb base T N v vr S K w)(z:K'<=K):VV tb base T N v vr S K' w:=⟨h.t,h.r,h.b,h.s,by have:=h.n;omega⟩
def VV.below(h:VV tb base T N v vr S K w)(z:Bl w w'):VV tb base T N v vr S K w':=⟨h.t.below z,h.r,h.b,by have:=z.size;have:=h.s;omega,h.n⟩
def Yp.from(h:Yp tb base T N v vr S e K w1 ee w')(z:Bl w w1)(H:tb<w.heap.size):Yp tb base T N v vr S e K w ee w':=by
 obtain⟨T',n,v',S',h1,h2,h3,a,b,c,d⟩:=h;exact⟨T',n,v',S',h1,h2,(TF.of v S Qo z).trans h3,a,b,c,d⟩
def Jh{f:Nat}(h:Pp f 0 ts e)(hz:e.sz=0):Ml ts e:=by
 intro tb base s T N v vr S w d hs g;obtain⟨G,j⟩:=Kj h;have y:1<=s.size:=by
  have:=Ki h;rw[<-d]at this;simpa using this
 have h3:=J5 (P:=e.sz) y;obtain⟨K,m⟩:=nam (WB s.size e.sz);rw[<-m]at g h3 ⊢;have u:=Ar h hz;subst u;rw[<-d]at j;have HS:=hyd ((N9 G).2 s _ w hs j);have l:=hyd g;have A:=g.n;have z:=g.t.c.lt;clear h j d m hz g;go_enter func147,ntmps147;go_wp2_with fail;apply HS.o.mono;rintro ee w1 ⟨rfl,o⟩;have a:=l.o.below o;have i:=hyd ((GS.first a).node (P:=λ_=>False) (Jz.nil w1) (λk x=>x.elim) a.b a.s 1 Qo Qo Qs Qs Qo Qs);have q:=hyd (In T N a.r.w);clear a HS l;go_wp2_with fail;apply i.o.mono;rintro ee w2 ⟨v2,rfl,p,_⟩;go_wp2_with fail;go_ret;exact(p.post q Qo).from o z
def BG{f:Nat}{inn:List Tq}(H:zB inn e)(tb base:Nat)(s:ByteArray)(T:Nat->Nd)(N:Nat)(v vr:Value)(S:Nat->Prop)(w:World)(z:s.data.toList=40::(tx inn++[41]))(hs:s.size<=40)(J:VV tb base T N v vr S (WB s.size e.sz) w)(_h:Pp f 2 inn e):
  Cp 181 #[pT tb,.string s] w (Yp tb base T N v vr S e (WB s.size e.sz) w):=by
 have k:s.data.toList.drop 0=40::(tx inn++[41]):=by rw[Zw,z]
 obtain⟨p,d,i⟩:=YT k;have o:((s[0].toNat:Int)==40)=true:=by rw[d];rfl
 have a:s.size=(tx inn).length+2:=by
  have:s.data.toList.length=(tx inn).length+2:=by rw[z];simp
  simpa using this
 have h2:1<=s.size-1:=Qo
 have j:(s.extract 1 (s.size-1)).data.toList=tx inn:=by
  rw[TH,z,a,show(tx inn).length+2-1=(tx inn).length+1 by omega,ZK,ZL,Zw,eR]
 have c:(s.extract 1 (s.size-1)).size=s.size-2:=by
  have:(s.extract 1 (s.size-1)).data.toList.length=(tx inn).length:=by rw[j]
  have r:(s.extract 1 (s.size-1)).size=(tx inn).length:=by simpa using this
  omega
 have g:WB (s.size-2) e.sz+2<=WB s.size e.sz:=by
  have:=Oj (L:=s.size-2) (t:=2) (P:=e.sz) Qo;rw[show s.size-2+2=s.size by omega]at this;exact this
 have l:Hid (Cp 91 #[pT tb,.string (s.extract 1 (s.size-1))] w (Yp tb base T N v vr S e (WB s.size e.sz) w)):=by
  refine(H tb base _ T N v vr S w j Qo (by rw[c];exact J.less g)).mono ?_;intro ee w' h;rw[c]at h;exact h.eq (XU.refl _) g
 generalize WB s.size e.sz=K at *;clear H z k d i j c g J a;go_enter func181,ntmps181;go_wp2_with fail;apply l.o.mono;rintro ee w1 ⟨n,q,v5,m,rfl,b⟩;go_wp2_with fail;go_ret;exact⟨n,q,v5,m,rfl,b⟩
def Pc{f:Nat}(h:Pp f 0 ts e)(hz:e.sz≠0)(H:Rf.split (tx ts)=some (tx ts).length)
  (J:∀(tb base:Nat) (s:ByteArray) (T:Nat->Nd) (N:Nat) (v vr:Value) (S:Nat->Prop) (w:World),s.data.toList=tx ts->s.size<=40->VV tb base T N v vr S (WB s.size e.sz) w->Cp 181 #[pT tb,.string s] w (Yp tb base T N v vr S e (WB s.size e.sz) w)):Ml ts e:=by
 intro tb base s T N v vr S w b hs o;obtain⟨G,n⟩:=Kj h;rw[<-b]at n H;have j:s.data.toList.length=s.size:=Qs
 rw[j]at H;have HS:=hyd ((N9 G).2 s _ w hs n);have p:Hid (∀w',Bl w w'->Cp 181 #[pT tb,.string s] w' (Yp tb base T N v vr S e (WB s.size e.sz) w')):=λw' d=>J tb base s T N v vr S w' b hs (o.below d)
 have u:=o.t.c.lt;generalize WB s.size e.sz=K at *;obtain⟨z,k⟩:=nam e.sz;rw[<-k]at HS hz;have y:((z:Int)==0)=false:=Qp
 have m:=hyd H;clear h n b o J k H;go_enter func147,ntmps147;go_wp2_with fail;apply HS.o.mono;rintro ee w1 ⟨rfl,d⟩;go_wp2_with fail;apply(Ub s _ _ hs m).mono;rintro ee w2 ⟨rfl,g⟩;have i:=d.trans (g.mono d.size);have l:=hyd (p w2 i);clear p d g;go_wp2_with fail;apply l.o.mono;rintro ee A ⟨r,x,v5,q,rfl,a⟩;go_wp2_with fail;go_ret;exact Yp.from ⟨r,x,v5,q,rfl,a⟩ i u
end
section
open Bm
variable {l:List (N_)}{K P R b c gb k:Nat}{F:N_}{Ns nd ti tr:Nat->Nat}{w w':World}
def ME{a d:Nat}(hb:b<K)(hd:d<K)(h:a*K+b=c*K+d):a=c/\b=d:=by
 have h1:(a*K+b)/K=a:=by rw[ed,Nat.mul_add_div (by omega),eX hb,eP]
 have h2:(c*K+d)/K=c:=by rw[ed,Nat.mul_add_div (by omega),eX hd,eP]
 have:a=c:=by rw[<-h1,<-h2,h]
 subst this;exact⟨rfl,by omega⟩
def WU.det{A:(Nat->Bool)->Nat->Nat->Bool}{ls:List Nat}{s:Nat}{t:List Int}(h:WU A F ls s k l t):
  ∀ {s' k':Nat}{l':List (Nat->Bool)}{t':List Int},WU A F ls s' k' l' t'->t.length=t'.length->l=l'/\t=t':=by
 induction h with
 |first=>
  intro s' k' l' t' c a
  induction c with
  |first=>exact⟨rfl,rfl⟩
  |kind h hf hb hr ih=>simp at a
  |set h hs ih=>exact ih a
 |kind h hf hb hr ih=>
  rename_i s k l t f b;intro s' k' l' t' c a
  induction c with
  |first=>simp at a
  |kind h2 hf2 hb2 hr2 ih2=>
   rename_i n j m o i g;simp only[Zl,dN,Nat.add_right_cancel_iff]at a;obtain⟨rfl,rfl⟩:=ih h2 a;have e:=h.size.2.2.1;have e2:=h2.size.2.2.1;have k1:=(Zi.1 hb).1;have d:=(Zi.1 hb2).1;obtain⟨rfl,rfl⟩:=ME k1 d (e.symm.trans e2);rw[hf]at hf2;rw[hb]at hb2;cases hf2;cases hb2;exact⟨rfl,rfl⟩
  |set h2 hs ih2=>exact ih2 a
 |set h hs ih=>exact λc a=>ih c a
def WU.upto{A:(Nat->Bool)->Nat->Nat->Bool}{ls:List Nat}{s:Nat}{t:List Int}(h:WU A F ls s k l t)(n:Nat)(hn:n<t.length):
  ∃s' k' l' t' f b,WU A F ls s' k' l' t'/\t'.length=n/\l'[s']?=some f/\ls[k']?=some b/\Xp l' (A f b)<200:=by
 induction h with
 |first=>simp at hn
 |kind h hf hb hr ih=>
  rename_i s k l t f b;simp only[Zl,dN]at hn;by_cases e:n=t.length
  .exact⟨s,k,l,t,f,b,h,e.symm,hf,hb,hr⟩
  exact ih (by omega)
 |set h hs ih=>exact ih hn
def WU.no_more{A:(Nat->Bool)->Nat->Nat->Bool}{ls:List Nat}{t:List Int}(hK:0<ls.length)(h:WU A F ls l.length 0 l t)
  {s k:Nat}{l2:List (Nat->Bool)}{t2:List Int}{f:Nat->Bool}{b:Nat} (h2:WU A F ls s k l2 t2) (hl:t2.length=t.length) (hf:l2[s]?=some f) (hb:ls[k]?=some b):False:=by
 obtain⟨rfl,rfl⟩:=h2.det h hl;have a:=h.size.2.2.1;have e2:=h2.size.2.2.1;have k1:=(Zi.1 hb).1;obtain⟨e,_⟩:=ME k1 hK (e2.symm.trans a);have:=(Zi.1 hf).1;omega
def WU.not_both{A:(Nat->Bool)->Nat->Nat->Bool}{ls:List Nat}{t:List Int}(hK:0<ls.length)(h:WU A F ls l.length 0 l t)
  {s k:Nat}{l2:List (Nat->Bool)}{t2:List Int}{f:Nat->Bool}{b:Nat} (h2:WU A F ls s k l2 t2) (hf:l2[s]?=some f) (hb:ls[k]?=some b) (hr:200<=Xp l2 (A f b)):False:=by
 rcases dJ t2.length t.length with g|i|e
 .obtain⟨p,m,o,q,f',b',h3,d,c,a,j⟩:=h.upto _ g;obtain⟨rfl,rfl⟩:=h3.det h2 d;have k1:=(Zi.1 hb).1;have n:=(Zi.1 a).1;obtain⟨rfl,rfl⟩:=ME n k1 (h3.size.2.2.1.symm.trans h2.size.2.2.1);rw[hf]at c;rw[hb]at a;cases c;cases a;omega
 .exact WU.no_more hK h h2 i hf hb
 obtain⟨p,m,o,q,f',b',h3,d,c,a,_⟩:=h2.upto _ e;exact WU.no_more hK h h3 d c a
def WU.one_end{A:(Nat->Bool)->Nat->Nat->Bool}{ls:List Nat}{l2:List (Nat->Bool)}{t t2:List Int}(hK:0<ls.length)(h:WU A F ls l.length 0 l t)(h2:WU A F ls l2.length 0 l2 t2):l=l2/\t=t2:=by
 rcases dJ t2.length t.length with e|f|d
 .obtain⟨j,g,i,k,f',b',h3,c,b,a,_⟩:=h.upto _ e;exact(WU.no_more hK h2 h3 c b a).elim
 .exact h.det h2 f.symm
 obtain⟨j,g,i,k,f',b',h3,c,b,a,_⟩:=h2.upto _ d;exact(WU.no_more hK h h3 c b a).elim
open Go.RowKit
structure GR (gb P R:Nat) (tr:Nat->Nat) (Ts:Nat->Nat->Nd) (Ns:Nat->Nat) (ti nd:Nat->Nat) (w:World):Prop where
 t:∃a c,w.cell? ⟨gb,0,none⟩=some (.slice a R c)/\∀r,r<R->∃b o,a=some ⟨b,o,none⟩/\w.cell? ⟨b,o+r,none⟩=some (.pointer (some ⟨tr r,0,none⟩))/\TR (tr r) (Ts r) (Ns r) w
 p:∃a c,w.cell? ⟨gb,1,none⟩=some (.slice a P c)/\IL a (fun i=>(ti i:Int)) P w
 n:∃a c,w.cell? ⟨gb,2,none⟩=some (.slice a P c)/\IL a (fun i=>(nd i:Int)) P w
 ok:∀p,p<P->ti p<R/\nd p<Ns (ti p)/\(Ts (ti p) (nd p)).kind=0
variable {Ts:Nat->Nat->Nd}
def GR.gl(h:GR gb P R tr Ts Ns ti nd w):GL gb P R w:=by
 obtain⟨a,c,h0,_⟩:=h.t;obtain⟨b,c1,h1,_⟩:=h.p;exact⟨⟨a,c,h0⟩,b,c1,h1⟩
def GR.below(h:GR gb P R tr Ts Ns ti nd w)(hW:Bl w w'):GR gb P R tr Ts Ns ti nd w':=by
 obtain⟨a,c,h0,m⟩:=h.t;obtain⟨f,c1,h1,q⟩:=h.p;obtain⟨g,c2,h2,s⟩:=h.n;have j:=Ze w _ h0;have e:∀k,w'.cell? ⟨gb,k,none⟩=w.cell? ⟨gb,k,none⟩:=λk=>hW.cell (p:=⟨gb,k,none⟩) j
 refine⟨⟨a,c,by rw[e];exact h0,λr l=>?_⟩,⟨f,c1,by rw[e];exact h1,q.below hW⟩,⟨g,c2,by rw[e];exact h2,s.below hW⟩,h.ok⟩;obtain⟨b,o,i,c3,d⟩:=m r l;exact⟨b,o,i,by rw[hW.cell (p:=⟨b,o+r,none⟩) (Ze w _ c3)];exact c3,d.below hW⟩
def Lz(gb P R:Nat)(tr:Nat->Nat)(Ts:Nat->Nat->Nd)(Ns ti nd:Nat->Nat)(p b:Nat)(w:World)(hP:P<=1000000)(hR:R<=1000000)(hNs:∀r,r<R->Ns r<=1000000)(hG:GR gb P R tr Ts Ns ti nd w)(hp:p<P)(hb:b<256):
  Cp 116 #[.pointer (some ⟨gb,0,none⟩),.int .i64 p,.int .i64 b] w λe w'=>e=.returned (.bool ((Ts (ti p) (nd p)).inn b))/\Bl w w':=by
 obtain⟨H,x0,c0,l⟩:=hG.t;obtain⟨I,x1,c1,m⟩:=hG.p;obtain⟨J,x2,c2,o⟩:=hG.n;obtain⟨k1,i,q⟩:=hG.ok p hp;obtain⟨g1,W,z,u⟩:=m p hp;obtain⟨g2,X,e2,v⟩:=o p hp;subst z e2;obtain⟨t,g⟩:=nam (ti p);obtain⟨n,d⟩:=nam (nd p);simp only[<-g,<-d]at u v k1 i q ⊢;obtain⟨M,Y,A,K,E⟩:=l t k1;subst A;have h:=hNs t k1;obtain⟨U,nc,x,f⟩:=E;obtain⟨nb,F,G,S,T,B,r,_,_,c⟩:=f n i;obtain⟨N,O,C,j⟩:=c q;subst B C;obtain⟨ib,Q,D,y⟩:=j b hb;subst D;have L:=r 1 _ rfl;obtain⟨s,a⟩:=nam (Ns t);rw[<-a]at h i x;obtain⟨V,k⟩:=nam ((Ts t n).inn b);rw[<-k]at y ⊢;have Z:(p:Int)<P:=by omega
 have⟨q2,q3⟩:(t:Int)<R/\(n:Int)<s:=by omega
 have q4:(b:Int)<256:=by omega
 clear l m o hG f c j r g d a k hNs;go_enter func116,ntmps116;go_wp2_with fail
 go_quiet (fail)
 go_wp2_with fail;go_ret;exact⟨rfl,WC _ _ _⟩
end
