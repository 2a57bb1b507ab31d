import Derived.Deep.MidRow
import Derived.Test.YtoaaklhpmhjhkaaGreatC12
set_option maxRecDepth 100000
set_option maxHeartbeats 4000000
set_option linter.all false
namespace Go.Proofs.YtoaaklhpmhjhkaaGreat
open Go.Proofs.Tryz
open Go.RowKit
def Yo(f:Nat->Bool):List Value:=(List.range 256).map λk=>.bool (f k)
def YX(f:N_):(Yo f).length=256:=by simp[Yo]
def Fo(f:N_)(j:Nat)(v:Value)(h:(Yo f)[j]?=some v):j<256/\v=.bool (f j):=by
 let⟨b,h2⟩:=Zi.1 h;have a:j<256:=by rw[YX]at b;exact b
 refine⟨a,?_⟩;rw[<-h2];simp[Yo]
def NA(f:N_)(j:Nat)(h:j<256):(Yo f)[j]?=some (.bool (f j)):=by simp[Yo,h]
def Xx(f:N_):∀v∈Yo f,v.oneCell'=true:=by
 intro v a;simp only[Yo,eV]at a;obtain⟨j,_,rfl⟩:=a;rfl
def NV(w:World):(zeroValue 251).run prog w=.ok (.agg (Yo λ_=>false).toArray) w:=by
 have h:(prog.info? 251).bind (·.zero)=some (.agg (Yo λ_=>false).toArray):=Qk
 cases hq:prog.info? 251 with
 |none=>rw[hq]at h;cases h
 |some i=>rw[hq]at h;simp at h;simp[zeroValue,typeInfo,hq,h]
def YF:(prog.info? 251).map (·.size)=some 256:=Qk
variable {tmps:Array Value}{fn:Func}{fa kd le mo pl:Int}{B g j:Nat}{v:Value}{w w':World}
def XZ.range{f:N_}(h:XZ g f w):w.rangeAt g 0 (Yo f):=λj v b=>by
 obtain⟨a,rfl⟩:=Fo f j v b;rw[Zn];exact(h j a).1
def XZ.boxed(w:World)(f:N_)(t:TypeId):XZ w.heap.size f (w.alloc (.cells (Yo f).toArray t)):=λk a=>by
 refine⟨?_,?_⟩
 .rw[Zm];simp[NA f k a]
 go_simp
def XZ.there{f:N_}(h:XZ g f w):w.there g 0 256:=λj a=>by
 rw[Zn];exact⟨by rw[(h j a).1];rfl,(h j a).2⟩
def XZ.alloc{f:N_}(h:XZ g f w)(o:Obj):XZ g f (w.alloc o):=λk a=>by
 have b:=Ze w _ (h k a).1;exact⟨by rw[fq _ _ _ b];exact(h k a).1,by rw[World.frozen?_alloc_past _ _ _ b];exact(h k a).2⟩
def XZ.other{z:Nat}{f:N_}(h:XZ g f w)(H:g≠z)(v:Value):XZ g f (w.setCell (a_ z j) v):=λk d=>by
 let⟨a,c⟩:=h k d;exact⟨by rw[fB _ _ _ _ (by intro b;cases b;exact H rfl)];exact a,by rw[fw];exact c⟩
def LV{p:Tmp}{z:TypeId}(h:fn.results=#[.cell p z])(tmps:Array Value)(P:Program)(w:World):
  (results fn tmps).run P w=((asAddr (tmps.getD p undef)).run P w).andThen λa w₁=>(loadVar z a).run P w₁:=by
 simp only[results,h];simp[fE,Result.andThen]
variable {u:Tmp}
def LW{p x:Tmp}{z:TypeId}(h:fn.results=#[.cell p z,.tmp u,.tmp x])(tmps:Array Value)(P:Program)(w:World):
  (results fn tmps).run P w=((asAddr (tmps.getD p undef)).run P w).andThen λa w₁=>((loadVar z a).run P w₁).andThen λv w₂=>.ok (.tuple #[v,tmps.getD u undef,tmps.getD x undef]) w₂:=by
 simp only[results,h];simp[fE,Result.andThen]
def RJ{p:Tmp}{z:TypeId}{P:Program}{ad:Addr}(h:fn.results=#[.cell p z])(J:tmps.getD p undef=.pointer (some ad))(H:(loadVar z ad).run P w=.ok v w):
  (results fn tmps).run P w=.ok v w:=by
 rw[LV h,J];simp[asAddr,H]
def YL{p x:Tmp}{z:TypeId}{P:Program}{ad:Addr}{b c:Value}(h:fn.results=#[.cell p z,.tmp u,.tmp x])(Z:tmps.getD p undef=.pointer (some ad))(Y:(loadVar z ad).run P w=.ok v w)(H:tmps.getD u undef=b)(J:tmps.getD x undef=c):
  (results fn tmps).run P w=.ok (.tuple #[v,b,c]) w:=by
 rw[LW h,Z];subst H;subst J;simp[asAddr,Y]
def Tv(f:Nat->Bool)(a b:Int)(n:Nat):Nat->Bool:=λk=>f k || (decide (k<n)&&(decide (a<=(k:Int))&&decide ((k:Int)<=b)))
def Wd(f:N_)(a b:Int)(w:World):
  Cp 213 #[.agg (Yo f).toArray,I6 a,I6 b] w λe w'=>e=.returned (.agg (Yo (Pg.gY f a b)).toArray)/\Bl w w':=by
 have hz:=NV (w.alloc (Obj.cells (Yo f).toArray 251));have n:=(XZ.boxed w f 251).alloc (Obj.cells (Yo λ_=>false).toArray 251);have d:=XZ.boxed (w.alloc (Obj.cells (Yo f).toArray 251)) (λ_=>false) 251;have q:Bl w ((w.alloc (Obj.cells (Yo f).toArray 251)).alloc (Obj.cells (Yo λ_=>false).toArray 251)):=((Zk _ _).alloc (Zg _) _).alloc Qs _;rw[show(w.alloc (Obj.cells (Yo f).toArray 251)).heap.size=w.heap.size+1 by simp]at d;go_enter func213,ntmps213;go_wp2
 go_loopw [7] (λi w'=>∃k:Nat,k<=256/\i=I6 k/\XZ w.heap.size (Tv f a b k) w'/\XZ (w.heap.size+1) (λ_=>false) w'/\Bl w w') (λi _=>256-(intOf i).toNat)
 .exact⟨0,Qo,rfl,n.congr (λk _=>by simp[Tv]),d,q⟩
 obtain⟨k,z,rfl,c,l,m⟩:=hrel;by_cases h:k<256
 .let⟨t,u⟩:=c k h;by_cases ha:a<=(k:Int)
  .by_cases r:(k:Int)<=b
   .have o:=c.set k h true;have p:=l.other (j:=k) (show w.heap.size+1≠w.heap.size by omega) (.bool true);go_wp2;go_roundw
    .refine⟨k+1,Qo,Qg,o.congr (λj _=>?_),p,m.trans (Yf _ _ _ _)⟩;by_cases e:j=k
     .subst e;simp[Tv,ha,r]
     simp only[dG e,Tv,show decide (j<k+1)=decide (j<k) by simp;omega]
    simp[intOf];omega
   go_wp2;go_roundw
   .refine⟨k+1,Qo,Qg,c.congr (λj _=>?_),l,m⟩;by_cases e:j=k
    .subst e;simp[Tv,r]
    simp only[Tv,show decide (j<k+1)=decide (j<k) by simp;omega]
   simp[intOf];omega
  go_wp2;go_roundw
  .refine⟨k+1,Qo,Qg,c.congr (λj _=>?_),l,m⟩;by_cases e:j=k
   .subst e;simp[Tv,ha]
   simp only[Tv,show decide (j<k+1)=decide (j<k) by simp;omega]
  simp[intOf];omega
 have x:=(c.congr (f':=Pg.gY f a b) (λj y=>by simp[Tv,Pg.gY,show j<k by omega])).range;have s:=l.there;go_wp2_with (first|(refine Zb rfl 251 _ rfl _ _ rfl (Yo (Pg.gY f a b)) _ x u_c rfl (by rw[YX];exact YF) ?_)|(refine Za rfl 251 _ _ rfl _ _ _ rfl rfl (by simpa[YX]using s) (by simpa[YX]using YF) (Zj (Xx _)) ?_));have g:=ZF (P:=prog) (wr.setCells (w.heap.size+1) 0 (Yo (Pg.gY f a b))) (w.heap.size+1) 0 251 (Yo (Pg.gY f a b)) _ (Zo _ _ _ _ (by rw[YX];exact s)) u_c rfl (by rw[YX];exact YF);refine Zr (v:=.agg (Yo (Pg.gY f a b)).toArray) ?_ rfl ⟨rfl,m.trans (Y6 _ _ 0 Qo _ _ _)⟩;exact RJ results213 (by simp[Act.put]) g
def UP(f:Nat->Bool)(n:Nat):Nat->Bool:=λk=>if k<n then !f k else f k
def Na(f:N_)(w:World):
  Cp 214 #[.agg (Yo f).toArray] w λe w'=>e=.returned (.agg (Yo λk=>!f k).toArray)/\Bl w w':=by
 have hz:=NV (w.alloc (Obj.cells (Yo f).toArray 251));have g:=(XZ.boxed w f 251).alloc (Obj.cells (Yo λ_=>false).toArray 251);have a:=XZ.boxed (w.alloc (Obj.cells (Yo f).toArray 251)) (λ_=>false) 251;have m:Bl w ((w.alloc (Obj.cells (Yo f).toArray 251)).alloc (Obj.cells (Yo λ_=>false).toArray 251)):=((Zk _ _).alloc (Zg _) _).alloc Qs _;rw[show(w.alloc (Obj.cells (Yo f).toArray 251)).heap.size=w.heap.size+1 by simp]at a;go_enter func214,ntmps214;go_wp2
 go_loopw [3] (λi w'=>∃k:Nat,k<=256/\i=I6 k/\XZ w.heap.size (UP f k) w'/\XZ (w.heap.size+1) (λ_=>false) w'/\Bl w w') (λi _=>256-(intOf i).toNat)
 .exact⟨0,Qo,rfl,g.congr (λk _=>by simp[UP]),a,m⟩
 obtain⟨k,x,rfl,d,o,p⟩:=hrel;by_cases c:k<256
 .let⟨n,r⟩:=d k c;have s:UP f k k=f k:=by simp[UP]
  rw[s]at n;have h:=d.set k c (!f k);have l:=o.other (j:=k) (show w.heap.size+1≠w.heap.size by omega) (.bool (!f k));go_wp2;go_roundw
  .refine⟨k+1,Qo,Qg,h.congr (λj _=>?_),l,p.trans (Yf _ _ _ _)⟩;by_cases e:j=k
   .subst e;simp[UP]
   simp only[dG e,UP,show(j<k+1)=(j<k) by simp;omega]
  simp[intOf];omega
 have t:=(d.congr (f':=λj=>!f j) (λj u=>by simp[UP,show j<k by omega])).range;have q:=o.there;go_wp2_with (first|(refine Zb rfl 251 _ rfl _ _ rfl (Yo λj=>!f j) _ t u_c rfl (by rw[YX];exact YF) ?_)|(refine Za rfl 251 _ _ rfl _ _ _ rfl rfl (by simpa[YX]using q) (by simpa[YX]using YF) (Zj (Xx _)) ?_));have b:=ZF (P:=prog) (wr.setCells (w.heap.size+1) 0 (Yo λj=>!f j)) (w.heap.size+1) 0 251 (Yo λj=>!f j) _ (Zo _ _ _ _ (by rw[YX];exact q)) u_c rfl (by rw[YX];exact YF);refine Zr (v:=.agg (Yo λj=>!f j).toArray) ?_ rfl ⟨rfl,p.trans (Y6 _ _ 0 Qo _ _ _)⟩;exact RJ results214 (by simp[Act.put]) b
def KY(f:N_)(k:Nat)(h:f k=true):∀n,k<n->0<Rf.i4 f n
 |0,hn=>Qo
 |n+1,hn=>by
  unfold Rf.i4;by_cases e:k=n
  .subst e;simp[h]
  have:=KY f k h n Qo;omega
def IA(f:N_)(w:World):
  Cp 197 #[.agg (Yo f).toArray] w λe w'=>e=.returned (.bool (Rf.i4 f 256==0))/\Bl w w':=by
 have j:=XZ.boxed w f 251;go_enter func197,ntmps197;go_wp2
 go_loop [3] (λi=>∃k:Nat,k<=256/\i=I6 k/\Hid (Rf.i4 f k=0)) (λi=>256-(intOf i).toNat)
 .exact⟨0,Qo,rfl,rfl⟩
 obtain⟨k,m,rfl,g⟩:=hrel;by_cases b:k<256
 .let⟨a,l⟩:=j k b;cases hf:f k
  .rw[hf]at a;have c:Hid (Rf.i4 f (k+1)=0):=by show _=_;simp[Rf.i4,hf,g.o]
   go_wp2
   go_round
   .exact⟨k+1,Qo,Qg,c⟩
   simp[intOf];omega
  rw[hf]at a;have h:=hyd (KY f k hf 256 b);go_wp2;go_ret;exact⟨YM (by have:=h.o;exact(dU.2 Qo).symm),(Zk _ _).alloc (Zg _) _⟩
 have d:k=256:=Qo
 subst d;go_wp2;go_ret;exact⟨YM (by rw[g.o];rfl),(Zk _ _).alloc (Zg _) _⟩
def YY(kd pl:Int)(f:Nat->Bool)(le mo fa:Int):List Value:=.int .i64 kd::.int .i64 pl::(Yo f++[.int .i64 le,.int .i64 mo,.int .i64 fa])
def XX(kd pl:Int)(f:N_)(le mo fa:Int):(YY kd pl f le mo fa).length=261:=by simp[YY,YX]
def PD(kd pl:Int)(f:N_)(le mo fa:Int):∀v∈YY kd pl f le mo fa,v.oneCell'=true:=by
 intro v a;simp only[YY,ZR,ZU,eM,or_false]at a;rcases a with rfl|rfl|h|rfl|rfl|rfl
 .rfl
 .rfl
 .exact Xx f v h
 .rfl
 .rfl
 rfl
def XH(w:World):(zeroValue 261).run prog w=.ok (.agg (YY 0 0 (λ_=>false) 0 0 0).toArray) w:=by
 have h:(prog.info? 261).bind (·.zero)=some (.agg (YY 0 0 (λ_=>false) 0 0 0).toArray):=Qk
 cases hq:prog.info? 261 with
 |none=>rw[hq]at h;cases h
 |some i=>rw[hq]at h;simp at h;simp[zeroValue,typeInfo,hq,h]
def Pz:(prog.info? 261).map (·.size)=some 261:=Qk
structure Yz (g:Nat) (kd pl:Int) (f:Nat->Bool) (le mo fa:Int) (w:World):Prop where
 at_:w.rangeAt g 0 (YY kd pl f le mo fa)
 free:w.there g 0 261
def UR(kd pl:Int)(f:N_)(le mo fa:Int):(YY kd pl f le mo fa)[0]?=some (I6 kd):=rfl
def Ng(kd pl:Int)(f:N_)(le mo fa:Int):(YY kd pl f le mo fa)[1]?=some (I6 pl):=rfl
def Nh(kd pl:Int)(f:N_)(le mo fa:Int)(j:Nat)(z:j<256):(YY kd pl f le mo fa)[2+j]?=some (.bool (f j)):=by
 rw[show 2+j=j+1+1 by omega];simp only[YY,eG];rw[Zv (by rw[YX];exact z),NA f j z]
def VP(kd pl:Int)(f:N_)(le mo fa:Int)(j:Nat):(YY kd pl f le mo fa)[258+j]?=[Value.int .i64 le,I6 mo,I6 fa][j]?:=by
 rw[show 258+j=(256+j)+1+1 by omega];simp only[YY,eG];rw[ZG (by rw[YX];omega),YX,show 256+j-256=j by omega]
def U6{f:N_}(h0:w.cell? (a_ g 0)=some (I6 kd))(h1:w.cell? (a_ g 1)=some (I6 pl))
  (h2:∀j,j<256->w.cell? (a_ g (2+j))=some (.bool (f j))) (h3:w.cell? (a_ g 258)=some (I6 le)) (z:w.cell? (a_ g 259)=some (I6 mo)) (H:w.cell? (a_ g 260)=some (I6 fa)):
  w.rangeAt g 0 (YY kd pl f le mo fa):=λj v a=>by
 have k:j<261:=by have:=(Zi.1 a).1;rw[XX]at this;exact this
 rw[Zn];rcases ZD j 2 with e|d
 .rcases ZD j 1 with h|h
  .have:j=0:=Qo
   subst this;rw[UR]at a;rw[h0];exact a
  have:j=1:=Qo
  subst this;rw[Ng]at a;rw[h1];exact a
 rcases ZD j 258 with c|b
 .obtain⟨i,rfl⟩:∃i,j=2+i:=⟨j-2,Qo⟩;rw[Nh _ _ _ _ _ _ i Qo]at a;rw[h2 i Qo];exact a
 obtain⟨i,rfl⟩:∃i,j=258+i:=⟨j-258,Qo⟩;rw[VP]at a;have:i=0\/i=1\/i=2:=Qo
 rcases this with rfl|rfl|rfl
 .rw[h3];exact a
 .rw[z];exact a
 rw[H];exact a
section
variable {g:Nat} {kd pl:Int} {f:N_} {le mo fa:Int} {w:World}
def Yz.c0(h:Yz g kd pl f le mo fa w):w.cell? (a_ g 0)=some (I6 kd):=by have:=h.at_ 0 _ (UR ..);rwa [Zn]at this
def Yz.c1(h:Yz g kd pl f le mo fa w):w.cell? (a_ g 1)=some (I6 pl):=by have:=h.at_ 1 _ (Ng ..);rwa [Zn]at this
def Yz.c2(h:Yz g kd pl f le mo fa w)(j:Nat)(z:j<256):w.cell? (a_ g (2+j))=some (.bool (f j)):=by have:=h.at_ (2+j) _ (Nh _ _ _ _ _ _ j z);rwa [Zn]at this
def Yz.c3(h:Yz g kd pl f le mo fa w):w.cell? (a_ g 258)=some (I6 le):=by have:=h.at_ (258+0) (I6 le) (by rw[VP];rfl);rwa [Zn]at this
def Yz.c4(h:Yz g kd pl f le mo fa w):w.cell? (a_ g 259)=some (I6 mo):=by have:=h.at_ (258+1) (I6 mo) (by rw[VP];rfl);rwa [Zn]at this
def Yz.c5(h:Yz g kd pl f le mo fa w):w.cell? (a_ g 260)=some (I6 fa):=by have:=h.at_ (258+2) (I6 fa) (by rw[VP];rfl);rwa [Zn]at this
def Yz.fr(h:Yz g kd pl f le mo fa w)(j:Nat)(z:j<261):w.frozen? (a_ g j)=false:=by have:=(h.free j z).2;rwa [Zn]at this
def Yz.set(h:Yz g kd pl f le mo fa w):w.rangeAt g 2 (Yo f):=λj v b=>by
 obtain⟨a,rfl⟩:=Fo f j v b;exact h.c2 j a
def Yz.setFree(h:Yz g kd pl f le mo fa w):w.there g 2 256:=λj a=>by
 have:=h.free (2+j) Qo;rwa [Zn]at this
def Ul(h:w.there g 0 261)(b k:Nat)(v:Value):(w.setCell (a_ b k) v).there g 0 261:=gr (o':=0) (n:=261) h b k [v]
def Yz.put2(h:Yz g kd pl f le mo fa w)(f':N_):Yz g kd pl f' le mo fa (w.setCells g 2 (Yo f')):=by
 refine⟨U6 ?_ ?_ (λj a=>?_) ?_ ?_ ?_,gr h.free _ _ _⟩
 .rw[fh _ _ _ _ _ (λ_ _=>Or.inl Qs)];exact h.c0
 .rw[fh _ _ _ _ _ (λ_ _=>Or.inl Qs)];exact h.c1
 .have:=Zo w g 2 (Yo f') (by rw[YX];exact h.setFree) j _ (NA f' j a);exact this
 .rw[fh _ _ _ _ _ (λ_ _=>Or.inr (by rw[YX];simp))];exact h.c3
 .rw[fh _ _ _ _ _ (λ_ _=>Or.inr (by rw[YX];simp))];exact h.c4
 rw[fh _ _ _ _ _ (λ_ _=>Or.inr (by rw[YX];simp))];exact h.c5
def Yb(w:World)(g i j:Nat)(v:Value)(h:i≠j):(w.setCell (a_ g i) v).cell? (a_ g j)=w.cell? (a_ g j):=
 fB _ _ _ _ (by intro e;cases e;exact h rfl)
def Yz.put3(h:Yz g kd pl f le mo fa w)(x:Int):Yz g kd pl f x mo fa (w.setCell (a_ g 258) (I6 x)):=by
 refine⟨U6 ?_ ?_ (λj a=>?_) ?_ ?_ ?_,Ul h.free _ _ _⟩
 .rw[Yb _ _ _ _ _ Qo];exact h.c0
 .rw[Yb _ _ _ _ _ Qo];exact h.c1
 .rw[Yb _ _ _ _ _ Qo];exact h.c2 j a
 .exact fy _ _ _ h.c3
 .rw[Yb _ _ _ _ _ Qo];exact h.c4
 rw[Yb _ _ _ _ _ Qo];exact h.c5
def Yz.put4(h:Yz g kd pl f le mo fa w)(x:Int):Yz g kd pl f le x fa (w.setCell (a_ g 259) (I6 x)):=by
 refine⟨U6 ?_ ?_ (λj a=>?_) ?_ ?_ ?_,Ul h.free _ _ _⟩
 .rw[Yb _ _ _ _ _ Qo];exact h.c0
 .rw[Yb _ _ _ _ _ Qo];exact h.c1
 .rw[Yb _ _ _ _ _ Qo];exact h.c2 j a
 .rw[Yb _ _ _ _ _ Qo];exact h.c3
 .exact fy _ _ _ h.c4
 rw[Yb _ _ _ _ _ Qo];exact h.c5
def Yz.put5(h:Yz g kd pl f le mo fa w)(x:Int):Yz g kd pl f le mo x (w.setCell (a_ g 260) (I6 x)):=by
 refine⟨U6 ?_ ?_ (λj a=>?_) ?_ ?_ ?_,Ul h.free _ _ _⟩
 .rw[Yb _ _ _ _ _ Qo];exact h.c0
 .rw[Yb _ _ _ _ _ Qo];exact h.c1
 .rw[Yb _ _ _ _ _ Qo];exact h.c2 j a
 .rw[Yb _ _ _ _ _ Qo];exact h.c3
 .rw[Yb _ _ _ _ _ Qo];exact h.c4
 exact fy _ _ _ h.c5
def Yz.boxed(w:World)(kd pl:Int)(f:N_)(le mo fa:Int)(t:TypeId):Yz w.heap.size kd pl f le mo fa (w.alloc (.cells (YY kd pl f le mo fa).toArray t)):=by
 refine⟨λj v b=>?_,λj a=>?_⟩
 .rw[Zn,Zm];simpa using b
 rw[Zn,Zm];refine⟨by simp[XX,a],?_⟩;go_simp
def Yz.alloc(h:Yz g kd pl f le mo fa w)(o:Obj):Yz g kd pl f le mo fa (w.alloc o):=⟨World.rangeAt_alloc h.at_ o,World.there_alloc h.free o⟩
def Yz.put(h:Yz g kd pl f le mo fa w)(H Z:Int)(f':N_)(J Y z:Int):Yz g H Z f' J Y z (w.setCells g 0 (YY H Z f' J Y z)):=
 ⟨Zo _ _ _ _ (by rw[XX];exact h.free),gr h.free _ _ _⟩
def Yz.far(h:Yz g kd pl f le mo fa w)(b o:Nat)(vs:List Value)(z:g≠b):Yz g kd pl f le mo fa (w.setCells b o vs):=
 ⟨World.rangeAt_setCells_apart h.at_ _ _ _ (Or.inl z),gr h.free _ _ _⟩
def Yz.far1(h:Yz g kd pl f le mo fa w)(b o:Nat)(v:Value)(z:g≠b):Yz g kd pl f le mo fa (w.setCell (a_ b o) v):=h.far b o [v] z
def Yz.below(h:Yz g kd pl f le mo fa w)(H:g<B)(z:Below B w w'):Yz g kd pl f le mo fa w':=
 ⟨λj v b=>by rw[z.cell (p:=(a_ g (0+j))) H];exact h.at_ j v b,λj a=>by rw[z.cell (p:=(a_ g (0+j))) H,z.frozen (p:=(a_ g (0+j))) H];exact h.free j a⟩
def Yz.load(h:Yz g kd pl f le mo fa w):(loadVar 261 (a_ g 0)).run prog w=.ok (.agg (YY kd pl f le mo fa).toArray) w:=
 ZF (P:=prog) w g 0 261 _ _ h.at_ underlying261 rfl (by rw[XX];exact Pz)
end
def CW(x y z:Value):(((YY 0 0 (λ_=>false) 0 0 0).set 0 x).set 1 y).set 260 z=x::y::(Yo (λ_=>false)++[I6 0,I6 0,z]):=by
 simp only[YY,List.set_cons_zero,List.set_cons_succ];rw[List.set_append_right _ _ (by rw[YX];omega),YX];rfl
def Sh(x y z:Int):(((YY 0 0 (λ_=>false) 0 0 0).set 0 (I6 x)).set 1 (I6 y)).set 260 (I6 z)=YY x y (λ_=>false) 0 0 z:=CW _ _ _
def NP(w:World):Yz w.heap.size 0 0 (λ_=>false) 0 0 0 ((w.alloc (Obj.cells (YY 0 0 (λ_=>false) 0 0 0).toArray 261)).alloc (Obj.cells (YY 0 0 (λ_=>false) 0 0 0).toArray 261)) /\
  Yz (w.heap.size+1) 0 0 (λ_=>false) 0 0 0 ((w.alloc (Obj.cells (YY 0 0 (λ_=>false) 0 0 0).toArray 261)).alloc (Obj.cells (YY 0 0 (λ_=>false) 0 0 0).toArray 261)):=by
 refine⟨(Yz.boxed w ..).alloc _,?_⟩;have:=Yz.boxed (w.alloc (Obj.cells (YY 0 0 (λ_=>false) 0 0 0).toArray 261)) 0 0 (λ_=>false) 0 0 0 261;rw[show(w.alloc (Obj.cells (YY 0 0 (λ_=>false) 0 0 0).toArray 261)).heap.size=w.heap.size+1 by simp]at this;exact this
def Yz.store{f:N_}(h:Yz g kd pl f le mo fa w)(H Z:Int)(f':N_)(J Y z:Int):
  (storeCells (a_ g 0) (YY H Z f' J Y z)).run prog w=.ok () (w.setCells g 0 (YY H Z f' J Y z)):=by
 have:=run_storeCells_cells (P:=prog) g 0 (YY H Z f' J Y z) 0 w (λj a=>by have:=(h.free j (by rw[XX]at a;exact a)).1;simpa using this) (λj a=>by have:=(h.free j (by rw[XX]at a;exact a)).2;simpa using this) (PD _ _ _ _ _ _);simpa using this
def Yz.lt{f:N_}(h:Yz g kd pl f le mo fa w):g<w.heap.size:=Ze w _ h.c0
def lP{ops:Array Oper}{rest:List Oper}{a:Act}{w:World}{Q:Exit->Act->World->Prop}{d t p f}{x:Operand}{b o:Nat}{k q:Int}{F:Nat->Bool}{l m z:Int}(e:a.eval x=.pointer (some ⟨b,o,none⟩))(h:w.rangeAt b o (YY k q F l m z))(r:wpList prog ops Q rest (a.put d (.agg (YY k q F l m z).toArray)) w):wpList prog ops Q (⟨d,.load 261 x,t,p,f,none⟩::rest) a w:=wpList_load_mid rfl 261 _ rfl _ _ e _ _ h underlying261 rfl (by rw[XX];exact Pz) r
def sP{ops:Array Oper}{rest:List Oper}{a:Act}{w:World}{Q:Exit->Act->World->Prop}{d t p f}{x y:Operand}{b o:Nat}{k q:Int}{F:Nat->Bool}{l m z:Int}(e:a.eval x=.pointer (some ⟨b,o,none⟩))(e2:a.eval y=.agg (YY k q F l m z).toArray)(h:w.there b o 261)(r:wpList prog ops Q rest (a.put d undef) (w.setCells b o (YY k q F l m z).toArray.toList)):wpList prog ops Q (⟨d,.store 261 x y,t,p,f,none⟩::rest) a w:=wpList_store_mid rfl 261 _ _ rfl _ _ _ e e2 (by simpa[XX]using h) (by simpa[XX]using Pz) (all_oneCell_toArray (PD _ _ _ _ _ _)) r
