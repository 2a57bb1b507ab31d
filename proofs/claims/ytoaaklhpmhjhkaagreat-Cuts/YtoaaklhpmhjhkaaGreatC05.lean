import Derived.Deep.AppendLies
import Derived.Test.YtoaaklhpmhjhkaaGreatC04
set_option maxRecDepth 100000
set_option maxHeartbeats 4000000
set_option linter.all false
namespace Go.Proofs.YtoaaklhpmhjhkaaGreat
open Go.Proofs.Tryz
section
open Go.RowKit
namespace Bm
def ints(l:List Int):List Value:=l.map λx=>.int .i64 x
def ints_append(a b:List Int):ints (a++b)=ints a++ints b:=by simp[ints]
def OwnL(base:Nat)(v:Value)(l:List Int)(w:World):Prop:=w.ownsRow base 3 1 v l.length (ints l)
def OwnL.nil(base:Nat)(w:World):OwnL base (sN) [] w:=⟨rfl,Or.inl ⟨rfl,rfl⟩⟩
variable {base:Nat}{v:Value}{w:World}
def OwnL.blk{l:List Int}(h:OwnL base v l w):∀k,v.ownBlock=some k->base<=k/\k<w.heap.size:=λk a=>h.lt k a
variable {w':World}
def OwnL.keep{l:List Int}(h:OwnL base v l w)(z:∀k,v.ownBlock=some k->w'.heap[k]?=w.heap[k]?):OwnL base v l w':=by
 refine⟨h.1,?_⟩;rcases h.2 with h0|⟨g,cap,a,rfl,h1,h2,h3⟩
 .exact Or.inl h0
 exact Or.inr ⟨g,cap,a,rfl,h1,by rw[z g rfl];exact h2,h3⟩
def OwnL.below{l:List Int}(h:OwnL base v l w)(z:Bl w w'):OwnL base v l w':=h.keep (λk a=>z.block k (h.blk k a).2)
variable {base':Nat}
def OwnL.mono{l:List Int}(h:OwnL base v l w)(z:base'<=base):OwnL base' v l w:=
 ⟨h.1,h.2.imp id (λ⟨g,cap,d,a,b,c⟩=>⟨g,cap,d,a,ZJ z b,c⟩)⟩
variable {row:Option Nat}
def OwnL.grown{l:List Int}(h:OwnL base v l w)(H:w.grownBy w' row)(z:∀k,v.ownBlock=some k->row≠some k):OwnL base v l w':=
 h.keep (λk a=>H.block k (h.blk k a).2 (λe=>z k a e.symm))
def OwnL.il{l:List Int}(h:OwnL base v l w):∃ad cap,v=.slice ad l.length cap/\IL ad (λi=>l.getD i 0) l.length w:=by
 rcases h.2 with ⟨rfl,h0⟩|⟨g,cap,c,rfl,h1,h2,h3,d,e,f⟩
 .refine⟨none,0,by rw[h0],λi a=>Qo⟩
 refine⟨some (a_ g 0),cap,rfl,λi a=>⟨g,0,rfl,?_⟩⟩;have b:=h.cells (g:=g) rfl i (I6 (l.getD i 0)) (by simp[ints,Zf,a]);rw[fe]at b;exact b
variable {a:Act}{ops:Array Oper}{Q:Exit->Act->World->Prop}{rest:List Oper}{o:Oper}
def wpList_append_int(hgd:o.guard=none)(s x:Operand)
  (ho:o.op=.call { callee:=.builtin .append,args:=#[s,x],argTypes:=#[23,23] }) (base:Nat)
  (v:Value) (l:List Int) (hs:a.eval s=v) (hown:OwnL base v l w) (hn:l.length<=1000000)
  (B:Nat) (t:Int) (hx:a.eval x=.slice (some ⟨B,0,none⟩) 1 1) (hnews:w.cell? ⟨B,0,none⟩=some (.int .i64 t)) (hbase:base<=w.heap.size) (H:Nat) (hH:w.heap.size=H)
  (h:∀g cap w',OwnL base (.slice (some ⟨g,0,none⟩) (l.length+1) cap) (l++[t]) w'->w.grownBy w' v.ownBlock->(v.ownBlock=some g\/g=H)->g<w'.heap.size->wpList prog ops Q rest (a.put o.dst (.slice (some ⟨g,0,none⟩) (l.length+1) cap)) w'):wpList prog ops Q (o::rest) a w:=by
 obtain⟨i,k,c,d,e⟩:=WP;refine fD w hgd s x 23 ho base 3 i (.int .i64 0) 1 8 u_e k c d e rfl Qo v l.length (ints l) hs hown ⟨B,0,none⟩ 1 1 [.int .i64 t] hx rfl (λj u b=>?_) (by simp[Value.oneCell']) Qo (by unfold maxLen;omega) Qo hbase H hH ?_
 .rw[fe,Zn];cases j with
  |zero=>simp at b;subst b;exact hnews
  |succ j=>simp at b
 intro g cap w' h1 h2 h3 f;refine h g cap w' ?_ h2 h3 f;unfold OwnL;rw[ints_append,Zl];exact h1
def TC(t:Nat)(L:List Value)(w:World):Prop:=∀k v,L[k]?=some v->w.cell? ⟨t,k,none⟩=some v/\w.frozen? ⟨t,k,none⟩=false
variable {L:List Value}{t:Nat}
def TC.block(h:TC t L w)(z:w'.heap[t]?=w.heap[t]?):TC t L w':=λk v b=>by
 rw[eZ (w:=w) (a:=(a_ t k)) z,fd (w:=w) (a:=(a_ t k)) z];exact h k v b
def TC.lt(h:TC t (v::L) w):t<w.heap.size:=Ze w _ (h 0 v rfl).1
def TC.below(h:TC t (v::L) w)(z:Bl w w'):TC t (v::L) w':=h.block (z.block t h.lt)
def TC.set(h:TC t L w)(q:Nat)(z:q<L.length)(u:Value):TC t (L.set q u) (w.setCell (a_ t q) u):=λk v a=>by
 rw[fw];by_cases e:k=q
 .subst e;rw[fx z]at a;let⟨h1,h2⟩:=h k L[k] (Zd z);cases a;exact⟨fy w (a_ t k) u (by rw[h1]),h2⟩
 rw[fA (λx=>e x.symm)]at a;let⟨h1,h2⟩:=h k v a;exact⟨by rw[fB _ _ _ _ (by intro b;cases b;exact e rfl)];exact h1,h2⟩
def TC.range(h:TC t L w):w.rangeAt t 0 L:=λk v a=>by rw[Zn];exact(h k v a).1
def TC.there(h:TC t L w):w.there t 0 L.length:=λj a=>by
 rw[Zn];let⟨h1,h2⟩:=h j L[j] (Zd a);exact⟨by rw[h1];rfl,h2⟩
def TC.boxed(w:World)(L:List Value)(z:TypeId):TC w.heap.size L (w.alloc (.cells L.toArray z)):=λk v a=>by
 refine⟨by rw[Zm];simpa using a,?_⟩;go_simp
def box_bel(w:World)(o:Obj):Bl w (w.alloc o):=(Zk _ _).alloc (Zg _) o
variable {fn:Func}
def res_cell1{p:Tmp}{z:TypeId}(h:fn.results=#[.cell p z])(tmps:Array Value)(P:Program)(w:World):
  (results fn tmps).run P w=((asAddr (tmps.getD p undef)).run P w).andThen λa w₁=>(loadVar z a).run P w₁:=by
 simp only[results,h];simp[fE,Result.andThen]
variable {tmps:Array Value}
def res_load1{p:Tmp}{z:TypeId}{P:Program}{ad:Addr}(h:fn.results=#[.cell p z])(J:tmps.getD p undef=.pointer (some ad))(H:(loadVar z ad).run P w=.ok v w):
  (results fn tmps).run P w=.ok v w:=by
 rw[res_cell1 h,J];simp[asAddr,H]
end Bm
open Bm
structure Rw (b n:Nat) (ad:Option Addr) (nn cap:Nat) (nx:Nat->Int) (w:World):Prop where
 c0:w.cell? ⟨b,0,none⟩=some (.int .i64 n)
 c1:w.cell? ⟨b,1,none⟩=some (.slice ad nn cap)
 il:IL ad nx nn w
variable {ck nt:List Int}{b base c cap cb g i k m n:Nat}{f:Nat->Int}{ad:Option Addr}{v vc vc' vn vn':Value}{W w w' w'' w5:World}
def Rw.below{H:Nat}{nx:Nat->Int}(h:Rw b n ad H cap nx w)(z:Bl w w'):Rw b n ad H cap nx w':=by
 have a:=Ze w _ h.c0;have e:∀k,w'.cell? (a_ b k)=w.cell? (a_ b k):=λk=>z.cell (p:=(a_ b k)) a
 exact⟨by rw[e];exact h.c0,by rw[e];exact h.c1,h.il.below z⟩
def yx(n nn:Nat)(s:Int):Prop:=s=-1\/∃m:Nat,s=m/\m<=96/\m*n+n<=nn
def PF(b n:Nat)(ad:Option Addr)(z cap:Nat)(nx:Nat->Int)(s:Int)(c:Nat)(w:World)(h:Rw b n ad z cap nx w)(Y:n<=256)(H:z<=24576)(hs:yx n z s)(J:c<n):
  Cp 74 #[pT b,I6 s,I6 c] w λe w'=>e=.returned (I6 (Pk.ld nx n s c))/\Bl w w':=by
 rcases hs with rfl|⟨m,rfl,q,d⟩
 .rw[Pk.ld_none];clear h;go_enter func74,ntmps74;go_wp2;go_ret;exact⟨rfl,Zk _ _⟩
 rw[Pk.ld_nat];obtain⟨p,f⟩:∃p:Nat,p=m*n:=⟨_,rfl⟩;rw[<-f]at d ⊢;have t:(m:Int)*(n:Int)=(p:Int):=by rw[f];simp
 clear f;obtain⟨k,i⟩:∃k:Nat,k=p+c:=⟨_,rfl⟩;rw[<-i];have r:(p:Int)+(c:Int)=(k:Int):=Qo
 have a:k<z:=Qo
 have j:(k:Int)<z:=Qo
 obtain⟨g,o,rfl,ck⟩:=h.il k a;have c0:=h.c0;have c1:=h.c1;have u:((m:Int)==-1)=false:=Qs
 have l:p<=24576:=Qo
 clear h i;go_enter func74,ntmps74;go_wp2
 go_quiet (fail)
 go_wp2;go_ret;exact⟨rfl,VI _ _ _⟩
def Ug(l:List Nat):List Int:=l.map λ(a:Nat)=>(a:Int)
def TT(l:List Nat):(Ug l).length=l.length:=by simp[Ug]
def IW(l r:List Nat):Ug (l++r)=Ug l++Ug r:=by simp[Ug]
def CH(b n:Nat)(ad:Option Addr)(Y cap:Nat)(nx:Nat->Int)(s d:Int)(w:World)(h:Rw b n ad Y cap nx w)(hn:n<=256)(Z:Y<=24576)(hs:yx n Y s)(hd:yx n Y d):
  Cp 136 #[pT b,I6 s,I6 d] w λe w'=>∃v,e=.returned v/\OwnL w.heap.size v (Ug (Pk.dif nx n s d n)) w'/\Bl w w':=by
 have M:Hid (∀w',Bl w w'->w'.cell? (a_ b 0)=some (I6 n)):=λw' r=>(h.below r).c0
 have HS:Hid (∀(c:Nat) (w':World),c<n->Bl w w'->Cp 74 #[pT b,I6 s,I6 c] w' λe w''=>e=.returned (I6 (Pk.ld nx n s c))/\Bl w' w''):=λc w' F r=>PF b n ad Y cap nx s c w' (h.below r) hn Z hs F
 have L:Hid (∀(c:Nat) (w':World),c<n->Bl w w'->Cp 74 #[pT b,I6 d,I6 c] w' λe w''=>e=.returned (I6 (Pk.ld nx n d c))/\Bl w' w''):=λc w' F r=>PF b n ad Y cap nx d c w' (h.below r) hn Z hd F
 clear h hs hd;go_enter func136,ntmps136;go_wp2_with fail
 go_loopw [7,8] (λv x w'=>∃k:Nat,k<=n/\x=I6 k/\OwnL w.heap.size v (Ug (Pk.dif nx n s d k)) w'/\Bl w w') (λ_ x _=>n-(intOf x).toNat)
 .exact⟨0,Qo,rfl,OwnL.nil _ _,Zk _ _⟩
 obtain⟨k,T,rfl,E,o⟩:=hrel;have c0:=M.o wr o;by_cases C:k<n
 .have J:(k:Int)<n:=Qo
  go_wp2_with fail;clear c0;apply(HS k _ C o).mono;rintro e w1 ⟨rfl,j⟩;have a:=o.trans (j.mono o.size);have u:=E.below j;clear E o j;go_wp2_with fail;apply(L k _ C a).mono;rintro e w2 ⟨rfl,l⟩;have f:=a.trans (l.mono a.size);have i:=u.below l;clear u a l;have N:=Pk.dif_len nx n s d k;by_cases p:Pk.ld nx n s k=Pk.ld nx n d k
  .have D:=Pk.dif_eq p;rw[<-D]at i;have S:(Pk.ld nx n s k != Pk.ld nx n d k)=false:=by simp[p]
   clear D p;go_wp2_with fail;go_roundw
   .exact⟨k+1,Qo,Qg,i,f⟩
   simp[intOf];omega
  have K:=hyd (Pk.dif_ne p);have S:(Pk.ld nx n s k != Pk.ld nx n d k)=true:=by simp[p]
  have I:=box_bel w2 (.cells #[I6 (k:Int)] 3);have y:=i.below I;have t:=f.trans (I.mono f.size);have B:=y.blk;have H:(w2.alloc (.cells #[I6 (k:Int)] 3)).cell? (a_ w2.heap.size 0)=some (I6 (k:Int)):=by rw[Zm];rfl
  have A:=t.size;clear p I i f;go_wp2_with (first|(at_builtin;refine wpList_append_int Qr _ _ Qr w.heap.size u7 (Ug (Pk.dif nx n s d k)) Qr y (by rw[TT];omega) w2.heap.size k Qr H A _ rfl ?_;intro g cap w5 z m O Q));have D:Ug (Pk.dif nx n s d k)++[(k:Int)]=Ug (Pk.dif nx n s d (k+1)):=by rw[K.o,IW];rfl
  rw[D]at z;go_roundw
  .exact⟨k+1,Qo,Qg,z,t.grown m A (λq R=>(B q R).1)⟩
  simp[intOf];omega
 have P:¬(k:Int)<n:=Qo
 have G:k=n:=Qo
 go_wp2_with fail;go_ret;refine⟨u7,rfl,?_,o⟩;rw[G]at E;exact E
def Er(b n:Nat)(ad:Option Addr)(Y cap:Nat)(nx:Nat->Int)(s:Nat)(w:World)(h:Rw b n ad Y cap nx w)(hn:n<=256)(Z:Y<=24576)(hs:s<=96)(aa:s*n+n<=Y):
  Cp 72 #[pT b,I6 s] w λe w'=>∃v,e=.returned (.tuple #[I6 (Pk.df nx n s),v])/\OwnL w.heap.size v (Ug (Pk.own nx n s)) w'/\Bl w w':=by
 have C:Hid (∀(d:Int) (w':World),(d=-1\/∃m:Nat,d=m/\m<s)->Bl w w'->Cp 136 #[pT b,I6 s,I6 d] w' λe w''=>∃v,e=.returned v/\OwnL w'.heap.size v (Ug (Pk.dif nx n s d n)) w''/\Bl w' w''):=λd w' o F=>by
  apply CH b n ad Y cap nx s d w' (h.below F) hn Z (Or.inr ⟨s,rfl,hs,aa⟩);rcases o with o|⟨m,H,I⟩
  .exact Or.inl o
  refine Or.inr ⟨m,H,Qo,?_⟩;have:m*n<=s*n:=ZQ n Qo;omega
 go_enter func72,ntmps72;go_wp2_with fail;apply(C (-1) _ (Or.inl rfl) (Zk _ _)).mono;rintro e w1 ⟨v1,rfl,r,p⟩;have i:=r;go_wp2
 go_loopw [6,7,8] (λx v y w'=>∃d:Nat,d<=s/\y=I6 d/\x=I6 (Pk.near nx n s d).1/\OwnL w.heap.size v (Ug (Pk.near nx n s d).2) w'/\Bl w w') (λ_ _ y _=>s-(intOf y).toNat)
 .exact⟨0,Qo,rfl,rfl,i,p⟩
 obtain⟨d,o,rfl,rfl,q,c⟩:=hrel;let⟨J,L,k,_⟩:=q.il;rw[TT]at k;subst k;by_cases B:d<s
 .have E:(d:Int)<s:=Qo
  go_wp2_with fail;apply(C d _ (Or.inr ⟨d,rfl,B⟩) c).mono;rintro e w2 ⟨v2,rfl,t,f⟩;have u:=q.below f;have g:=c.trans (f.mono c.size);have j:=t.mono c.size;let⟨K,M,l,_⟩:=j.il;rw[TT]at l;subst l;by_cases D:(Pk.dif nx n s d n).length<(Pk.near nx n s d).2.length
  .have a:=hyd (Pk.near_lt D);have A:((Pk.dif nx n s d n).length:Int)<((Pk.near nx n s d).2.length:Int):=Qo
   go_wp2;go_roundw
   .exact⟨d+1,Qo,Qg,by rw[a.o],by rw[a.o];exact j,g⟩
   simp[intOf];omega
  have a:=hyd (Pk.near_ge D);have A:¬((Pk.dif nx n s d n).length:Int)<((Pk.near nx n s d).2.length:Int):=Qo
  go_wp2;go_roundw
  .exact⟨d+1,Qo,Qg,by rw[a.o],by rw[a.o];exact u,g⟩
  simp[intOf];omega
 have G:¬(d:Int)<s:=Qo
 have z:d=s:=Qo
 subst z;go_wp2;go_ret2;exact⟨_,rfl,q,c⟩
def Bm.OwnL.at_{l:List Int}(h:OwnL base (sL g m cap) l w)(k:Nat)(z:k<l.length):w.cell? (a_ g k)=some (I6 (l.getD k 0))/\w.frozen? (a_ g k)=false:=by
 rcases h.2 with ⟨h0,_⟩|⟨b,a,d,h0,h1,h2,h3,f,i,j⟩
 .cases h0
 have e:b=g:=by cases h0;rfl
 subst e;have c:=h.cells (g:=b) rfl k (I6 (l.getD k 0)) (by simp[ints,Zf,z]);rw[fe,Zn]at c;refine⟨c,?_⟩;simp[World.frozen?,h2]
def Bm.OwnL.some_{l:List Int}(h:OwnL base v l w)(z:0<l.length):∃g cap,v=sL g l.length cap:=by
 rcases h.2 with ⟨rfl,h0⟩|⟨g,cap,a,rfl,_⟩
 .omega
 exact⟨g,cap,rfl⟩
def Bm.OwnL.set_{l:List Int}(h:OwnL base (sL g l.length cap) l w)(k:Nat)(x:Int):OwnL base (sL g l.length cap) (l.set k x) (w.setCell (a_ g k) (I6 x)):=by
 rcases h.2 with ⟨h0,_⟩|⟨c,a,b,h0,h1,h2,h3,f,i,d⟩
 .cases h0
 have e:c=g:=by cases h0;rfl
 have e2:a=cap:=by cases h0;rfl
 subst e;subst e2;refine⟨by simp[ints],Or.inr ⟨c,a,b.setIfInBounds k (I6 x),Qs,h1,?_,by simpa using h3,f,by simpa using i,?_⟩⟩
 .have j:=(Array.getElem?_eq_some_iff.1 h2).1;unfold World.setCell;simp only[Array.getElem?_modify];rw[h2];rfl
 simp only[List.length_set,ff]at d ⊢;rw[Array.toList_setIfInBounds,List.take_set,d];simp[ints,List.map_set]
structure Cs (base cb:Nat) (vc vn:Value) (ck nt:List Int) (w:World):Prop where
 s:TC cb [vc,vn] w
 c:OwnL base vc ck w
 n:OwnL base vn nt w
 ne:∀k,vc.ownBlock=some k->vn.ownBlock≠some k
 lt:cb<base
def Cs.below(h:Cs base cb vc vn ck nt w)(z:Bl w w'):Cs base cb vc vn ck nt w':=
 ⟨h.s.below z,h.c.below z,h.n.below z,h.ne,h.lt⟩
def Cs.keep(h:Cs base cb vc vn ck nt w)(h0:w'.heap[cb]?=w.heap[cb]?)(h1:∀k,vc.ownBlock=some k->w'.heap[k]?=w.heap[k]?)(h2:∀k,vn.ownBlock=some k->w'.heap[k]?=w.heap[k]?):Cs base cb vc vn ck nt w':=
 ⟨h.s.block h0,h.c.keep h1,h.n.keep h2,h.ne,h.lt⟩
structure WG (cb:Nat) (vc vn vc' vn':Value) (w w':World):Prop where
 bel:Below cb w w'
 kept:∀q,q<w.heap.size->q≠cb->vc.ownBlock≠some q->vn.ownBlock≠some q->w'.heap[q]?=w.heap[q]?
 oc:∀q,vc'.ownBlock=some q->vc.ownBlock=some q\/w.heap.size<=q
 on:∀q,vn'.ownBlock=some q->vn.ownBlock=some q\/w.heap.size<=q
def WG.refl(cb:Nat)(vc vn:Value)(w:World):WG cb vc vn vc vn w w:=⟨Zk _ _,λ_ _ _ _ _=>rfl,λ_ h=>Or.inl h,λ_ h=>Or.inl h⟩
def WG.trans{z H:Value}(h:WG cb vc vn vc' vn' w w')(J:WG cb vc' vn' z H w' w''):WG cb vc vn z H w w'':=by
 refine⟨h.bel.trans J.bel,λq a h0 h1 h2=>?_,λq a=>?_,λq a=>?_⟩
 .have hz:=h.bel.size;rw[J.kept q Qo h0 (λe=>?_) (λe=>?_),h.kept q a h0 h1 h2]
  .rcases h.oc q e with e|e
   .exact h1 e
   omega
  rcases h.on q e with e|e
  .exact h2 e
  omega
 .have hz:=h.bel.size;rcases J.oc q a with e|e
  .exact h.oc q e
  exact Or.inr Qo
 have hz:=h.bel.size;rcases J.on q a with e|e
 .exact h.on q e
 exact Or.inr Qo
def Cs.pushC{base cb:Nat}{vc vn:Value}{ck nt:List Int}{W W1 w5:World}{x:Int}{g cap:Nat}{ob:Obj}(h:Cs base cb vc vn ck nt W)(z:W1=W.alloc ob)
  (Y:OwnL base (sL g (ck.length+1) cap) (ck++[x]) w5) (J:W1.grownBy w5 vc.ownBlock) (H:vc.ownBlock=some g\/g=W1.heap.size):
  Cs base cb (sL g (ck.length+1) cap) vn (ck++[x]) nt (w5.setCell (a_ cb 0) (sL g (ck.length+1) cap))/\WG cb vc vn (sL g (ck.length+1) cap) vn W (w5.setCell (a_ cb 0) (sL g (ck.length+1) cap)):=by
 have i:=h.lt;have f:=h.s.lt;have x1:Bl W W1:=by rw[z];exact box_bel _ _
 have o:W1.heap.size=W.heap.size+1:=by rw[z];simp
 have k1:=h.below x1;have d:∀k,k≠cb->(w5.setCell (a_ cb 0) (sL g (ck.length+1) cap)).heap[k]?=w5.heap[k]?:=λk a=>Zq w5 (a_ cb 0) _ k (λe=>a e)
 have m:base<=g:=(Y.blk g rfl).1;have j:=h.c.blk;have l:=h.n.blk;refine⟨⟨?_,?_,?_,?_,i⟩,?_,?_,?_,?_⟩
 .exact(k1.s.block (J.block _ Qo (λe=>by have:=(j _ e.symm).1;omega))).set 0 Qs _
 .exact Y.keep (λk a=>d k (by cases a;show g≠_;omega))
 .exact(k1.n.grown J (λk a e=>h.ne k e a)).keep (λk a=>d k (by have:=(l k a).1;omega))
 .intro k a e;have e2:g=k:=Zh a;rcases H with h1|h1
  .rw[e2]at h1;exact h.ne k h1 e
  have:=(l k e).2;omega
 .exact((x1.mono (ZM f)).grown J Qo (λq b=>by have:=(j q b).1;omega)).setCell (p:=(a_ cb 0)) (Zg _) _
 .intro q b h0 h1 h2;rw[d q h0,J.block q Qo (λe=>h1 e.symm),x1.block q b]
 .intro q b;have e2:g=q:=Zh b;rcases H with h1|h1
  .left;rw[h1,e2]
  right;omega
 exact λq b=>Or.inl b
def Cs.pushN{base cb:Nat}{vc vn:Value}{ck nt:List Int}{W W1 w5:World}{x:Int}{g cap:Nat}{ob:Obj}(h:Cs base cb vc vn ck nt W)(z:W1=W.alloc ob)
  (Y:OwnL base (sL g (nt.length+1) cap) (nt++[x]) w5) (J:W1.grownBy w5 vn.ownBlock) (H:vn.ownBlock=some g\/g=W1.heap.size):
  Cs base cb vc (sL g (nt.length+1) cap) ck (nt++[x]) (w5.setCell (a_ cb 1) (sL g (nt.length+1) cap))/\WG cb vc vn vc (sL g (nt.length+1) cap) W (w5.setCell (a_ cb 1) (sL g (nt.length+1) cap)):=by
 have i:=h.lt;have f:=h.s.lt;have x1:Bl W W1:=by rw[z];exact box_bel _ _
 have o:W1.heap.size=W.heap.size+1:=by rw[z];simp
 have k1:=h.below x1;have d:∀k,k≠cb->(w5.setCell (a_ cb 1) (sL g (nt.length+1) cap)).heap[k]?=w5.heap[k]?:=λk a=>Zq w5 (a_ cb 1) _ k (λe=>a e)
 have m:base<=g:=(Y.blk g rfl).1;have j:=h.c.blk;have l:=h.n.blk;refine⟨⟨?_,?_,?_,?_,i⟩,?_,?_,?_,?_⟩
 .exact(k1.s.block (J.block _ Qo (λe=>by have:=(l _ e.symm).1;omega))).set 1 Qs _
 .exact(k1.c.grown J (λk a e=>h.ne k a e)).keep (λk a=>d k (by have:=(j k a).1;omega))
 .exact Y.keep (λk a=>d k (by cases a;show g≠_;omega))
 .intro k a e;have e2:g=k:=Zh e;rcases H with h1|h1
  .rw[e2]at h1;exact h.ne k a h1
  have:=(j k a).2;omega
 .exact((x1.mono (ZM f)).grown J Qo (λq b=>by have:=(l q b).1;omega)).setCell (p:=(a_ cb 1)) (Zg _) _
 .intro q b h0 h1 h2;rw[d q h0,J.block q Qo (λe=>h2 e.symm),x1.block q b]
 .exact λq b=>Or.inl b
 intro q b;have e2:g=q:=Zh b;rcases H with h1|h1
 .left;rw[h1,e2]
 right;omega
def Cs.setC(h:Cs base cb (sL g ck.length cap) vn ck nt W)(k:Nat)(x:Int):
  Cs base cb (sL g ck.length cap) vn (ck.set k x) nt (W.setCell (a_ g k) (I6 x))/\WG cb (sL g ck.length cap) vn (sL g ck.length cap) vn W (W.setCell (a_ g k) (I6 x)):=by
 have a:=h.lt;have f:=(h.c.blk g rfl).1;have b:∀q,q≠g->(W.setCell (a_ g k) (I6 x)).heap[q]?=W.heap[q]?:=λq d=>Zq W (a_ g k) _ q (λe=>d e)
 refine⟨⟨h.s.block (b _ Qo),h.c.set_ k x,h.n.keep (λq d=>b q (λe=>h.ne g rfl (by rw[<-e];exact d))),h.ne,a⟩,?_,?_,λ_ h=>Or.inl h,λ_ h=>Or.inl h⟩
 .exact(Zk _ _).setCell (p:=(a_ g k)) (ZJ (ZM a) f) _
 exact λq _ _ h1 _=>b q (λe=>h1 (by rw[e];rfl))
def Cs.setN(h:Cs base cb vc (sL g nt.length cap) ck nt W)(k:Nat)(x:Int):
  Cs base cb vc (sL g nt.length cap) ck (nt.set k x) (W.setCell (a_ g k) (I6 x))/\WG cb vc (sL g nt.length cap) vc (sL g nt.length cap) W (W.setCell (a_ g k) (I6 x)):=by
 have a:=h.lt;have f:=(h.n.blk g rfl).1;have b:∀q,q≠g->(W.setCell (a_ g k) (I6 x)).heap[q]?=W.heap[q]?:=λq d=>Zq W (a_ g k) _ q (λe=>d e)
 refine⟨⟨h.s.block (b _ Qo),h.c.keep (λq d=>b q (λe=>h.ne q d (by rw[e];rfl))),h.n.set_ k x,h.ne,a⟩,?_,?_,λ_ h=>Or.inl h,λ_ h=>Or.inl h⟩
 .exact(Zk _ _).setCell (p:=(a_ g k)) (ZJ (ZM a) f) _
 exact λq _ _ _ h2=>b q (λe=>h2 (by rw[e];rfl))
def UV(l:List Int)(k:Nat)(d e:Int)(h:k<l.length):l.getD k d=l.getD k e:=by
 rw[Zf,Zf,Zd h];rfl
def Ff{l:List Nat}(h:l[i]?=some c):(Ug l).getD i 0=(c:Int):=by simp[Ug,Zf,h]
def Bz(base cb:Nat)(vc vn:Value)(ck nt:List Int)(B b:Nat)(v:Value)(l:List Nat)(w:World)(h:Cs base cb vc vn ck nt w)(Z:OwnL B v (Ug l) w)(hb:b<=100000)(_hck:ck.length<=100000)(hl:l.length<=256)(Y:∀c∈l,c<256):
  Cp 137 #[pT cb,I6 b,v] w λe w'=>e=.returned (.bool (Pk.fr ck b l))/\w'=w:=by
 obtain⟨ad,cap,rfl,il⟩:=h.c.il;obtain⟨S,T,rfl,F⟩:=Z.il;rw[TT]at F ⊢;have c0:=(h.s 0 _ rfl).1;have L:=hyd il;have M:=hyd F;clear h Z il F;go_enter func137,ntmps137;go_wp2
 go_loop [12] (λx=>∃i:Nat,i<=l.length/\x=I6 i/\Hid (∀j c,j<i->l[j]?=some c->ck.getD (b+c) (-1)=-1)) (λx=>l.length-(intOf x).toNat)
 .exact⟨0,Qo,rfl,λj c C=>Qo⟩
 obtain⟨i,V,rfl,n⟩:=hrel;by_cases t:i<l.length
 .have K:(i:Int)<(l.length:Int):=Qo
  obtain⟨c,p⟩:∃c,l[i]?=some c:=⟨l[i],Zd t⟩;obtain⟨U,X,rfl,z⟩:=M.o i t;simp only[Ff p]at z;have A:=Y c (dI p);have G:=hyd p;obtain⟨k,J⟩:∃k:Nat,k=b+c:=⟨_,rfl⟩;have H:=hyd J;have W:(b:Int)+(c:Int)=(k:Int):=Qo
  have P:k<=200000:=Qo
  have a:Hid (ck.getD k (-1)=-1->∀j c,j<i+1->l[j]?=some c->ck.getD (b+c) (-1)=-1):=λh0 j N C m=>by
   by_cases e:j=i
   .subst e;rw[G.o]at m;cases m;rw[<-H.o];exact h0
   exact n j N Qo m
  clear p J;by_cases q:k<ck.length
  .have r:(k:Int)<(ck.length:Int):=Qo
   obtain⟨g,o,rfl,I⟩:=L.o k q;simp only[UV ck k 0 (-1) q]at I;let⟨x,E⟩:=nam (ck.getD k (-1));rw[<-E]at I;have u:=hyd E;clear E;by_cases d:x=-1
   .have f:=hyd (a.o (by rw[<-u.o];exact d));have Q:(x==-1)=true:=by simpa using d
    have R:(x != -1)=false:=by simp[d]
    clear d u n a;go_wp2
    go_round
    .exact⟨i+1,Qo,Qg,f⟩
    simp[intOf];omega
   have Q:(x==-1)=false:=by simpa using d
   have R:(x != -1)=true:=by simp[d]
   have y:Hid (Pk.fr ck b l=false):=by
    show _=_;rw[<-Bool.not_eq_true,Pk.fr_iff];exact λh=>d (by rw[u.o,H.o];exact h c (dI G.o))
   clear d u n a;go_wp2;go_ret;exact⟨YM y.o.symm,rfl⟩
  have r:¬(k:Int)<(ck.length:Int):=Qo
  have f:=hyd (a (Pk.getD_out _ _ _ Qo));clear n a;go_wp2
  go_round
  .exact⟨i+1,Qo,Qg,f⟩
  simp[intOf];omega
 have O:¬(i:Int)<(l.length:Int):=Qo
 have y:Hid (Pk.fr ck b l=true):=by
  show _=_;rw[Pk.fr_iff];intro c p;let⟨j,C,D⟩:=List.getElem_of_mem p;exact n j c Qo (by rw[Zd C,D])
 clear n;go_wp2;go_ret;exact⟨YM y.o.symm,rfl⟩
def H9(base cb:Nat)(vc vn:Value)(ck nt:List Int)(B:Nat)(v:Value)(l:List Nat)(w:World)(h:Cs base cb vc vn ck nt w)(Y:OwnL B v (Ug l) w)(z:ck.length<=100000)(J:l.length<=256)(H:∀c∈l,c<256):
  Cp 73 #[pT cb,v] w λe w'=>e=.returned (I6 (Pk.bas ck l))/\w'=w:=by
 have o:Hid (∀b:Nat,b<=100000->Cp 137 #[pT cb,I6 b,v] w λe w'=>e=.returned (.bool (Pk.fr ck b l))/\w'=w):=λb m=>Bz base cb vc vn ck nt B b v l w h Y m z J H
 obtain⟨ad,cap,rfl,_⟩:=h.c.il;have c0:=(h.s 0 _ rfl).1;go_enter func73,ntmps73;go_wp2
 go_loop [5] (λx=>∃b:Nat,b<=ck.length/\x=I6 b/\Hid (∀i,i<b->Pk.fr ck i l=false)) (λx=>ck.length-(intOf x).toNat)
 .exact⟨0,Qo,rfl,λi q=>Qo⟩
 obtain⟨b,m,rfl,f⟩:=hrel;by_cases r:b<ck.length
 .have n:(b:Int)<(ck.length:Int):=Qo
  go_wp2_with fail;apply(o b Qo).mono;rintro e w' ⟨rfl,rfl⟩;by_cases k:Pk.fr ck b l=true
  .have d:=hyd (Pk.bas_eq k f.o);rw[k];go_wp2;go_ret;exact⟨Y2 (by rw[d.o]),rfl⟩
  have a:Pk.fr ck b l=false:=by simpa using k
  rw[a];have g:Hid (∀i,i<b+1->Pk.fr ck i l=false):=λi q=>by
   by_cases e:i=b
   .subst e;exact a
   exact f i Qo
  go_wp2
  go_round
  .exact⟨b+1,Qo,Qg,g⟩
  simp[intOf];omega
 have p:¬(b:Int)<(ck.length:Int):=Qo
 have d:Hid (Pk.bas ck l=ck.length):=by
  have j:b=ck.length:=Qo
  subst j;exact Pk.bas_eq (Pk.fr_len ck l) f.o
 go_wp2;go_ret;exact⟨Y2 (by rw[d.o]),rfl⟩
def Cs.first(x:Int)(h:Cs base cb vc vn ck nt W)(z:base<=W.heap.size):
  OwnL base vc ck (W.alloc (.cells #[I6 x] 3))/\(W.alloc (.cells #[I6 x] 3)).cell? (a_ W.heap.size 0)=some (I6 x)/\base<=(W.alloc (.cells #[I6 x] 3)).heap.size /\
  ∀w5,(W.alloc (.cells #[I6 x] 3)).grownBy w5 vc.ownBlock->w5.cell? (a_ cb 0)=some vc/\w5.frozen? (a_ cb 0)=false:=by
 have a:=box_bel W (.cells #[I6 x] 3);refine⟨h.c.below a,by rw[Zm];rfl,ZJ z a.size,λw5 b=>?_⟩;have h2:TC cb [vc,vn] w5:=(h.s.below a).block (b.block _ (ZH h.s.lt a.size) (λe=>by have:=(h.c.blk _ e.symm).1;have:=h.lt;omega));exact h2 0 _ rfl
def Cs.next{a:Addr}{u:Value}(x:Int)(h:Cs base cb vc vn ck nt (w5.setCell a u))(z:base<=w5.heap.size):
  OwnL base vn nt ((w5.setCell a u).alloc (.cells #[I6 x] 3))/\((w5.setCell a u).alloc (.cells #[I6 x] 3)).cell? (a_ w5.heap.size 0)=some (I6 x)/\base<=((w5.setCell a u).alloc (.cells #[I6 x] 3)).heap.size /\
  ∀w7,((w5.setCell a u).alloc (.cells #[I6 x] 3)).grownBy w7 vn.ownBlock->w7.cell? (a_ cb 1)=some vn/\w7.frozen? (a_ cb 1)=false:=by
 have c:(w5.setCell a u).heap.size=w5.heap.size:=by simp[World.setCell]
 generalize w5.setCell a u=W at *;have b:=box_bel W (.cells #[I6 x] 3);refine⟨h.n.below b,by rw[<-c,Zm];rfl,ZJ Qo b.size,λw7 d=>?_⟩;have h2:TC cb [vc,vn] w7:=(h.s.below b).block (d.block _ (ZH h.s.lt b.size) (λe=>by have:=(h.n.blk _ e.symm).1;have:=h.lt;omega));exact h2 1 _ rfl
def Ca(w:World)(a:Addr):Nat:=match w.cell? a with|some (.slice _ n _)=>n|_=>0
def IN{a:Addr}{d:Option Addr}(h:w.cell? a=some (.slice d n c)):Ca w a=n:=by unfold Ca;rw[h]
def Je(l:List Int)(j:Nat):l++List.replicate j (-1)++[-1]=l++List.replicate (j+1) (-1):=by
 rw[Zs,List.replicate_succ']
def As(base cb:Nat)(vc vn:Value)(ck nt:List Int)(k:Nat)(s x:Int)(w:World)(h:Cs base cb vc vn ck nt w)(he:ck.length=nt.length)(hk:k<=100000)(az:ck.length<=100000)(an:base<=w.heap.size):
  Cp 75 #[pT cb,I6 k,I6 s,I6 x] w λe w'=>e=.returned (.tuple #[])/\∃vc' vn',Cs base cb vc' vn' (Pk.put ck k s) (Pk.put nt k x) w'/\WG cb vc vn vc' vn' w w':=by
 have H0:=hyd h;have He:=hyd he;clear h;go_enter func75,ntmps75;go_wp2
 go_loopw [] (λw'=>∃(j:Nat) (vc' vn':Value),j<=k+1-ck.length/\Cs base cb vc' vn' (ck++List.replicate j (-1)) (nt++List.replicate j (-1)) w'/\WG cb vc vn vc' vn' w w') (λw'=>k+1-Ca w' (a_ cb 0))
 .exact⟨0,vc,vn,Qo,by simpa using H0.o,WG.refl _ _ _ _⟩
 let⟨j,vc',vn',hj,S,P⟩:=hrel;let⟨L,E⟩:=nam (ck++List.replicate j (-1));let⟨M,F⟩:=nam (nt++List.replicate j (-1));have U:L.length=ck.length+j:=by rw[E];simp
 have V:M.length=ck.length+j:=by rw[F,he];simp
 rw[<-E,<-F]at S;have I:=hyd E;have N:=hyd F;have ap:L.length<=200002:=Qo
 have aq:M.length<=200002:=Qo
 have t:L.length<=k->j+1<=k+1-ck.length:=Qo
 have r:¬L.length<=k->j=k+1-ck.length:=Qo
 have B:¬L.length<=k->k<M.length:=Qo
 have K:=hyd t;have J:=hyd r;have R:=hyd B;clear E F H0 he U V t r B;obtain⟨ad,cp,rfl,_⟩:=S.c.il;obtain⟨p,q,rfl,_⟩:=S.n.il;have c0:=(S.s 0 _ rfl).1;have c1:=(S.s 1 _ rfl).1;have Z:=ZJ an P.bel.size;have f:=IN c0;have d:=hyd f;clear f;by_cases l:L.length<=k
 .have ak:(L.length:Int)<=(k:Int):=Qo
  let⟨u,ah,aa,z⟩:=S.first (-1) Z;have G:=hyd z;have HX:Hid (∀g cap w5,OwnL base (sL g (L.length+1) cap) (L++[-1]) w5->(wr.alloc (.cells #[I6 (-1)] 3)).grownBy w5 (Value.slice ad L.length cp).ownBlock->((Value.slice ad L.length cp).ownBlock=some g\/g=(wr.alloc (.cells #[I6 (-1)] 3)).heap.size) ->
    Cs base cb (sL g (L.length+1) cap) (.slice p M.length q) (L++[-1]) M (w5.setCell (a_ cb 0) (sL g (L.length+1) cap))/\WG cb vc vn (sL g (L.length+1) cap) (.slice p M.length q) w (w5.setCell (a_ cb 0) (sL g (L.length+1) cap))):=λg cap w5 h1 h2 h3=>by
   have h:=S.pushC rfl h1 h2 h3;exact⟨h.1,P.trans h.2⟩
  clear S P z;go_wp2_with (first
   |(at_builtin;apply wpList_append_int Qr _ _ Qr base (.slice ad L.length cp) L Qr u Qo wr.heap.size (-1) Qr ah aa _ rfl;intro g cap w5 v b ac ae;let⟨c5,al⟩:=G.o w5 b;let⟨T,P5⟩:=HX.o g cap w5 v b ac;have c6:=(T.s 1 _ rfl).1;let⟨W,ag,Y,A⟩:=T.next (-1) (ZJ (v.blk g rfl).1 (ZM ae));have H:Hid (∀C,((w5.setCell (a_ cb 0) (sL g (L.length+1) cap)).alloc (.cells #[I6 (-1)] 3)).grownBy C (Value.slice p M.length q).ownBlock->C.cell? (a_ cb 1)=some (.slice p M.length q)/\C.frozen? (a_ cb 1)=false):=A;clear A u)
   |(at_builtin;apply wpList_append_int Qr _ _ Qr base (.slice p M.length q) M Qr W Qo w5.heap.size (-1) Qr ag Y _ rfl;intro g7 ai C X a y aw;let⟨c7,am⟩:=H.o C a))
  let⟨D,P7⟩:=T.pushN rfl X a y;have P8:=P5.trans P7;have af:=IN (D.s 0 _ rfl).1;rw[I.o,N.o,Je,Je]at D;rw[<-I.o,<-N.o]at D;go_roundw
  .exact⟨j+1,_,_,K.o l,D,P8⟩
  rw[af,d.o];omega
 have ar:¬(L.length:Int)<=(k:Int):=Qo
 have i:=J.o l;have aj:=R.o l;have m:Hid (L.set k s=Pk.put ck k s):=by show _=_;rw[I.o,i];rfl
 have o:Hid (M.set k x=Pk.put nt k x):=by show _=_;rw[N.o,i,He.o];rfl
 let⟨g,cg,hg⟩:=S.c.some_ Qo;let⟨g',ao,ab⟩:=S.n.some_ Qo;cases hg;cases ab;let⟨k1,ax⟩:=S.c.at_ k Qo;let⟨S1,P1⟩:=S.setC k s;have d1:=(S1.s 1 _ rfl).1;let⟨k2,ay⟩:=S1.n.at_ k Qo;let⟨S2,P2⟩:=S1.setN k x;have au:(k:Int)<(L.length:Int):=Qo
 have av:(k:Int)<(M.length:Int):=Qo
 have P3:=(P.trans P1).trans P2;rw[m.o,o.o]at S2;have Q:=hyd S2;have O:=hyd P3;clear S S1 P1 S2 P2 P3 P m o d i;go_wp2;go_end0;exact⟨rfl,_,_,Q.o,O.o⟩
end
section
open Go.RowKit
def Wr(b base:Nat)(l:List UInt8)(w:World):Prop:=
 b<base/\w.frozen? ⟨b,0,none⟩=false/\∃v,w.cell? ⟨b,0,none⟩=some v/\YI base v (JC l) w
def Vl(b base:Nat)(w:World)(l:List UInt8)(e:Ending)(w':World):Prop:=e=.returned (.tuple #[])/\Wr b base l w'/\Below b w w'
def XI(b base:Nat)(l:List UInt8)(x:Int)(w:World)(H:base<=w.heap.size)(J:l.length<=1000000)(h:Wr b base l w):
  Cp 78 #[pT b,I6 x] w (Vl b base w (l++[YV x])):=by
 let⟨h0,h1,v,h2,h3⟩:=h;let⟨i,C,s,t,y⟩:=E3;have z:=h3.alloc (.cells #[.int .u8 (x%256)] 5);have n:∀j u,[Value.int .u8 (x%256)][j]?=some u->(w.alloc (.cells #[.int .u8 (x%256)] 5)).cell? (a_ w.heap.size j)=some u:=λj u D=>by
  rw[Zm];simpa using D
 have f:b<w.heap.size:=Ze w _ h2;have m:some b≠v.ownBlock:=λe=>by have:=h3.ge b e.symm;omega
 have o:(w.alloc (.cells #[.int .u8 (x%256)] 5)).cell? (a_ b 0)=some v:=by rw[fq _ _ _ (by exact f)];exact h2
 have q:(w.alloc (.cells #[.int .u8 (x%256)] 5)).frozen? (a_ b 0)=false:=by
  rw[fd (w:=w) (a:=(a_ b 0)) (Below.heap_alloc w _ b f)];exact h1
 have A:Below b w (w.alloc (.cells #[.int .u8 (x%256)] 5)):=(Zk _ _).alloc Qo _;go_enter func78,ntmps78;go_wp2_with (first|(at_builtin;refine Pf Qr _ _ 99 5 Qr i (.int .u8 0) 1 u_g C s t y rfl Qo base v (JC l) Qr z w.heap.size 1 [.int .u8 (x%256)] Qr rfl n (by simp[Value.oneCell']) (by rw[JL];omega) Qp Qo ?_;intro g cap w2 d c;have E:=c.cell o m;have F:w2.frozen? (a_ b 0)=false:=(c.frozen_far (a_ b 0) Qp m).trans q));go_end0;refine⟨rfl,⟨h0,?_,sL g ((JC l).length+1) cap,?_,?_⟩,?_⟩
 .rw[fw];exact F
 .exact fy w2 (a_ b 0) _ (by rw[E])
 .have B:JC (l++[YV x])=JC l++[.int .u8 (x%256)]:=by rw[FE];simp[JC,XY]
  rw[B];refine d.block (by simp[World.setCell]) (λk _ r=>Zq w2 (a_ b 0) _ k (λe=>?_));have:=d.ge k r;have e':k=b:=e;omega
 refine(A.grown c Qp (λk r=>by have:=h3.ge k r;omega)).setCell (p:=(a_ b 0)) (Zg _) _
def Pa(b base:Nat)(l:List UInt8)(x:Int)(w:World)(z:base<=w.heap.size)(H:l.length<=900000)(h:Wr b base l w):
  Cp 79 #[pT b,I6 x] w (Vl b base w (l++[YV (x/256),YV x])):=by
 have f:=hyd (XI b base l (x/256) w z Qo h);have g:Hid (∀w',Wr b base (l++[YV (x/256)]) w'->base<=w'.heap.size->Cp 78 #[pT b,I6 x] w' (Vl b base w' ((l++[YV (x/256)])++[YV x]))):=λw' i d=>XI b base _ x w' d Qp i
 go_enter func79,ntmps79;go_wp2_with fail;apply f.o.mono;rintro e w1 ⟨rfl,h1,a⟩;go_wp2_with fail;apply(g w1 h1 (ZJ z a.size)).mono;rintro e w2 ⟨rfl,h2,c⟩;go_wp2;go_end0;exact⟨rfl,by simpa using h2,a.trans c⟩
def XA(f:Nat->Int)(n:Nat)(more:Int):List UInt8:=(List.range n).map λi=>YV (f i+more)
def Lf(f:Nat->Int)(n:Nat)(more:Int):XA f (n+1) more=XA f n more++[YV (f n+more)]:=by simp[XA,ZT]
def WQ(f:Nat->Int)(n:Nat)(more:Int):(XA f n more).length=n:=by simp[XA]
def Yu(f:Nat->Int)(n:Nat)(wide:Int):List UInt8:=(List.range n).flatMap λi=>if wide=2 then [YV (f i/256),YV (f i)] else [YV (f i)]
def Xv(f:Nat->Int)(n:Nat)(z:Int):Yu f (n+1) z=Yu f n z++(if z=2 then [YV (f n/256),YV (f n)] else [YV (f n)]):=by simp[Yu,ZT]
def Rb(f:Nat->Int)(z:Int):∀n,(Yu f n z).length<=2*n
 |0=>by simp[Yu]
 |n+1=>by
  rw[Xv,Zl];have:=Rb f z n;split<;>(simp;omega)
def X4(f g:Nat->Int)(n:Nat):List UInt8:=(List.range n).flatMap λi=>[YV (f i+1),YV (g i+1)]
def Vq(f g:Nat->Int)(n:Nat):X4 f g (n+1)=X4 f g n++[YV (f n+1),YV (g n+1)]:=by simp[X4,ZT]
def Wv(f g:Nat->Int):∀n,(X4 f g n).length=2*n
 |0=>by simp[X4]
 |n+1=>by rw[Vq,Zl,Wv f g n];simp;omega
def SG(b base:Nat)(l:List UInt8)(ad:Option Addr)(n cap:Nat)(f:Nat->Int)(more:Int)(w0 w:World)(Y:base<=w.heap.size)(hl:l.length+n<=900000)(hm:0<=more/\more<=1)(Z:∀i,i<n->-1<=f i/\f i<=1000000)
  (H:w0.heap.size<=b) (J:IL ad f n w0) (z:Bl w0 w) (h:Wr b base l w):
  Cp 80 #[pT b,.slice ad n cap,I6 more] w (Vl b base w (l++XA f n more)):=by
 have p:=hyd J;have o:=hyd Z;go_enter func80,ntmps80;go_wp2
 go_loopw [10] (λi w'=>∃k:Nat,k<=n/\i=I6 k/\Wr b base (l++XA f k more) w'/\Below b w w') (λi _=>n-(intOf i).toNat)
 .exact⟨0,Qo,rfl,by simpa[XA]using h,Zk _ _⟩
 obtain⟨k,u,rfl,a,d⟩:=hrel;by_cases c:k<n
 .have m:(k:Int)<n:=Qo
  obtain⟨t,v,rfl,c1⟩:=p.o.below (z.trans (d.mono H)) k c;have r:=o.o k c;have q:Hid (Cp 78 #[pT b,I6 (f k+more)] wr (Vl b base wr (l++XA f (k+1) more))):=by
   have:=XI b base (l++XA f k more) (f k+more) wr (ZJ Y d.size) (by rw[Zl,WQ];omega) a;rw[Zs,<-Lf]at this;exact this
  generalize f k=x at *;go_wp2_with fail;apply q.o.mono;rintro e w2 ⟨rfl,h2,g⟩;go_wp2;go_roundw
  .exact⟨k+1,Qo,Qg,h2,d.trans g⟩
  simp[intOf];omega
 have s:¬(k:Int)<n:=Qo
 have j:k=n:=Qo
 subst j;go_wp2;go_end0;exact⟨rfl,a,d⟩
def Kl(b base:Nat)(l:List UInt8)(ad:Option Addr)(n cap:Nat)(f:Nat->Int)(z:Int)(w0 w:World)(Y:base<=w.heap.size)(hl:l.length+2*n<=900000)
  (J:w0.heap.size<=b) (Z:IL ad f n w0) (H:Bl w0 w) (h:Wr b base l w):
  Cp 81 #[pT b,.slice ad n cap,I6 z] w (Vl b base w (l++Yu f n z)):=by
 have q:=hyd Z;go_enter func81,ntmps81;go_wp2
 go_loopw [10] (λi w'=>∃k:Nat,k<=n/\i=I6 k/\Wr b base (l++Yu f k z) w'/\Below b w w') (λi _=>n-(intOf i).toNat)
 .exact⟨0,Qo,rfl,by simpa[Yu]using h,Zk _ _⟩
 obtain⟨k,t,rfl,c,d⟩:=hrel;by_cases m:k<n
 .have p:(k:Int)<n:=Qo
  obtain⟨s,u,rfl,c1⟩:=q.o.below (H.trans (d.mono J)) k m;have o:=Rb f z k;by_cases h2:z=2
  .have g:Hid (Cp 79 #[pT b,I6 (f k)] wr (Vl b base wr (l++Yu f (k+1) z))):=by
    have:=Pa b base (l++Yu f k z) (f k) wr (ZJ Y d.size) (by rw[Zl];omega) c;rw[Zs]at this;rw[Xv,dF h2];exact this
   subst h2;generalize f k=x at *;go_wp2_with fail;apply g.o.mono;rintro e w2 ⟨rfl,h2,a⟩;go_wp2;go_roundw
   .exact⟨k+1,Qo,Qg,h2,d.trans a⟩
   simp[intOf];omega
  have g:Hid (Cp 78 #[pT b,I6 (f k)] wr (Vl b base wr (l++Yu f (k+1) z))):=by
   have:=XI b base (l++Yu f k z) (f k) wr (ZJ Y d.size) (by rw[Zl];omega) c;rw[Zs]at this;rw[Xv,dG h2];exact this
  have v:(z==2)=false:=by simpa using h2
  generalize f k=x at *;go_wp2_with fail;apply g.o.mono;rintro e w2 ⟨rfl,h2,a⟩;go_wp2;go_roundw
  .exact⟨k+1,Qo,Qg,h2,d.trans a⟩
  simp[intOf];omega
 have r:¬(k:Int)<n:=Qo
 have j:k=n:=Qo
 subst j;go_wp2;go_end0;exact⟨rfl,c,d⟩
def Km(b base:Nat)(l:List UInt8)(ad H:Option Addr)(n cap J:Nat)(f f':Nat->Int)(w0 w:World)(hb:base<=w.heap.size)(hl:l.length+2*n<=900000)(hf:∀i,i<n->(-1<=f i/\f i<=1000000)/\(-1<=f' i/\f' i<=1000000))
  (Z:w0.heap.size<=b) (hI:IL ad f n w0) (aa:IL H f' n w0) (Y:Bl w0 w) (h:Wr b base l w):
  Cp 82 #[pT b,.slice ad n cap,.slice H n J] w (Vl b base w (l++X4 f f' n)):=by
 have A:=hyd hI;have j:=hyd aa;have z:=hyd hf;go_enter func82,ntmps82;go_wp2
 go_loopw [10] (λi w'=>∃k:Nat,k<=n/\i=I6 k/\Wr b base (l++X4 f f' k) w'/\Below b w w') (λi _=>n-(intOf i).toNat)
 .exact⟨0,Qo,rfl,by simpa[X4]using h,Zk _ _⟩
 obtain⟨k,F,rfl,g,d⟩:=hrel;by_cases c:k<n
 .have v:(k:Int)<n:=Qo
  obtain⟨E,G,rfl,c1⟩:=A.o.below (Y.trans (d.mono Z)) k c;have C:=z.o k c;have u:=Wv f f' k;have B:Hid (Cp 78 #[pT b,I6 (f k+1)] wr (Vl b base wr (l++X4 f f' k++[YV (f k+1)]))):=
   XI b base (l++X4 f f' k) (f k+1) wr (ZJ hb d.size) (by rw[Zl];omega) g
  have m:Hid (∀w',Wr b base (l++X4 f f' k++[YV (f k+1)]) w'->base<=w'.heap.size->Cp 78 #[pT b,I6 (f' k+1)] w' (Vl b base w' (l++X4 f f' (k+1)))):=λw' p r=>by
   have:=XI b base (l++X4 f f' k++[YV (f k+1)]) (f' k+1) w' r (by simp only[Zl,dZ,eO];omega) p;rw[Zs,Zs]at this;rw[Vq];exact this
  have y:Hid (∀w',Below b wr w'->∃o t,H=some (a_ o t)/\w'.cell? (a_ o (t+k))=some (I6 (f' k))):=λw' p=>j.o.below (Y.trans ((d.trans p).mono Z)) k c
  generalize f k=x at *;generalize f' k=x' at *;go_wp2_with fail;apply B.o.mono;rintro e w2 ⟨rfl,h2,a⟩;obtain⟨o,t,rfl,c2⟩:=y.o w2 a;go_wp2_with fail;apply(m w2 h2 (ZJ (ZJ hb d.size) a.size)).mono;rintro e w3 ⟨rfl,h3,q⟩;go_wp2;go_roundw
  .exact⟨k+1,Qo,Qg,h3,(d.trans a).trans q⟩
  simp[intOf];omega
 have D:¬(k:Int)<n:=Qo
 have s:k=n:=Qo
 subst s;go_wp2;go_end0;exact⟨rfl,g,d⟩
def YE(f:Nat->Int):Nat->Int
 |0=>1
 |k+1=>if 255<f k then 2 else YE f k
def Va(f:Nat->Int):∀k,YE f k=1\/YE f k=2
 |0=>Or.inl rfl
 |k+1=>by rw[YE];split;exact Or.inr rfl;exact Va f k
variable {b base k n:Nat}{f:Nat->Int}{w w':World}
def NS(h:YE f k=2):∀d,YE f (k+d)=2
 |0=>h
 |d+1=>by rw[<-ZN,YE,NS h d];split<;>rfl
def VW(T:Tb):List UInt8:=
 [77,85,78,49]++[YV T.rules,YV ((Vc T.cl T.ncl:Int)-1),YV T.nlb,YV ((T.nck:Int)/256),YV T.nck,YV (YE T.bs T.nbs)] ++
  XA T.cl T.ncl 0++XA T.lb T.nlb 1++Yu T.bs T.nbs (YE T.bs T.nbs)++XA T.df T.ndf 1++X4 T.ck T.nx T.nck
def XR(T:Tb):List UInt8:=VW T++Uc (VW T)
def DI(a b:List UInt8):(⟨(a++b).toArray⟩:ByteArray)=⟨a.toArray⟩++⟨b.toArray⟩:=by
 apply ByteArray.ext;simp
def zx(T:Tb)(w:World)(e:Ending)(w':World):Prop:=
 Below w.heap.size w w'/\((PX T/\e=.returned (.tuple #[.string ⟨(XR T).toArray⟩,.int .i64 0]))\/(¬PX T/\e=.returned (.tuple #[.string ⟨#[]⟩,.int .i64 11])))
def Jv(ad:Option Addr)(n cap:Nat)(f:Nat->Int)(w:World)(z:n<=maxLen)(h:IL ad f n w):
  Cp 77 #[.slice ad n cap] w λe w'=>e=.returned (I6 (YE f n))/\w'=w:=by
 unfold maxLen at z;have H:=hyd h;go_enter func77,ntmps77;go_wp2
 go_loop [7] (λi=>∃k:Nat,k<=n/\i=I6 k/\Hid (YE f k=1)) (λi=>n-(intOf i).toNat)
 .exact⟨0,Qo,rfl,rfl⟩
 obtain⟨k,o,rfl,g⟩:=hrel;by_cases d:k<n
 .have j:(k:Int)<n:=Qo
  obtain⟨b,m,rfl,c1⟩:=H.o k d;by_cases h1:255<f k
  .have a:Hid (YE f n=2):=by
    have:YE f (k+1)=2:=by rw[YE,dF h1]
    have:=NS this (n-(k+1));rw[show k+1+(n-(k+1))=n by omega]at this;exact this
   go_wp2;go_ret;exact⟨Y2 a.o.symm,rfl⟩
  have a:Hid (YE f (k+1)=1):=by show _=_;rw[YE,dG h1];exact g.o
  go_wp2
  go_round
  .exact⟨k+1,Qo,Qg,a⟩
  simp[intOf];omega
 have l:¬(k:Int)<n:=Qo
 have c:k=n:=Qo
 subst c;go_wp2;go_ret;exact⟨Y2 g.o.symm,rfl⟩
def YI.magic(base:Nat)(w:World)(z:base<=w.heap.size):YI base (.slice (some (a_ w.heap.size 0)) 4 4) (JC [77,85,78,49]) (w.alloc (.cells #[.int .u8 77,.int .u8 85,.int .u8 78,.int .u8 49] 5 (4,5))):=by
 refine Or.inr ⟨w.heap.size,4,rfl,z,Qs,by simp[JC],λj u a=>?_,λj b=>?_⟩
 .rw[World.cell?_alloc_mark];simpa[JC]using a
 rw[World.cell?_alloc_mark];refine⟨by rcases j with _|_|_|_|j<;>first|rfl|omega,?_⟩;have:(w.alloc (.cells #[.int .u8 77,.int .u8 85,.int .u8 78,.int .u8 49] 5 (4,5))).heap[w.heap.size]?=some (.cells #[.int .u8 77,.int .u8 85,.int .u8 78,.int .u8 49] 5 (4,5)):=heap_alloc_new w _;generalize w.alloc (.cells #[.int .u8 77,.int .u8 85,.int .u8 78,.int .u8 49] 5 (4,5))=W at *;simp[World.frozen?,this];omega
def ON:∀ {k n:Nat},YD f k=some n->∀i,i<k->0<=f i/\f i<k
 |0,_,_,i,hi=>Qo
 |k+1,n,h,i,hi=>by
  rw[YD]at h;rcases hc:YD f k with _|m
  .rw[hc]at h;cases h
  have b:=Qf hc;rw[hc]at h;simp only at h;split at h
  .cases h
  rename_i a;by_cases e:i=k
  .subst e;omega
  have:=ON hc i Qo;omega
def DK(h:0<Vc f n)(i:Nat)(z:i<n):0<=f i/\f i<256:=by
 unfold Vc at h;split at h
 .rename_i a;rcases hc:YD f 256 with _|m
  .rw[hc]at h;simp at h
  exact ON hc i Qo
 omega
def Wr.heap{l:List UInt8}(h:Wr b base l w)(z:w'.heap=w.heap):Wr b base l w':=by
 let⟨h0,h1,v,h2,h3⟩:=h;refine⟨h0,?_,v,?_,h3.block (by rw[z];exact Zg _) (λk _ _=>by rw[z])⟩
 .rw[fd (w:=w) (a:=(a_ b 0)) (by rw[z])];exact h1
 rw[eZ (w:=w) (a:=(a_ b 0)) (by rw[z])];exact h2
def SS(b:Nat)(T:Tb)(A:QZ)(w:World)(hs:Dw T)(h:VY b T A w)(hI:Tz T A w):
  Cp 36 #[pT b] w (zx T w):=by
 have HS:=hyd (KJ b T A w hs h hI);have m1:T.ncl<=maxLen:=by have:=hs.s1;unfold maxLen;omega
 have m3:T.nbs<=maxLen:=by have:=hs.s3;unfold maxLen;omega
 have HI:Hid (∀w',Bl w w'->Tz T A w'):=λw' hW=>hI.below hW
 have l:Hid (∀w',Bl w w'->VY b T A w'):=λw' hW=>h.below hW
 have a7:=h.lt;clear hI h;go_enter func36,ntmps36;go_wp2_with fail;refine HS.o.mono ?_;rintro e w1 ⟨bb,rfl,K,m⟩;clear HS;cases bb
 .have HN:Hid (¬PX T):=λh=>by have:=K.2 h;cases this
  clear K;go_wp2_with fail;go_ret2;exact⟨m,Or.inr ⟨HN,rfl⟩⟩
 have G:=K.1 rfl;clear K;have F:=hyd G;have ao:=G.hd.2.2.1;have aQ:=MA T.cl T.ncl;have hr:=G.hd.1;have hl:=G.hd.2.1;have e3:=G.e3;have e4:=G.e4;have e6:=G.e6;have e5:=G.e5;have Z:T.ncl=256:=by
  rcases Nat.decEq T.ncl 256 with h|h
  .simp[Vc,h]at ao
  exact h
 have F1:Hid (Cp 77 #[.slice A.a3 T.nbs A.c3] w1 λe w'=>e=.returned (I6 (YE T.bs T.nbs))/\w'=w1):=Jv _ _ _ _ _ m3 (HI w1 m).l3;have F2:Hid (Cp 71 #[.slice A.a1 T.ncl A.c1] w1 λe w'=>e=.returned (I6 (Vc T.cl T.ncl))/\w'=w1):=WR _ _ _ _ _ m1 (HI w1 m).l1;have kc:(convert 99 99 (.slice (some (a_ (w1.heap.size+1) 0)) 4 4)).run prog ((w1.alloc (.cells #[sN] 166)).alloc (.cells #[.int .u8 77,.int .u8 85,.int .u8 78,.int .u8 49] 5))=.ok (.slice (some (a_ (w1.heap.size+1) 0)) 4 4) ((w1.alloc (.cells #[sN] 166)).alloc (.cells #[.int .u8 77,.int .u8 85,.int .u8 78,.int .u8 49] 5 (4,5))):=by
  have:=Lib.run_convert_bytes_const (P:=prog) (w1.alloc (.cells #[sN] 166)) 99 5 #[.int .u8 77,.int .u8 85,.int .u8 78,.int .u8 49] 4 4 u_g u_l;have E:(w1.alloc (.cells #[sN] 166)).heap.size=w1.heap.size+1:=Qs
  rw[E]at this;exact this
 have aO:=ZH a7 m.size;obtain⟨d,a9⟩:=nam w1.heap.size;obtain⟨W,f⟩:=nam (((w1.alloc (.cells #[sN] 166)).alloc (.cells #[.int .u8 77,.int .u8 85,.int .u8 78,.int .u8 49] 5 (4,5))));rw[<-f]at kc;have n:(w1.alloc (.cells #[sN] 166)).heap.size=w1.heap.size+1:=Qs
 have Y:W.heap.size=w1.heap.size+2:=by rw[f];simp
 have aR:W.cell? (a_ w1.heap.size 0)=some (sN):=by
  rw[f,fq _ _ _ (by rw[n];exact fF _),Zm];rfl
 have aS:W.frozen? (a_ w1.heap.size 0)=false:=by
  rw[f,fd (w:=w1.alloc (.cells #[sN] 166)) (a:=(a_ w1.heap.size 0)) (Below.heap_alloc _ _ _ (by rw[n];exact fF _))];go_simp
 have V:Bl w1 W:=by
  rw[f];exact((Zk _ _).alloc (Zg _) _).alloc (by rw[n];omega) _
 have ak:YI (w1.heap.size+1) (.slice (some (a_ (w1.heap.size+1) 0)) 4 4) (JC [77,85,78,49]) W:=by
  have:=YI.magic (w1.heap.size+1) (w1.alloc (.cells #[sN] 166)) (by rw[n];exact Zg _);rw[n,<-f]at this;exact this
 clear f n;have aj:=m.trans (V.mono m.size);have aK:Bl w (W.setCell (a_ w1.heap.size 0) (.slice (some (a_ (w1.heap.size+1) 0)) 4 4)):=aj.setCell (p:=(a_ w1.heap.size 0)) m.size _;have aN:Wr w1.heap.size (w1.heap.size+1) [77,85,78,49] (W.setCell (a_ w1.heap.size 0) (.slice (some (a_ (w1.heap.size+1) 0)) 4 4)):=
  ⟨fF _,by rw[fw];exact aS,_,fy W (a_ w1.heap.size 0) _ (by rw[aR]),ak.block (by simp[World.setCell]) (λk _ hk=>Zq W (a_ w1.heap.size 0) _ k (λe=>by have:=ak.ge k hk;have e':k=w1.heap.size:=e;omega))⟩
 obtain⟨d0,d1,d2,d3,d4,d5,d6⟩:=l.o w1 m;have f0:=(l W aj).c0;have bd:b≠w1.heap.size:=Qo
 have o:Hid ((0<Vc T.cl T.ncl/\Vc T.cl T.ncl<=256)/\(1<=T.rules/\T.rules<=8)/\(1<=T.nlb/\T.nlb<=96)/\T.nbs=T.nlb/\T.ndf=T.nlb/\T.nnx=T.nck/\T.nck<=24576/\T.ncl=256):=⟨⟨ao,aQ⟩,hr,hl,e3,e4,e6,e5,Z⟩;have aG:=hyd aN;have aF:=hyd aK;clear G e3 e4 e6 e5 Z ak V aj aK aN a9 ao aQ hr hl;go_wp2_with fail;refine F1.o.mono ?_;rintro e w1 ⟨rfl,rfl⟩;go_wp2_with fail;refine F2.o.mono ?_;rintro e w1 ⟨rfl,rfl⟩;clear F1 F2;go_wp2_with fail;have E:w1.heap.size+1<=(W.setCell (a_ w1.heap.size 0) (.slice (some (a_ (w1.heap.size+1) 0)) 4 4)).heap.size:=by simp[World.setCell,Y]
 have c:=m.size;clear d0 d1 d2 d3 d4 d5 d6 f0 aR aS Y kc m aO bd;generalize W.setCell (a_ w1.heap.size 0) (.slice (some (a_ (w1.heap.size+1) 0)) 4 4)=W2 at *;generalize w1.heap.size=d at *;have r:=hyd (HI w (Zk _ _));have aB:Hid (∀i,i<T.ncl->-1<=T.cl i/\T.cl i<=1000000):=λi hi=>by have:=DK o.o.1.1 i hi;omega
 have aC:Hid (∀i,i<T.nlb->-1<=T.lb i/\T.lb i<=1000000):=λi hi=>by have h1:=F.o.hd.2.2.2 i hi;have h2:=o.o.2.1;omega
 have aD:Hid (∀i,i<T.ndf->-1<=T.df i/\T.df i<=1000000):=λi hi=>by have h0:=o.o;have h1:=F.o.b4 i Qo;omega
 have aE:Hid (∀i,i<T.nck->(-1<=T.ck i/\T.ck i<=1000000)/\(-1<=T.nx i/\T.nx i<=1000000)):=λi hi=>by
  have h0:=o.o;rcases F.o.cs i hi with h|h
  .omega
  omega
 obtain⟨⟨bf,bi⟩,⟨bn,bo⟩,⟨bj,bm⟩,n3,n4,n6,n5,n1⟩:=o.o;have N3:=hyd n3;have N4:=hyd n4;have N6:=hyd n6;have N1:=hyd n1;clear n3 n4 n6 n1;have aP:=Rb T.bs (YE T.bs T.nbs) T.nbs;refine ft (XI d (d+1) [77,85,78,49] T.rules W2 E Qs aG) ?_;rintro e w3 ⟨rfl,h3,ab⟩;have aL:=aF.o.trans (ab.mono c);have ap:=ZJ E ab.size;have L:=hyd h3;clear h3 ab aF aG E;go_wp2_with fail;refine ft (XI d (d+1) _ ((Vc T.cl T.ncl:Int)-1) w3 ap Qs L) ?_;rintro e w4 ⟨rfl,h4,ac⟩;have al:=aL.trans (ac.mono c);have aq:=ZJ ap ac.size;have d4:=(l w4 al).c2;have M:=hyd h4;clear h4 ac aL L ap;go_wp2_with fail;refine ft (XI d (d+1) _ (T.nlb:Int) w4 aq Qs M) ?_;rintro e w5 ⟨rfl,h5,ae⟩;have am:=al.trans (ae.mono c);have ar:=ZJ aq ae.size;have d5:=(l w5 am).c5;have N:=hyd h5;clear h5 ae al M aq d4;go_wp2_with fail;refine ft (Pa d (d+1) _ (T.nck:Int) w5 ar Qs N) ?_;rintro e w6 ⟨rfl,h6,af⟩;have aM:=am.trans (af.mono c);have au:=ZJ ar af.size;have O:=hyd h6;clear h6 af am N ar d5;go_wp2_with fail;refine ft (XI d (d+1) _ (YE T.bs T.nbs) w6 au Qs O) ?_;rintro e w7 ⟨rfl,h7,ag⟩;have H:=aM.trans (ag.mono c);have av:=ZJ au ag.size;have d7:=(l w7 H).c1;have az:Hid ((((([77,85,78,49]++[YV T.rules])++[YV ((Vc T.cl T.ncl:Int)-1)])++[YV T.nlb])++[YV ((T.nck:Int)/256),YV T.nck])++[YV (YE T.bs T.nbs)]=[77,85,78,49]++[YV T.rules,YV ((Vc T.cl T.ncl:Int)-1),YV T.nlb,YV ((T.nck:Int)/256),YV T.nck,YV (YE T.bs T.nbs)]):=by show _=_;simp
 rw[az.o]at h7;generalize hH:([77,85,78,49]++[YV T.rules,YV ((Vc T.cl T.ncl:Int)-1),YV T.nlb,YV ((T.nck:Int)/256),YV T.nck,YV (YE T.bs T.nbs)]:List UInt8)=HD at h7;have be:HD.length=10:=by rw[<-hH];rfl
 have HH:Hid (VW T=((((HD++XA T.cl T.ncl 0)++XA T.lb T.nlb 1)++Yu T.bs T.nbs (YE T.bs T.nbs))++XA T.df T.ndf 1)++X4 T.ck T.nx T.nck):=by show _=_;rw[<-hH];rfl
 have Q:=hyd h7;clear h7 ag aM O au az hH;go_wp2_with fail;refine ft (SG d (d+1) HD A.a1 T.ncl A.c1 T.cl 0 w w7 av (by have:=N1.o;omega) Qo aB c r.o.l1 H Q) ?_;rintro e w8 ⟨rfl,h8,ah⟩;have I:=H.trans (ah.mono c);have aw:=ZJ av ah.size;have d8:=(l w8 I).c2;have R:=hyd h8;clear h8 ah H Q av d7;go_wp2_with fail;refine ft (SG d (d+1) _ A.a2 T.nlb A.c2 T.lb 1 w w8 aw (by have:=N1.o;rw[Zl,WQ];omega) Qo aC c r.o.l2 I R) ?_;rintro e w9 ⟨rfl,h9,ai⟩;have J:=I.trans (ai.mono c);have ax:=ZJ aw ai.size;have d9:=(l w9 J).c3;have S:=hyd h9;clear h9 ai I R aw d8;go_wp2_with fail;refine ft (Kl d (d+1) _ A.a3 T.nbs A.c3 T.bs (YE T.bs T.nbs) w w9 ax (by have:=N1.o;have:=N3.o;simp only[Zl,WQ];omega) c r.o.l3 J S) ?_;rintro e aT ⟨rfl,aH,y⟩;have s:=J.trans (y.mono c);have D:=ZJ ax y.size;have aW:=(l aT s).c4;have u:=hyd aH;clear aH y J S ax d9;go_wp2_with fail;refine ft (SG d (d+1) _ A.a4 T.ndf A.c4 T.df 1 w aT D (by have:=N1.o;have:=N3.o;have:=N4.o;simp only[Zl,WQ];omega) Qo aD c r.o.l4 s u) ?_;rintro e ay ⟨rfl,aI,z⟩;have q:=s.trans (z.mono c);have aa:=ZJ D z.size;have aX:=(l ay q).c5;have aY:=(l ay q).c6;have x:=hyd aI;clear aI z s u D aW;have aA:Hid (∀w',w'.heap=ay.heap->Bl w w'->Cp 82 #[pT d,.slice A.a5 T.nck A.c5,.slice A.a6 T.nnx A.c6] w' (Vl d (d+1) w' (VW T))):=λw' hw a0=>by
  rw[HH.o,N6.o];exact Km d (d+1) _ A.a5 A.a6 T.nck A.c5 A.c6 T.ck T.nx w w' (by rw[hw];exact aa) (by have:=N1.o;have:=N3.o;have:=N4.o;simp only[Zl,WQ];omega) aE.o c r.o.l5 (by rw[<-N6.o];exact r.o.l6) a0 (x.o.heap hw)
 go_wp2_with fail
 go_region_with ((go_at_call 82;refine ft (aA _ rfl q.drew) ?_;rintro e t ⟨rfl,aZ,U⟩))
 all_goals
  have X:=q.drew.trans (U.mono c);have an:(VW T).length<=1000000:=by
   have:=N1.o;have:=N3.o;have:=N4.o;rw[HH.o];simp only[Zl,WQ,Wv];omega
  have a8:0<(VW T).length:=by rw[HH.o];simp only[Zl];omega
  obtain⟨_,q1,v,q2,q3⟩:=aZ;clear U aA x HH aa aX aY q aP aB aC aD aE r;generalize B:VW T=body at *;have HF:Hid (XR T=body++Uc body):=by show _=_;rw[XR,B]
  clear B;rcases q3 with ⟨_,h⟩|⟨g,cap,rfl,_,_,_,q4,_⟩
  .have:(JC body).length=0:=by rw[h];rfl
   rw[JL]at this;omega
  rw[JL]at q2;obtain⟨s1,C⟩:∃s1:ByteArray,s1=⟨body.toArray⟩:=⟨_,rfl⟩;obtain⟨s2,hs2⟩:∃s2:ByteArray,s2=⟨(Uc body).toArray⟩:=⟨_,rfl⟩;have z1:s1.size<=1000000:=by rw[C];simpa[ByteArray.size]using an
  have z2:s2.size=4:=by rw[hs2];rfl
  have bc:(convert 99 9 (sL g body.length cap)).run prog t=.ok (.string s1) t:=by
   rw[C];exact run_convert_bytes_back (P:=prog) t 99 9 5 (a_ g 0) cap body u_g u_l u_h (λj hj=>by
    rw[fe,Zn];exact q4 j _ (by simp[JC,hj]))
  have aV:Hid (Cp 83 #[.string s1] t λe w'=>e=.returned (.string s2)/\Bl t w'):=by
   have h:=Jk s1 t z1;rw[show Uc s1.data.toList=Uc body by rw[C],<-hs2]at h;exact h
  have aU:Hid ((⟨(XR T).toArray⟩:ByteArray)=s1++s2):=by
   show _=_;rw[HF.o,C,hs2];exact DI _ _
  clear q4 C hs2 HF;go_wp2_with fail;refine aV.o.mono ?_;rintro e bp ⟨rfl,aJ⟩;go_wp2_with fail;go_ret2;refine⟨X.trans (aJ.mono X.size),Or.inl ⟨F.o,?_⟩⟩;rw[aU.o];rfl
namespace Bu
open Go.RowKit
open Bm
def triC(r:Int)(vv:Nat->Value):Array Value:=#[.int .i64 r,vv 1,vv 2,vv 3]
end Bu
end
