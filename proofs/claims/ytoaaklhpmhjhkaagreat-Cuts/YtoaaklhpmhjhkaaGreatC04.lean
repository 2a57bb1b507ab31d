import Derived.WalkSpells
import Derived.WalkLawsBesides
import Derived.Deep.QuietTactic
import Derived.BigQuiet
import Derived.Deep.RegionHeld3
import Derived.ArgAppend
import Derived.Laws.IdiomCopy
import Derived.Laws.IdiomStrings
import Derived.Laws.BitsAllLaws
import Derived.Lib.SlBytesConst
import Derived.Test.YtoaaklhpmhjhkaaGreatSp
import Derived.Test.YtoaaklhpmhjhkaaGreatC03
set_option maxRecDepth 100000
set_option maxHeartbeats 4000000
set_option linter.all false
namespace Go.Proofs.YtoaaklhpmhjhkaaGreat
open Go.Proofs.Tryz
section
open Go.RowKit
def IL(ad:Option Addr)(f:Nat->Int)(n:Nat)(w:World):Prop:=
 ∀i,i<n->∃b off,ad=some ⟨b,off,none⟩/\w.cell? ⟨b,off+i,none⟩=some (.int .i64 (f i))
variable {a:Act}{ops:Array Oper}{Q:Exit->Act->World->Prop}{rest:List Oper}{L cs xs:List Value}{b base base' g gb m n sz:Nat}{f:Nat->Int}{o:Oper}{ad ta:Option Addr}{v:Value}{w w':World}
def IL.below(h:IL ad f n w)(z:Bl w w'):IL ad f n w':=λi c=>by
 let⟨b,a,h1,h2⟩:=h i c;refine⟨b,a,h1,?_⟩;rw[z.cell (p:=(a_ b (a+i))) (Ze w (a_ b (a+i)) h2)];exact h2
def WP:∃i,prog.info? 3=some i/\i.zero=some (I6 0)/\i.size=1/\i.bytes=8:=by
 have h1:(prog.info? 3).isSome=true:=Qk
 let⟨i,a⟩:=Zx.1 h1;refine⟨i,a,?_,?_,?_⟩
 .have:((prog.info? 3).bind (·.zero))=some (I6 0):=Qk
  rw[a]at this;exact this
 .have:((prog.info? 3).map (·.size))=some 1:=Qk
  rw[a]at this;simpa using this
 have:((prog.info? 3).map (·.bytes))=some 8:=Qk
 rw[a]at this;simpa using this
def E3:∃i,prog.info? 5=some i/\i.zero=some (.int .u8 0)/\i.size=1/\i.bytes=1:=by
 have h1:(prog.info? 5).isSome=true:=Qk
 let⟨i,a⟩:=Zx.1 h1;refine⟨i,a,?_,?_,?_⟩
 .have:((prog.info? 5).bind (·.zero))=some (.int .u8 0):=Qk
  rw[a]at this;exact this
 .have:((prog.info? 5).map (·.size))=some 1:=Qk
  rw[a]at this;simpa using this
 have:((prog.info? 5).map (·.bytes))=some 1:=Qk
 rw[a]at this;simpa using this
def DO:∃i,prog.info? 4=some i/\i.zero=some (.bool false)/\i.size=1/\i.bytes=1:=by
 have h1:(prog.info? 4).isSome=true:=Qk
 let⟨i,a⟩:=Zx.1 h1;refine⟨i,a,?_,?_,?_⟩
 .have:((prog.info? 4).bind (·.zero))=some (.bool false):=Qk
  rw[a]at this;exact this
 .have:((prog.info? 4).map (·.size))=some 1:=Qk
  rw[a]at this;simpa using this
 have:((prog.info? 4).map (·.bytes))=some 1:=Qk
 rw[a]at this;simpa using this
def YI(base:Nat)(v:Value)(cs:List Value)(w:World):Prop:=
 (v=.slice none 0 0/\cs=[])\/∃g cap,v=.slice (some ⟨g,0,none⟩) cs.length cap/\base<=g/\g<w.heap.size/\cs.length<=cap /\
  (∀j u,cs[j]?=some u->w.cell? ⟨g,j,none⟩=some u)/\∀j,j<cap->(w.cell? ⟨g,j,none⟩).isSome=true/\w.frozen? ⟨g,j,none⟩=false
def YI.nil(base:Nat)(w:World):YI base (sN) [] w:=Or.inl ⟨rfl,rfl⟩
def YI.ge(h:YI base v cs w):∀k,v.ownBlock=some k->base<=k:=by
 intro k a;rcases h with ⟨rfl,_⟩|⟨g,cap,rfl,b,_⟩
 .cases a
 cases a;exact b
def YI.block(h:YI base v cs w)(hs:w.heap.size<=w'.heap.size)(z:∀k,k<w.heap.size->v.ownBlock=some k->w'.heap[k]?=w.heap[k]?):YI base v cs w':=by
 rcases h with h|⟨g,cap,rfl,h1,h2,h3,c,d⟩
 .exact Or.inl h
 have b:=z g h2 rfl;refine Or.inr ⟨g,cap,rfl,h1,Qo,h3,λj u f=>?_,λj e=>?_⟩
 .rw[eZ (w:=w) (a:=(a_ g j)) b];exact c j u f
 rw[eZ (w:=w) (a:=(a_ g j)) b,fd (w:=w) (a:=(a_ g j)) b];exact d j e
def YI.below(h:YI base v cs w)(z:Bl w w'):YI base v cs w':=
 h.block z.size (λk a _=>z.block k a)
def YI.alloc(h:YI base v cs w)(o:Obj):YI base v cs (w.alloc o):=
 h.below ((Zk _ _).alloc (Zg _) o)
def YI.mono(h:YI base v cs w)(z:base'<=base):YI base' v cs w:=by
 rcases h with h|⟨g,cap,h0,h1,h2⟩
 .exact Or.inl h
 exact Or.inr ⟨g,cap,h0,ZJ z h1,h2⟩
def YI.ofOwns{e:TypeId}(h:w.ownsRow base e 1 v n cs):YI base v cs w:=by
 have b:cs.length=n:=by simpa using h.1
 rcases h.2 with ⟨rfl,h0⟩|⟨g,cap,a,rfl,h1,h2,h3,d,f,i⟩
 .exact Or.inl ⟨rfl,dA Qo⟩
 refine Or.inr ⟨g,cap,by rw[b],h1,(Array.getElem?_eq_some_iff.1 h2).1,Qo,λj u c=>?_,λj k=>?_⟩
 .have:=h.cells (g:=g) rfl j u c;rw[fe]at this;simpa using this
 rw[cell_of_row w g j a e (0,0) h2];refine⟨Qp,?_⟩;simp[World.frozen?,h2]
def VE(b:Nat):∀(vs:List Value) (o:Nat) (w:World),(w.setCells b o vs).heap.size=w.heap.size
 |[],_,_=>rfl
 |v::r,o,w=>by rw[World.setCells,VE b r];simp[World.setCell]
def Y8(b:Nat):∀(vs:List Value) (o:Nat) (w:World),w.grownBy (w.setCells b o vs) (some b)
 |[],_,w=>⟨rfl,rfl,rfl,Zg _,λ_ _ _=>rfl⟩
 |v::r,o,w=>by
  have h:=Y8 b r (o+1) (w.setCell (a_ b o) v);refine⟨h.os,h.tape,h.output,?_,λk c a=>?_⟩
  .rw[VE];exact Zg _
  rw[World.setCells,h.block k (by simpa[World.setCell]using c) a];exact Zq w (a_ b o) v k (λe=>a (by rw[e]))
def Pf(hgd:o.guard=none)(s x:Operand)(t e:TypeId)
  (ho:o.op=.call { callee:=.builtin .append,args:=#[s,x],argTypes:=#[t,t] }) (i:TypeInfo) (z:Value) (bytes:Nat)
  (ht:prog.underlying t=some (.slice e)) (hi:prog.info? e=some i) (hz:i.zero=some z) (hsize:i.size=1) (hby:i.bytes=bytes) (hzs:z.cells.size=1) (hbyt:bytes<=8) (base:Nat)
  (v:Value) (cs:List Value) (hs:a.eval s=v) (hG:YI base v cs w)
  (B m:Nat) (news:List Value) (hx:a.eval x=.slice (some ⟨B,0,none⟩) m m) (hl:news.length=m) (hnews:∀j u,news[j]?=some u->w.cell? ⟨B,j,none⟩=some u) (h1c:∀u∈news,u.oneCell'=true)
  (hb:cs.length+m<=100000000) (hbase:base<=w.heap.size) (hm:0<m)
  (h:∀g cap w',YI base (.slice (some ⟨g,0,none⟩) (cs.length+m) cap) (cs++news) w'->w.grownBy w' v.ownBlock->wpList prog ops Q rest (a.put o.dst (.slice (some ⟨g,0,none⟩) (cs.length+m) cap)) w'):wpList prog ops Q (o::rest) a w:=by
 have p:(cs.length+m)*bytes<=140737488355328:=by
  have:(cs.length+m)*bytes<=100000000*8:=dP hb hbyt;omega
 have A:∀j u,news[j]?=some u->w.cell? ((⟨B,0,none⟩:Addr).add j)=some u:=λj u d=>by rw[fe,Zn];exact hnews j u d
 have r:∀v' w' (row:Option Nat),w'.ownsRow w.heap.size e 1 v' (cs.length+m) (cs++news)->w.grownBy w' none->∃g cap,v'=.slice (some ⟨g,0,none⟩) (cs.length+m) cap/\YI base (.slice (some ⟨g,0,none⟩) (cs.length+m) cap) (cs++news) w'/\w.grownBy w' row:=by
  intro v' w' row f c;have C:=(YI.ofOwns f).mono hbase;rcases f.2 with ⟨_,h0⟩|⟨g,cap,K,rfl,_⟩
  .omega
  exact⟨g,cap,rfl,C,⟨c.os,c.tape,c.output,c.size,λk N _=>c.block k N Qs⟩⟩
 rcases hG with ⟨rfl,rfl⟩|⟨g,cap,rfl,h1,h2,h3,I,n⟩
 .refine wpList_append_grows w hgd s x t ho e i z 1 bytes ht hi hz hsize hby hzs Qo none 0 0 [] hs (λ_=>⟨rfl,rfl⟩) rfl (λb hb=>by cases hb) ⟨B,0,none⟩ m m news hx Qo A h1c Qo (by unfold maxLen;simp at hb;omega) (by simpa using p) ?_;intro v' w' f c;obtain⟨g,cap,rfl,G,H⟩:=r v' w' (Value.ownBlock (.slice none 0 0)) (by simpa using f) c;exact h g cap w' G H
 refine wpList_append_arg w hgd s x t ho e i z 1 bytes ht hi hz hsize hby hzs Qo g 0 cs.length cap cs hs Qo (λj u d=>by rw[Zn];exact I j u d) ⟨B,0,none⟩ m m news hx Qo A h1c (λJ j D=>?_) (by unfold maxLen;omega) p (λJ=>?_) (λJ v' w' f c=>?_)
 .rw[Zn,ff];exact n _ Qo
 .rw[Zn,ff];refine h g cap _ (Or.inr ⟨g,cap,by rw[Zl,hl],h1,by rw[VE];exact h2,by rw[Zl];omega,λj u d=>?_,λj D=>?_⟩) (Y8 g news _ w)
  .by_cases y:j<cs.length
   .rw[Zv y]at d;rw[fh g news cs.length w ⟨g,j,none⟩ (λ_ _=>Or.inl y)];exact I j u d
   rw[ZG Qo]at d;obtain⟨E,F⟩:=Zi.1 d;have:=fj g news cs.length w (λq O=>(n _ Qo).1) (j-cs.length) E;rw[show cs.length+(j-cs.length)=j by omega]at this;rw[this,F]
  rw[fp];refine⟨?_,(n j D).2⟩;by_cases M:cs.length<=j/\j<cs.length+news.length
  .have:=fj g news cs.length w (λq O=>(n _ Qo).1) (j-cs.length) Qo;rw[show cs.length+(j-cs.length)=j by omega]at this;rw[this];rfl
  rw[fh g news cs.length w ⟨g,j,none⟩ (λ_ _=>by simp only;omega)];exact(n j D).1
 obtain⟨L,l,rfl,G,H⟩:=r v' w' (Value.ownBlock (.slice (some ⟨g,0,none⟩) cs.length cap)) f c;exact h L l w' G H
def JC(l:List UInt8):List Value:=l.map λx=>.int .u8 (x.toNat:Int)
def FE(a b:List UInt8):JC (a++b)=JC a++JC b:=by simp[JC]
def JL(a:List UInt8):(JC a).length=a.length:=by simp[JC]
def YV(x:Int):UInt8:=UInt8.ofNat (x%256).toNat
def XY(x:Int):((YV x).toNat:Int)=x%256:=by
 unfold YV;rw[UInt8.toNat_ofNat'];omega
open Bm (Aut fl gAt Tg)
structure Gr (gb:Nat) (A:Aut) (ta:Option Addr) (tc:Nat) (sv:Value) (w:World):Prop where
 c0:w.cell? ⟨gb,0,none⟩=some (.int .i64 A.K)
 c1:w.cell? ⟨gb,1,none⟩=some sv
 c2:w.cell? ⟨gb,2,none⟩=some (.slice ta (A.N*A.K) tc)
 l:IL ta (fl A) (A.N*A.K) w
variable {A:Aut}
def Gr.below{tc:Nat}{H:Value}(h:Gr gb A ta tc H w)(z:Bl w w'):Gr gb A ta tc H w':=by
 have a:=Ze w _ h.c0;have e:∀k,w'.cell? (a_ gb k)=w.cell? (a_ gb k):=λk=>z.cell (p:=(a_ gb k)) a
 exact⟨by rw[e];exact h.c0,by rw[e];exact h.c1,by rw[e];exact h.c2,h.l.below z⟩
structure Aut.Small (A:Aut):Prop where
 n:A.N<=200
 k:A.K<=256
def Gf{a:Nat}(h1:a<=m)(h2:b<=n):a*b<=m*n:=dP h1 h2
def OR(gb:Nat)(A:Aut)(ta:Option Addr)(tc:Nat)(sv:Value)(oa:Option Addr)(oc:Nat)(of:Nat->Int)(a k:Nat)(w:World)(J:Aut.Small A)(hr:∀s k,s<A.N->k<A.K->-1<=A.to s k/\A.to s k<A.N)(H:Gr gb A ta tc sv w)(Z:IL oa of A.N w)(ha:a<A.N)(Y:k<A.K):
  Cp 177 #[pT gb,.slice oa A.N oc,I6 a,I6 k] w λe w'=>e=.returned (I6 (gAt A of a k))/\Bl w w':=by
 let⟨R,b⟩:=nam (gAt A of a k);rw[<-b];unfold gAt at b;let⟨p,d⟩:=nam (a*A.K);have B:(a:Int)*(A.K:Int)=(p:Int):=by rw[d];simp
 let⟨t,h⟩:=nam (p+k);have C:(p:Int)+(k:Int)=(t:Int):=Qo
 have c:t<A.N*A.K:=by rw[h,d];exact Bm.time_lt ha Y
 have x:=Gf J.n J.k;have y:=J.k;have o:fl A t=A.to a k:=by rw[h,d];exact Bm.fl_at A Y
 obtain⟨tb,z,rfl,c3⟩:=H.l t c;rw[o]at c3;have c0:=H.c0;have c2:=H.c2;let⟨M,j⟩:=nam (A.N*A.K);rw[<-j]at c2 c x;have u:(t:Int)<M:=Qo
 have g:=hr a k ha Y;have i:=hyd Z;clear Z H d h j o hr;by_cases h1:A.to a k=-1
 .rw[dF h1]at b;have v:(A.to a k==-1)=true:=by simpa using h1
  subst b;go_enter func177,ntmps177;go_wp2
  go_quiet (fail)
  go_wp2;go_ret;exact⟨rfl,(Zk _ _).trans ⟨rfl,rfl,rfl,Zg _,λ_ _=>rfl⟩⟩
 rw[dG h1]at b;have v:(A.to a k==-1)=false:=by simpa using h1
 let⟨m,q⟩:=ZA (show 0<=A.to a k by omega);have f:m<A.N:=Qo
 have r:(m:Int)<(A.N:Int):=Qo
 rw[q]at b c3 v;rw[ZE]at b;obtain⟨ob,D,rfl,c4⟩:=i.o m f;subst b;clear i h1 q g;go_enter func177,ntmps177;go_wp2
 go_quiet (fail)
 go_wp2;go_ret;exact⟨rfl,(Zk _ _).trans ⟨rfl,rfl,rfl,Zg _,λ_ _=>rfl⟩⟩
def WC(B:Nat)(w:World)(q:Nat):Below B w (w.drewN q):=⟨rfl,rfl,rfl,Zg _,λ_ _=>rfl⟩
def KO(gb:Nat)(A:Aut)(ta:Option Addr)(tc:Nat)(sv:Value)(oa:Option Addr)(oc:Nat)(of:Nat->Int)(a b:Nat)(w:World)(hA:Aut.Small A)(hr:∀s k,s<A.N->k<A.K->-1<=A.to s k/\A.to s k<A.N)(Y:Gr gb A ta tc sv w)(Z:IL oa of A.N w)(ha:a<A.N)(hb:b<A.N):
  Cp 176 #[pT gb,.slice oa A.N oc,I6 a,I6 b] w λe w'=>e=.returned (.bool (Tg A of a b))/\Bl w w':=by
 let⟨R,g⟩:=nam (Tg A of a b);rw[<-g];have l:Hid (R=true<->of a=of b/\∀k,k<A.K->gAt A of a k=gAt A of b k):=by rw[g];exact Bm.Tg_iff A of a b
 clear g;have u:Hid (∀(s k:Nat) (w':World),s<A.N->k<A.K->Bl w w'->Cp 177 #[pT gb,.slice oa A.N oc,I6 s,I6 k] w' λe w''=>e=.returned (I6 (gAt A of s k))/\Bl w' w''):=λs k w' hs z p=>OR gb A ta tc sv oa oc of s k w' hA hr (Y.below p) (Z.below p) hs z
 have C:Hid (∀w',Bl w w'->w'.cell? (a_ gb 0)=some (I6 A.K)):=λw' p=>(Y.below p).c0
 have I:=hA.k;let⟨Q,O,D,c1⟩:=Z a ha;let⟨S,P,e2,c2⟩:=Z b hb;subst D;cases e2;have F:(a:Int)<(A.N:Int):=Qo
 have G:(b:Int)<(A.N:Int):=Qo
 have c0:=Y.c0;clear Y Z hr;by_cases h1:of a=of b
 case neg=>
  have c:Hid (R=false):=by
   show _=_;cases g:R
   .rfl
   exact absurd (l.o.1 g).1 h1
  have J:(of a != of b)=true:=by simp[h1]
  clear l;go_enter func176,ntmps176;go_wp2
  go_quiet (fail)
  go_wp2;go_ret;exact⟨YM c.o.symm,WC _ _ _⟩
 have J:(of a != of b)=false:=by simp[h1]
 have m:Hid (R=true<->∀k,k<A.K->gAt A of a k=gAt A of b k):=⟨λh=>(l.o.1 h).2,λh=>l.o.2 ⟨h1,h⟩⟩;clear l h1;go_enter func176,ntmps176;go_wp2
 go_quiet (fail)
 go_wp2
 go_loopw [9] (λx w'=>∃k:Nat,k<=A.K/\x=I6 k/\Bl w w'/\Hid (∀j,j<k->gAt A of a j=gAt A of b j)) (λx _=>A.K-(intOf x).toNat)
 .exact⟨0,Qo,rfl,WC _ _ _,λj y=>Qo⟩
 obtain⟨k,z,rfl,o,v⟩:=hrel;have c0:=C.o wr o;by_cases i:k<A.K
 .have B:(k:Int)<(A.K:Int):=Qo
  go_wp2_with fail;apply(u a k _ ha i o).mono;rintro e w1 ⟨rfl,r⟩;have f:=o.trans (r.mono o.size);go_wp2_with fail;apply(u b k _ hb i f).mono;rintro e w2 ⟨rfl,t⟩;have n:=f.trans (t.mono f.size);by_cases d:gAt A of a k=gAt A of b k
  .have L:(gAt A of a k==gAt A of b k)=true:=by simpa using d
   have M:(gAt A of a k != gAt A of b k)=false:=by simp[d]
   have q:Hid (∀j,j<k+1->gAt A of a j=gAt A of b j):=λj y=>by
    by_cases E:j=k
    .subst E;exact d
    exact v j Qo
   clear d;go_wp2;go_roundw
   .exact⟨k+1,Qo,Qg,n,q⟩
   simp[intOf];omega
  have L:(gAt A of a k==gAt A of b k)=false:=by simpa using d
  have M:(gAt A of a k != gAt A of b k)=true:=by simp[d]
  have c:Hid (R=false):=by
   show _=_;cases g:R
   .rfl
   exact absurd (m.o.1 g k i) d
  clear d;go_wp2;go_ret;exact⟨YM c.o.symm,n⟩
 have H:¬(k:Int)<(A.K:Int):=Qo
 have c:=hyd (m.o.2 (λj y=>v.o j Qo));go_wp2;go_ret;exact⟨YM c.o.symm,o⟩
end
section
open Go.RowKit
def UJ(n:Nat):Array Value:=madeCells #[.int .i64 0] n
def DE(n k:Nat)(h:k<n):(UJ n)[k]?=some (I6 0):=by
 simp[UJ,madeCells,h,Nat.mod_one]
def GB(w:World)(n:Nat)(z:n<=17592186044416):(Instr.makeSlice 23 (I6 (n:Int)) (I6 (n:Int))).run prog w=.ok (.slice (some (a_ w.heap.size 0)) n n) (w.alloc (.cells (UJ n) 3)):=by
 let⟨i,b,hz,hs,a⟩:=WP;have h:=run_make (P:=prog) w 23 3 i (I6 0) u_e b hz .i64 .i64 n n Qo Qo (by rw[a];omega) Qo;rw[hs]at h;simp only[ZE,ff]at h;exact h
def Wt(g:Nat)(f:Nat->Int)(n:Nat)(w:World):Prop:=∀k,k<n->w.cell? ⟨g,k,none⟩=some (.int .i64 (f k))/\w.frozen? ⟨g,k,none⟩=false
def Wt.blank(w:World)(n:Nat)(t:TypeId):Wt w.heap.size (λ_=>0) n (w.alloc (.cells (UJ n) t)):=λk a=>by
 refine⟨?_,?_⟩
 .rw[Zm];exact DE n k a
 go_simp
variable {L xs:List Value}{b base g m n sz:Nat}{f:Nat->Int}{ad:Option Addr}{v:Value}{w w':World}
def Wt.congr{f':Nat->Int}(h:Wt g f n w)(e:∀k,k<n->f k=f' k):Wt g f' n w:=λk a=>by
 rw[<-e k a];exact h k a
def Wt.lt(h:Wt g f n w)(z:0<n):g<w.heap.size:=Ze w (a_ g 0) (h 0 z).1
def Wt.below(h:Wt g f n w)(z:Bl w w'):Wt g f n w':=λk b=>by
 have a:=Ze w (a_ g k) (h k b).1;rw[z.cell (p:=(a_ g k)) a,z.frozen (p:=(a_ g k)) a];exact h k b
def Wt.il(h:Wt g f n w)(z:m<=n):IL (some (a_ g 0)) f m w:=λi a=>⟨g,0,rfl,by rw[Zn];exact(h i Qo).1⟩
def SX(B b:Nat)(z:B<=b):∀(vs:List Value) (w:World) (o:Nat),Below B w (w.setCells b o vs)
 |[],_,_=>Zk _ _
 |v::r,w,o=>((Zk B w).setCell (p:=(a_ b o)) z v).trans (SX B b z r _ _)
def VI(B:Nat)(w:World)(q:Nat):Below B w (w.drewN q):=⟨rfl,rfl,rfl,Zg _,λ_ _=>rfl⟩
def Lb:(prog.info? 3).map (·.size)=some 1:=Qk
def Ez(ad:Option Addr)(n cap m:Nat)(f:Nat->Int)(w:World)(H:n<=m)(z:IL ad f n w):
  ∃w2,(Builtin.copy_ #[23,23] 3 #[.slice (some (a_ w.heap.size 0)) m m,.slice ad n cap]).run prog (w.alloc (.cells (UJ m) 3))=.ok (goInt n) w2 /\
   Bl w w2/\Wt w.heap.size (λi=>if i<n then f i else 0) m w2:=by
 rcases ey n with rfl|p
 .refine⟨w.alloc (.cells (UJ m) 3),?_,(Zk _ _).alloc (Zg _) _,Wt.congr (Wt.blank w m _) (λk _=>Qs)⟩;exact run_copy_none (P:=prog) (w.alloc (.cells (UJ m) 3)) 23 23 3 3 (some (a_ w.heap.size 0)) ad m m 0 cap u_e Lb Qs
 obtain⟨b,d,rfl,q⟩:=z 0 p;have u:=Ze w _ q
 let cs:List Value:=(List.range n).map (λj=>Value.int .i64 (f j))
 have c:cs.length=n:=by simp[cs]
 have g:∀j v,cs[j]?=some v->j<n/\v=I6 (f j):=by
  intro j v h;let⟨l,h2⟩:=Zi.1 h;refine⟨Qo,?_⟩;rw[<-h2];simp[cs]
 have a:=Wt.blank w m 3;have e:∀j:Nat,((a_ b d):Addr).add j=(a_ b (d+j)):=λj=>by unfold Addr.add;split<;>simp_all
 refine⟨(w.alloc (.cells (UJ m) 3)).setCells w.heap.size 0 cs,?_,?_,?_⟩
 .have:=run_copy_cells (P:=prog) (w.alloc (.cells (UJ m) 3)) 23 23 3 3 w.heap.size 0 m m (a_ b d) n cap cs u_e Lb
   (by rw[c];exact(Nat.min_eq_left Qo).symm)
   (λj v h=>by
    obtain⟨l,rfl⟩:=g j v h;let⟨b',t,y,x⟩:=z j l;cases y;rw[e,fq _ _ _ (by exact u)];exact x)
   (λj l=>by have:=(a j Qo).1;rw[Zn,this];rfl)
   (λj l=>by have:=(a j Qo).2;rw[Zn];exact this)
   (λv s=>by simp only[cs,eV]at s;obtain⟨j,_,rfl⟩:=s;rfl)
  rw[c]at this;exact this
 .exact((Zk _ _).alloc (Zg _) _).trans (SX _ _ (Zg _) cs _ 0)
 intro k r;refine⟨?_,by rw[fp];exact(a k r).2⟩;by_cases o:k<n
 .have:=fj w.heap.size cs 0 (w.alloc (.cells (UJ m) 3)) (λj l=>by have:=(a j Qo).1;rw[Zn,this];rfl) k Qo;rw[Zn]at this;rw[this];simp[cs,o]
 rw[fh w.heap.size cs 0 _ _ (λ_ _=>Or.inr (by simp[c];omega))];rw[(a k r).1];simp[o]
def YD(f:Nat->Int):Nat->Option Nat
 |0=>some 0
 |k+1=>match YD f k with
  |none=>none
  |some n=>if f k<0\/(n:Int)<f k then none else if f k=n then some (n+1) else some n
def Vc(f:Nat->Int)(n:Nat):Nat:=if n=256 then (YD f 256).getD 0 else 0
variable {k:Nat}
def Rh(h:YD f k=none):∀d,YD f (k+d)=none
 |0=>h
 |d+1=>by rw[<-ZN,YD,Rh h d]
def Qf:∀ {k n:Nat},YD f k=some n->n<=k
 |0,n,h=>by simp[YD]at h;omega
 |k+1,n,h=>by
  rw[YD]at h;rcases hc:YD f k with _|m
  .rw[hc]at h;cases h
  have:=Qf hc;rw[hc]at h;simp only at h;split at h
  .cases h
  split at h
  .simp at h;omega
  simp at h;omega
def MA(f:Nat->Int)(n:Nat):Vc f n<=256:=by
 unfold Vc;split
 .rcases h:YD f 256 with _|m
  .simp
  simpa using Qf h
 omega
def Ys(P:Prop)(w:World)(e:Ending)(w':World):Prop:=∃b,e=.returned (.bool b)/\(b=true<->P)/\w'=w
def Ys.t{P:Prop}(h:P):Ys P w (.returned (.bool true)) w:=⟨true,rfl,by simpa using h,rfl⟩
end
section
open Go.RowKit
variable {L xs:List Value}{b base n sz:Nat}{ad:Option Addr}{v:Value}{w w':World}
def Ys.f{P:Prop}(h:¬P):Ys P w (.returned (.bool false)) w:=⟨false,rfl,by simpa using h,rfl⟩
def LU(ad:Option Addr)(n cap:Nat)(f:Nat->Int)(lo z:Int)(w:World)(J:n<=maxLen)(h:IL ad f n w):
  Cp 167 #[.slice ad n cap,I6 lo,I6 z] w (Ys (∀i,i<n->lo<=f i/\f i<=z) w):=by
 unfold maxLen at J;have H:=hyd h;go_enter func167,ntmps167;go_wp2
 go_loop [7] (λi=>∃k:Nat,k<=n/\i=I6 k/\Hid (∀i,i<k->lo<=f i/\f i<=z)) (λi=>n-(intOf i).toNat)
 .exact⟨0,Qo,rfl,λi z=>Qo⟩
 obtain⟨k,o,rfl,d⟩:=hrel;by_cases a:k<n
 .have g:(k:Int)<n:=Qo
  obtain⟨b,m,rfl,c1⟩:=H.o k a;by_cases h1:f k<lo
  .go_wp2;go_ret;exact Ys.f (λh=>by have:=h k a;omega)
  by_cases h2:z<f k
  .go_wp2;go_ret;exact Ys.f (λh=>by have:=h k a;omega)
  go_wp2
  go_round
  .exact⟨k+1,Qo,Qg,λi c=>by
   by_cases e:i=k
   .subst e;omega
   exact d i Qo⟩
  simp[intOf];omega
 have j:¬(k:Int)<n:=Qo
 have l:k=n:=Qo
 go_wp2;go_ret;exact Ys.t (λi c=>d.o i Qo)
def Uk(ad:Option Addr)(n cap:Nat)(f:Nat->Int)(lo z:Int)(w:World)(J:n<=maxLen)(h:IL ad f n w):
  Cp 135 #[.slice ad n cap,I6 lo,I6 z] w (Ys (∀i,i<n->lo<=f i/\f i<=z) w):=by
 unfold maxLen at J;have H:=hyd h;go_enter func135,ntmps135;go_wp2
 go_loop [11] (λi=>∃k:Nat,k<=n/\i=I6 k/\Hid (∀i,i<k->lo<=f i/\f i<=z)) (λi=>n-(intOf i).toNat)
 .exact⟨0,Qo,rfl,λi z=>Qo⟩
 obtain⟨k,o,rfl,d⟩:=hrel;by_cases a:k<n
 .have g:(k:Int)<n:=Qo
  obtain⟨b,m,rfl,c1⟩:=H.o k a;by_cases h1:f k<lo
  .go_wp2;go_ret;exact Ys.f (λh=>by have:=h k a;omega)
  by_cases h2:z<f k
  .go_wp2;go_ret;exact Ys.f (λh=>by have:=h k a;omega)
  go_wp2
  go_round
  .exact⟨k+1,Qo,Qg,λi c=>by
   by_cases e:i=k
   .subst e;omega
   exact d i Qo⟩
  simp[intOf];omega
 have j:¬(k:Int)<n:=Qo
 have l:k=n:=Qo
 go_wp2;go_ret;exact Ys.t (λi c=>d.o i Qo)
def Nn(ad:Option Addr)(n cap:Nat)(f:Nat->Int)(w:World)(z:n<=maxLen)(h:IL ad f n w):
  Cp 120 #[.slice ad n cap] w λe w'=>e=.returned (I6 (Vc f n))/\w'=w:=by
 unfold maxLen at z;by_cases a:n=256
 .subst a;have H:=hyd h;go_enter func120,ntmps120;go_wp2
  go_loop [3,4] (λc i=>∃k m:Nat,k<=256/\i=I6 k/\c=I6 m/\m<=k/\Hid (YD f k=some m)) (λ_ i=>256-(intOf i).toNat)
  .exact⟨0,0,Qo,rfl,rfl,Qo,rfl⟩
  obtain⟨k,m,v,rfl,rfl,x,o⟩:=hrel;by_cases l:k<256
  .have r:(k:Int)<256:=Qo
   obtain⟨b,u,rfl,c1⟩:=H.o k l;have HS:Hid (YD f (k+1)=if f k<0\/(m:Int)<f k then none else if f k=m then some (m+1) else some m):=by show _=_;rw[YD,o.o]
   have g:Hid (Vc f 256=(YD f 256).getD 0):=rfl;have p:Hid (YD f (k+1)=none->YD f 256=none):=λh=>by have:=Rh h (256-(k+1));rwa [show k+1+(256-(k+1))=256 by omega]at this
   by_cases h1:f k<0
   .go_wp2;go_ret;refine⟨Y2 ?_,rfl⟩;rw[g.o,p.o (by rw[HS.o,dF (Or.inl h1)])];rfl
   by_cases h2:(m:Int)<f k
   .go_wp2;go_ret;refine⟨Y2 ?_,rfl⟩;rw[g.o,p.o (by rw[HS.o,dF (Or.inr h2)])];rfl
   by_cases h3:f k=m
   .have q:(f k==(m:Int))=true:=by simpa using h3
    have d:Hid (YD f (k+1)=some (m+1)):=by show _=_;rw[HS.o,g_,dF h3]
    go_wp2
    go_round
    .exact⟨k+1,m+1,Qo,Qg,Qg,Qo,d⟩
    simp[intOf];omega
   have q:(f k==(m:Int))=false:=by simpa using h3
   have d:Hid (YD f (k+1)=some m):=by show _=_;rw[HS.o,g_,dG h3]
   go_wp2
   go_round
   .exact⟨k+1,m,Qo,Qg,rfl,Qo,d⟩
   simp[intOf];omega
  have t:¬(k:Int)<256:=Qo
  have j:k=256:=Qo
  subst j;go_wp2;go_ret;refine⟨Y2 ?_,rfl⟩;rw[Vc,dF rfl,o.o];rfl
 have q:((n:Int)==256)=false:=dU.2 Qo;have s:((n:Int) != 256)=true:=Qp
 have g:Hid (Vc f n=0):=dG a;go_enter func120,ntmps120;go_wp2;go_ret;exact⟨Y2 (by rw[g.o];rfl),rfl⟩
def WR(ad:Option Addr)(n cap:Nat)(f:Nat->Int)(w:World)(z:n<=maxLen)(h:IL ad f n w):
  Cp 71 #[.slice ad n cap] w λe w'=>e=.returned (I6 (Vc f n))/\w'=w:=by
 unfold maxLen at z;by_cases a:n=256
 .subst a;have H:=hyd h;go_enter func71,ntmps71;go_wp2
  go_loop [3,11] (λc i=>∃k m:Nat,k<=256/\i=I6 k/\c=I6 m/\m<=k/\Hid (YD f k=some m)) (λ_ i=>256-(intOf i).toNat)
  .exact⟨0,0,Qo,rfl,rfl,Qo,rfl⟩
  obtain⟨k,m,v,rfl,rfl,x,o⟩:=hrel;by_cases l:k<256
  .have r:(k:Int)<256:=Qo
   obtain⟨b,u,rfl,c1⟩:=H.o k l;have HS:Hid (YD f (k+1)=if f k<0\/(m:Int)<f k then none else if f k=m then some (m+1) else some m):=by show _=_;rw[YD,o.o]
   have g:Hid (Vc f 256=(YD f 256).getD 0):=rfl;have p:Hid (YD f (k+1)=none->YD f 256=none):=λh=>by have:=Rh h (256-(k+1));rwa [show k+1+(256-(k+1))=256 by omega]at this
   by_cases h1:f k<0
   .go_wp2;go_ret;refine⟨Y2 ?_,rfl⟩;rw[g.o,p.o (by rw[HS.o,dF (Or.inl h1)])];rfl
   by_cases h2:(m:Int)<f k
   .go_wp2;go_ret;refine⟨Y2 ?_,rfl⟩;rw[g.o,p.o (by rw[HS.o,dF (Or.inr h2)])];rfl
   by_cases h3:f k=m
   .have q:(f k==(m:Int))=true:=by simpa using h3
    have d:Hid (YD f (k+1)=some (m+1)):=by show _=_;rw[HS.o,g_,dF h3]
    go_wp2
    go_round
    .exact⟨k+1,m+1,Qo,Qg,Qg,Qo,d⟩
    simp[intOf];omega
   have q:(f k==(m:Int))=false:=by simpa using h3
   have d:Hid (YD f (k+1)=some m):=by show _=_;rw[HS.o,g_,dG h3]
   go_wp2
   go_round
   .exact⟨k+1,m,Qo,Qg,rfl,Qo,d⟩
   simp[intOf];omega
  have t:¬(k:Int)<256:=Qo
  have j:k=256:=Qo
  subst j;go_wp2;go_ret;refine⟨Y2 ?_,rfl⟩;rw[Vc,dF rfl,o.o];rfl
 have q:((n:Int)==256)=false:=dU.2 Qo;have s:((n:Int) != 256)=true:=Qp
 have g:Hid (Vc f n=0):=dG a;go_enter func71,ntmps71;go_wp2;go_ret;exact⟨Y2 (by rw[g.o];rfl),rfl⟩
def Hd(rules:Int)(cl:Nat->Int)(ncl:Nat)(lb:Nat->Int)(nlb:Nat):Prop:=
 (1<=rules/\rules<=8)/\(1<=nlb/\nlb<=96)/\0<Vc cl ncl/\∀i,i<nlb->-1<=lb i/\lb i<=rules-1
def Aw(rules:Int)(ad H:Option Addr)(n cap n' z:Nat)(cl lb:Nat->Int)(w:World)(Y:n<=maxLen)(J:n'<=maxLen)(h:IL ad cl n w)(Z:IL H lb n' w):
  Cp 166 #[I6 rules,.slice ad n cap,.slice H n' z] w (Ys (Hd rules cl n lb n') w):=by
 have j:=hyd (Nn ad n cap cl w Y h);have k:=hyd (LU H n' z lb (-1) (rules-1) w J Z);unfold maxLen at Y J;by_cases d:(1<=rules/\rules<=8)/\(1<=n'/\n'<=96)
 .have l:¬rules<1:=Qo
  have m:¬8<rules:=Qo
  have o:¬(n':Int)<1:=Qo
  have p:¬(96:Int)<(n':Int):=Qo
  go_enter func166,ntmps166;go_wp2_with fail;apply j.o.mono;rintro e w' ⟨rfl,rfl⟩;have a:Hid (Hd rules cl n lb n'<->0<Vc cl n/\∀i,i<n'->-1<=lb i/\lb i<=rules-1):=⟨λh=>h.2.2,λh=>⟨d.1,d.2,h⟩⟩;generalize Vc cl n=c at *;by_cases r:0<c
  .have g:(0:Int)<c:=Qo
   go_wp2_with fail;apply k.o.mono;rintro e w' ⟨b,rfl,q,rfl⟩;go_wp2;go_ret;exact⟨b,rfl,by rw[q,a.o];exact⟨λh=>⟨r,h⟩,λh=>h.2⟩,rfl⟩
  have g:¬(0:Int)<c:=Qo
  go_wp2;go_ret;exact Ys.f (λh=>by have:=(a.o.1 h).1;omega)
 have a:Hid (¬Hd rules cl n lb n'):=λh=>d ⟨h.1,h.2.1⟩
 by_cases l:rules<1
 .go_enter func166,ntmps166;go_wp2;go_ret;exact Ys.f a.o
 by_cases m:8<rules
 .go_enter func166,ntmps166;go_wp2;go_ret;exact Ys.f a.o
 by_cases o:(n':Int)<1
 .go_enter func166,ntmps166;go_wp2;go_ret;exact Ys.f a.o
 have p:(96:Int)<(n':Int):=Qo
 go_enter func166,ntmps166;go_wp2;go_ret;exact Ys.f a.o
def Pd(rules:Int)(ad H:Option Addr)(n cap n' z:Nat)(cl lb:Nat->Int)(w:World)(Y:n<=maxLen)(J:n'<=maxLen)(h:IL ad cl n w)(Z:IL H lb n' w):
  Cp 134 #[I6 rules,.slice ad n cap,.slice H n' z] w (Ys (Hd rules cl n lb n') w):=by
 have g:=hyd (WR ad n cap cl w Y h);have j:=hyd (Uk H n' z lb (-1) (rules-1) w J Z);unfold maxLen at Y J;by_cases d:(1<=rules/\rules<=8)/\(1<=n'/\n'<=96)
 .have k:¬rules<1:=Qo
  have l:¬8<rules:=Qo
  have m:¬(n':Int)<1:=Qo
  have o:¬(96:Int)<(n':Int):=Qo
  go_enter func134,ntmps134;go_wp2_with fail;apply g.o.mono;rintro e w' ⟨rfl,rfl⟩;have a:Hid (Hd rules cl n lb n'<->0<Vc cl n/\∀i,i<n'->-1<=lb i/\lb i<=rules-1):=⟨λh=>h.2.2,λh=>⟨d.1,d.2,h⟩⟩;generalize Vc cl n=c at *;by_cases q:c=0
  .subst q;go_wp2;go_ret;exact Ys.f (λh=>by have:=(a.o.1 h).1;omega)
  have r:((c:Int)==0)=false:=dU.2 Qo;go_wp2_with fail;apply j.o.mono;rintro e w' ⟨b,rfl,p,rfl⟩;go_wp2;go_ret;exact⟨b,rfl,by rw[p,a.o];exact⟨λh=>⟨Qo,h⟩,λh=>h.2⟩,rfl⟩
 have a:Hid (¬Hd rules cl n lb n'):=λh=>d ⟨h.1,h.2.1⟩
 by_cases k:rules<1
 .go_enter func134,ntmps134;go_wp2;go_ret;exact Ys.f a.o
 by_cases l:8<rules
 .go_enter func134,ntmps134;go_wp2;go_ret;exact Ys.f a.o
 by_cases m:(n':Int)<1
 .go_enter func134,ntmps134;go_wp2;go_ret;exact Ys.f a.o
 have o:(96:Int)<(n':Int):=Qo
 go_enter func134,ntmps134;go_wp2;go_ret;exact Ys.f a.o
structure Tb where
 rules:Int
 cl:Nat->Int
 ncl:Nat
 lb:Nat->Int
 nlb:Nat
 bs:Nat->Int
 nbs:Nat
 df:Nat->Int
 ndf:Nat
 ck:Nat->Int
 nck:Nat
 nx:Nat->Int
 nnx:Nat
structure QZ where
 a1:Option Addr
 c1:Nat
 a2:Option Addr
 c2:Nat
 a3:Option Addr
 c3:Nat
 a4:Option Addr
 c4:Nat
 a5:Option Addr
 c5:Nat
 a6:Option Addr
 c6:Nat
def QZ.cells(A:QZ)(T:Tb):Array Value:=#[.int .i64 T.rules,.slice A.a1 T.ncl A.c1,.slice A.a2 T.nlb A.c2,.slice A.a3 T.nbs A.c3,.slice A.a4 T.ndf A.c4,.slice A.a5 T.nck A.c5,.slice A.a6 T.nnx A.c6]
structure Tz (T:Tb) (A:QZ) (w:World):Prop where
 l1:IL A.a1 T.cl T.ncl w
 l2:IL A.a2 T.lb T.nlb w
 l3:IL A.a3 T.bs T.nbs w
 l4:IL A.a4 T.df T.ndf w
 l5:IL A.a5 T.ck T.nck w
 l6:IL A.a6 T.nx T.nnx w
def Tz.below{T:Tb}{A:QZ}(h:Tz T A w)(z:Bl w w'):Tz T A w':=
 ⟨h.l1.below z,h.l2.below z,h.l3.below z,h.l4.below z,h.l5.below z,h.l6.below z⟩
structure Dw (T:Tb):Prop where
 s1:T.ncl+3<=17592186044416
 s2:T.nlb+3<=17592186044416
 s3:T.nbs+3<=17592186044416
 s4:T.ndf+3<=17592186044416
 s5:T.nck+3<=17592186044416
 s6:T.nnx+3<=17592186044416
structure VY (b:Nat) (T:Tb) (A:QZ) (w:World):Prop where
 c0:w.cell? ⟨b,0,none⟩=some (.int .i64 T.rules)
 c1:w.cell? ⟨b,1,none⟩=some (.slice A.a1 T.ncl A.c1)
 c2:w.cell? ⟨b,2,none⟩=some (.slice A.a2 T.nlb A.c2)
 c3:w.cell? ⟨b,3,none⟩=some (.slice A.a3 T.nbs A.c3)
 c4:w.cell? ⟨b,4,none⟩=some (.slice A.a4 T.ndf A.c4)
 c5:w.cell? ⟨b,5,none⟩=some (.slice A.a5 T.nck A.c5)
 c6:w.cell? ⟨b,6,none⟩=some (.slice A.a6 T.nnx A.c6)
def VY.below{T:Tb}{A:QZ}(h:VY b T A w)(z:Bl w w'):VY b T A w':=by
 have a:=Ze w _ h.c0;have e:∀k,w'.cell? (a_ b k)=w.cell? (a_ b k):=λk=>z.cell (p:=(a_ b k)) a
 exact⟨by rw[e];exact h.c0,by rw[e];exact h.c1,by rw[e];exact h.c2,by rw[e];exact h.c3,by rw[e];exact h.c4,by rw[e];exact h.c5,by rw[e];exact h.c6⟩
def VY.boxed(T:Tb)(A:QZ)(w:World)(t:TypeId):VY w.heap.size T A (w.alloc (.cells (A.cells T) t)):=by
 refine⟨?_,?_,?_,?_,?_,?_,?_⟩<;>(rw[Zm];rfl)
def VY.lt{T:Tb}{A:QZ}(h:VY b T A w):b<w.heap.size:=Ze w _ h.c0
def Vf(T:Tb)(k:Nat):Prop:=
 (T.ck k=-1/\T.nx k=-1)\/((0<=T.ck k/\T.ck k<T.nlb)/\(-1<=T.nx k/\T.nx k<T.nlb)/\0<=(k:Int)-T.bs (T.ck k).toNat/\(k:Int)-T.bs (T.ck k).toNat<Vc T.cl T.ncl)
structure PX (T:Tb):Prop where
 hd:Hd T.rules T.cl T.ncl T.lb T.nlb
 e3:T.nbs=T.nlb
 e4:T.ndf=T.nlb
 e6:T.nnx=T.nck
 e5:T.nck<=24576
 b3:∀i,i<T.nlb->0<=T.bs i/\T.bs i<=T.nck
 b4:∀i,i<T.nlb->-1<=T.df i/\T.df i<i
 cs:∀k,k<T.nck->Vf T k
 la:T.nck=0\/T.ck (T.nck-1)≠-1
def Xz(P:Prop)(w:World)(e:Ending)(w':World):Prop:=∃b,e=.returned (.bool b)/\(b=true<->P)/\Below w.heap.size w w'
def Xz.t{P:Prop}(h:P)(z:Bl w w'):Xz P w (.returned (.bool true)) w':=⟨true,rfl,by simpa using h,z⟩
def Xz.f{P:Prop}(h:¬P)(z:Bl w w'):Xz P w (.returned (.bool false)) w':=⟨false,rfl,by simpa using h,z⟩
def X5(w:World)(o:Obj):Bl w (w.alloc o):=(Zk _ _).alloc (Zg _) o
def LY(ad:Option Addr)(n cap:Nat)(f:Nat->Int)(w:World)(z:n<=maxLen)(h:IL ad f n w):
  Cp 139 #[.slice ad n cap] w (Ys (∀i:Nat,i<n->-1<=f i/\f i<i) w):=by
 unfold maxLen at z;have H:=hyd h;go_enter func139,ntmps139;go_wp2
 go_loop [7] (λi=>∃k:Nat,k<=n/\i=I6 k/\Hid (∀i:Nat,i<k->-1<=f i/\f i<i)) (λi=>n-(intOf i).toNat)
 .exact⟨0,Qo,rfl,λi o=>Qo⟩
 obtain⟨k,p,rfl,d⟩:=hrel;by_cases a:k<n
 .have g:(k:Int)<n:=Qo
  obtain⟨b,m,rfl,c1⟩:=H.o k a;by_cases h1:f k < -1
  .go_wp2;go_ret;exact Ys.f (λh=>by have:=h k a;omega)
  by_cases h2:(k:Int)<=f k
  .go_wp2;go_ret;exact Ys.f (λh=>by have:=h k a;omega)
  go_wp2
  go_round
  .exact⟨k+1,Qo,Qg,λi c=>by
   by_cases e:i=k
   .subst e;omega
   exact d i Qo⟩
  simp[intOf];omega
 have j:¬(k:Int)<n:=Qo
 have l:k=n:=Qo
 go_wp2;go_ret;exact Ys.t (λi c=>d.o i Qo)
def PJ(b:Nat)(T:Tb)(A:QZ)(w:World)(hs:Dw T)(h:VY b T A w):
  Cp 138 #[pT b] w (Ys (T.nbs=T.nlb/\T.ndf=T.nlb/\T.nnx=T.nck/\T.nck<=24576) w):=by
 let⟨s,u,v,x,y,z⟩:=hs;let⟨rules,cl,ncl,lb,nlb,bs,nbs,df,ndf,ck,nck,nx,nnx⟩:=T;let⟨l,m,n,o,p,q,r⟩:=h;simp only at *;generalize c:(nbs=nlb/\ndf=nlb/\nnx=nck/\nck<=24576)=P;by_cases e:nbs=nlb
 case neg=>
  have d:((nbs:Int)==(nlb:Int))=false:=dU.2 Qo;have a:Hid (¬P):=by show ¬P;rw[<-c];exact λh=>e h.1
  go_enter func138,ntmps138;go_wp2;go_ret;exact Ys.f a.o
 subst e;by_cases g:ndf=nbs
 case neg=>
  have d:((ndf:Int)==(nbs:Int))=false:=dU.2 Qo;have a:Hid (¬P):=by show ¬P;rw[<-c];exact λh=>g h.2.1
  go_enter func138,ntmps138;go_wp2;go_ret;exact Ys.f a.o
 subst g;by_cases j:nnx=nck
 case neg=>
  have d:((nnx:Int)==(nck:Int))=false:=dU.2 Qo;have a:Hid (¬P):=by show ¬P;rw[<-c];exact λh=>j h.2.2.1
  go_enter func138,ntmps138;go_wp2;go_ret;exact Ys.f a.o
 subst j;by_cases i:nnx<=24576
 .have d:(nnx:Int)<=24576:=Qo
  have k:Hid P:=by show P;rw[<-c];exact⟨rfl,rfl,rfl,i⟩
  go_enter func138,ntmps138;go_wp2;go_ret;exact Ys.t k.o
 have d:¬(nnx:Int)<=24576:=Qo
 have a:Hid (¬P):=by show ¬P;rw[<-c];exact λh=>i h.2.2.2
 go_enter func138,ntmps138;go_wp2;go_ret;exact Ys.f a.o
def NE(b:Nat)(T:Tb)(A:QZ)(w:World)(hs:Dw T)(h:VY b T A w)(hI:Tz T A w)(e3:T.nbs=T.nlb)(e6:T.nnx=T.nck)(e5:T.nck<=24576)(af:∀i,i<T.nlb->0<=T.bs i/\T.bs i<=T.nck):
  Cp 140 #[pT b,I6 (Vc T.cl T.ncl)] w (Ys ((∀k,k<T.nck->Vf T k)/\(T.nck=0\/T.ck (T.nck-1)≠-1)) w):=by
 let⟨z1,z2,z3,z4,z5,z6⟩:=hs;have aa:=MA T.cl T.ncl;have E:Hid (∀d<T.nck,Vf T d<->((T.ck d=-1/\T.nx d=-1)\/((0<=T.ck d/\T.ck d<T.nlb)/\(-1<=T.nx d/\T.nx d<T.nlb)/\0<=(d:Int)-T.bs (T.ck d).toNat/\(d:Int)-T.bs (T.ck d).toNat<Vc T.cl T.ncl))):=λd _=>Iff.rfl
 have W:Hid (∀d ,d<T.nck->¬Vf T d->¬((∀k,k<T.nck->Vf T k)/\(T.nck=0\/T.ck (T.nck-1)≠-1))):=λd h1 h2 h3=>h2 (h3.1 d h1)
 generalize M:((∀k,k<T.nck->Vf T k)/\(T.nck=0\/T.ck (T.nck-1)≠-1))=PP at *;have q:=hyd M;generalize Y:Vf T=CO at *;let⟨rules,cl,ncl,lb,nlb,bs,nbs,df,ae,ck,nck,nx,nnx⟩:=T;simp only at *;subst e3 e6;let⟨d0,d1,d2,d3,d4,d5,d6⟩:=h;have F:=hyd hI.l3;have G:=hyd hI.l5;have H:=hyd hI.l6;have D:=hyd af;simp only at *;generalize Vc cl ncl=c at *;let⟨a1,c1,a2,c2,a3,c3,a4,c4,a5,c5,a6,c6⟩:=A;simp only at *;go_enter func140,ntmps140;go_wp2
 go_loop [6,21] (λu i=>∃j:Nat,j<=nnx/\i=I6 j/\u=I6 (if j=0 then -1 else ck (j-1))/\Hid (∀i,i<j->CO i)) (λ_ i=>nnx-(intOf i).toNat)
 .exact⟨0,Qo,rfl,rfl,λi hi=>Qo⟩
 obtain⟨j,hj,rfl,rfl,I⟩:=hrel;generalize O:(if j=0 then -1 else ck (j-1))=u;have K:=hyd O;by_cases n:j<nnx
 .have S:(j:Int)<nnx:=Qo
  obtain⟨b5,o5,rfl,L⟩:=G.o j n;obtain⟨b6,o6,rfl,X⟩:=H.o j n;have p:=hyd (W j n);have v:Hid (CO j->∀i,i<j+1->CO i):=λh i ac=>by
   by_cases e:i=j
   .subst e;exact h
   exact I i Qo
  have l:Hid ((if j+1=0 then -1 else ck (j+1-1))=ck j):=by show _=_;simp
  have g:=E.o j n;by_cases C:ck j=-1
  .by_cases P:nx j=-1
   .have o:=hyd (v.o (g.2 (Or.inl ⟨C,P⟩)));have r:Hid ((if j+1=0 then -1 else ck (j+1-1))=-1):=by show _=_;rw[l.o,C]
    rw[C]at L;rw[P]at X;go_wp2
    go_round
    .exact⟨j+1,Qo,Qg,by rw[r.o],o.o⟩
    simp[intOf];omega
   have a:=hyd (p (λh=>by have:=g.1 h;omega));have Q:(nx j==-1)=false:=by simpa using P
   rw[C]at L;go_wp2;go_ret;exact Ys.f a.o
  have Q:(ck j==-1)=false:=by simpa using C
  by_cases h1:ck j<0
  .have a:=hyd (p (λh=>by have:=g.1 h;omega));go_wp2;go_ret;exact Ys.f a.o
  by_cases h2:(nbs:Int)<=ck j
  .have a:=hyd (p (λh=>by have:=g.1 h;omega));go_wp2;go_ret;exact Ys.f a.o
  let⟨m,U⟩:=ZA (show 0<=ck j by omega);have r:Hid ((if j+1=0 then -1 else ck (j+1-1))=(m:Int)):=by show _=_;rw[l.o,U]
  rw[U]at L h1 h2 Q g;simp only[ZE]at g;have B:m<nbs:=Qo
  obtain⟨b7,o7,rfl,g7⟩:=F.o m B;have Z:=D.o m B;have V:(m:Int)<nbs:=Qo
  generalize bs m=z at *;generalize nx j=y at *;by_cases h5:y < -1
  .have a:=hyd (p (λh=>by have:=g.1 h;omega));go_wp2;go_ret;exact Ys.f a.o
  by_cases h6:(nbs:Int)<=y
  .have a:=hyd (p (λh=>by have:=g.1 h;omega));go_wp2;go_ret;exact Ys.f a.o
  by_cases h3:(j:Int)-z<0
  .have a:=hyd (p (λh=>by have:=g.1 h;omega));go_wp2;go_ret;exact Ys.f a.o
  by_cases h4:(c:Int)<=j-z
  .have a:=hyd (p (λh=>by have:=g.1 h;omega));go_wp2;go_ret;exact Ys.f a.o
  have o:=hyd (v (g.2 Qo));go_wp2
  go_round
  .exact⟨j+1,Qo,Qg,by rw[r.o],o.o⟩
  simp[intOf];omega
 have ab:¬(j:Int)<nnx:=Qo
 have N:j=nnx:=Qo
 subst N;by_cases s:j=0
 .subst s;have J:Hid PP:=by show PP;rw[<-q.o];exact⟨I.o,Or.inl rfl⟩
  go_wp2;go_ret;exact Ys.t J.o
 have q0:((j:Int)==0)=false:=dU.2 Qo;have R:Hid (u=ck (j-1)):=by show _=_;rw[<-K.o,dG s]
 by_cases x:u=-1
 .have a:Hid (¬PP):=by
   show ¬PP;rw[<-q.o];intro h;rcases h.2 with h2|h2
   .exact s h2
   exact h2 (by rw[<-R.o];exact x)
  subst x;go_wp2;go_ret;exact Ys.f a.o
 have J:Hid PP:=by show PP;rw[<-q.o];exact⟨I.o,Or.inr (by rw[<-R.o];exact x)⟩
 have Q:(u==-1)=false:=by simpa using x
 have q2:(u != -1)=true:=by simpa using x
 go_wp2;go_ret;exact Ys.t J.o
variable {f:Nat->Int}
def IL.heapE(h:IL ad f n w)(z:w'.heap=w.heap):IL ad f n w':=λi d=>by
 let⟨b,c,h1,h2⟩:=h i d;exact⟨b,c,h1,by rw[eZ (w:=w) (a:=(a_ b (c+i))) (by rw[z])];exact h2⟩
def Tz.heap{T:Tb}{A:QZ}(h:Tz T A w)(z:w'.heap=w.heap):Tz T A w':=
 ⟨h.l1.heapE z,h.l2.heapE z,h.l3.heapE z,h.l4.heapE z,h.l5.heapE z,h.l6.heapE z⟩
def VY.heap{T:Tb}{A:QZ}(h:VY b T A w)(z:w'.heap=w.heap):VY b T A w':=by
 have e:∀k,w'.cell? (a_ b k)=w.cell? (a_ b k):=λk=>eZ (w:=w) (a:=(a_ b k)) (by rw[z])
 exact⟨by rw[e];exact h.c0,by rw[e];exact h.c1,by rw[e];exact h.c2,by rw[e];exact h.c3,by rw[e];exact h.c4,by rw[e];exact h.c5,by rw[e];exact h.c6⟩
def TE(f:FuncId)(z:Array Value)(P:Prop)(w:World)(h:∀w',w'.heap=w.heap->Cp f z w' (Ys P w')):
  ∃b,(b=true<->P)/\∀w',w'.heap=w.heap->Cp f z w' λe w''=>e=.returned (.bool b)/\w''=w':=by
 by_cases a:P
 .refine⟨true,by simpa using a,λw' d=>(h w' d).mono ?_⟩;rintro e w2 ⟨b,rfl,c,rfl⟩;have:b=true:=c.2 a;subst this;exact⟨rfl,rfl⟩
 refine⟨false,by simpa using a,λw' d=>(h w' d).mono ?_⟩;rintro e w2 ⟨b,rfl,c,rfl⟩;have:b=false:=by
  cases b
  .rfl
  exact absurd (c.1 rfl) a
 subst this;exact⟨rfl,rfl⟩
def KJ(b:Nat)(T:Tb)(A:QZ)(w:World)(hs:Dw T)(h:VY b T A w)(hI:Tz T A w):
  Cp 76 #[pT b] w (Xz (PX T) w):=by
 have B:T.ncl<=maxLen:=by have:=hs.s1;unfold maxLen;omega
 have m2:T.nlb<=maxLen:=by have:=hs.s2;unfold maxLen;omega
 have Y:T.nbs<=maxLen:=by have:=hs.s3;unfold maxLen;omega
 have Z:T.ndf<=maxLen:=by have:=hs.s4;unfold maxLen;omega
 let⟨p1,k1,U⟩:=TE 134 #[I6 T.rules,.slice A.a1 T.ncl A.c1,.slice A.a2 T.nlb A.c2] _ w (λw' g=>Pd _ _ _ _ _ _ _ _ _ w' B m2 (hI.l1.heapE g) (hI.l2.heapE g));let⟨p2,x,V⟩:=TE 138 #[pT b] _ w (λw' g=>PJ b T A w' hs (h.heap g));let⟨C,y,W⟩:=TE 135 #[.slice A.a3 T.nbs A.c3,I6 0,I6 T.nck] _ w (λw' g=>Uk _ _ _ _ _ _ w' Y (hI.l3.heapE g));let⟨D,z,X⟩:=TE 139 #[.slice A.a4 T.ndf A.c4] _ w (λw' g=>LY _ _ _ _ w' Z (hI.l4.heapE g));have F1:=hyd U;have F2:=hyd V;have F3:=hyd W;have F4:=hyd X;have F5:Hid (∀w',w'.heap=w.heap->Cp 71 #[.slice A.a1 T.ncl A.c1] w' λe w''=>e=.returned (I6 (Vc T.cl T.ncl))/\w''=w'):=λw' g=>WR _ _ _ _ _ B (hI.l1.heapE g)
 have F6:Hid (∀w',w'.heap=w.heap->T.nbs=T.nlb->T.nnx=T.nck->T.nck<=24576->(∀i,i<T.nlb->0<=T.bs i/\T.bs i<=T.nck)->Cp 140 #[pT b,I6 (Vc T.cl T.ncl)] w' (Ys ((∀k,k<T.nck->Vf T k)/\(T.nck=0\/T.ck (T.nck-1)≠-1)) w')):=λw' g e3 e6 e5 hb=>NE b T A _ hs (h.heap g) (hI.heap g) e3 e6 e5 hb
 have E:=hyd k1;have F:=hyd x;have G:=hyd y;have H:=hyd z;have H0:=hyd h;let⟨M,N,O,P,Q,R,S⟩:=h;have I:Hid (PX T->p1=true):=λh=>k1.2 h.hd
 have J:Hid (PX T->p2=true):=λh=>x.2 ⟨h.e3,h.e4,h.e6,h.e5⟩
 have K:Hid (PX T->C=true):=λh=>y.2 (λi m=>h.b3 i (by rw[<-h.e3];exact m))
 have L:Hid (PX T->D=true):=λh=>z.2 (λi m=>h.b4 i (by rw[<-h.e4];exact m))
 clear hI U V W X k1 x y z B m2 Y Z hs;generalize Vc T.cl T.ncl=c at *;go_enter func76,ntmps76;go_wp2
 go_quiet ((go_at_call 134;exact Calls.quiet_of_same (F1.o _ rfl)))
 have l:Bl w (w.drewN nq):=VI _ _ _;have j:Hid ((w.drewN nq).heap=w.heap):=rfl;have s:VY b T A (w.drewN nq):=H0.o.heap rfl;generalize w.drewN nq=w1 at *;clear M N O P Q R S;let⟨M,N,O,P,Q,R,S⟩:=s;cases p1
 .have a:Hid (¬PX T):=λh=>by have:=I.o h;cases this
  go_wp2;go_ret;exact Xz.f a l
 have u:=hyd (E.o.1 rfl);clear E I;go_wp2_with fail;apply ft (F2.o _ j);rintro e w' ⟨rfl,rfl⟩;cases p2
 .have a:Hid (¬PX T):=λh=>by have:=J.o h;cases this
  go_wp2;go_ret;exact Xz.f a l
 have r:=F.o.1 rfl;have d:=hyd r;have o:Hid (C=true->∀i,i<T.nlb->0<=T.bs i/\T.bs i<=T.nck):=λh i m=>G.o.1 h i (by rw[r.1];exact m)
 have p:Hid (D=true->∀i:Nat,i<T.nlb->-1<=T.df i/\T.df i<i):=λh i m=>H.o.1 h i (by rw[r.2.1];exact m)
 clear F J r G H;go_wp2
 go_quiet ((go_at_call 135;refine Calls.quiet_of_same (F3.o _ ?_);exact j))
 cases C
 .have a:Hid (¬PX T):=λh=>by have:=K.o h;cases this
  go_wp2;go_ret;exact Xz.f a (l.trans (VI _ _ _))
 have n:=hyd (o.o rfl);clear o K;go_wp2_with fail;refine ft (F4.o _ ?hh) ?_
 case hh=>exact j.o
 rintro e w' ⟨rfl,rfl⟩;cases D
 .have a:Hid (¬PX T):=λh=>by have:=L.o h;cases this
  go_wp2;go_ret;exact Xz.f a (l.trans (VI _ _ _))
 have v:=hyd (p.o rfl);clear p L;go_wp2_with fail;refine ft (F5.o _ ?hh) ?_
 case hh=>exact j.o
 rintro e w' ⟨rfl,rfl⟩;go_wp2_with fail;refine ft (F6.o _ ?hh d.o.1 d.o.2.2.1 d.o.2.2.2 n) ?_
 case hh=>exact j.o
 rintro e w' ⟨b6,rfl,q,rfl⟩;have t:=hyd q;clear q;go_wp2;go_ret;refine⟨b6,rfl,?_,l.trans (VI _ _ _)⟩;rw[t.o];exact⟨λh=>⟨u.o,d.o.1,d.o.2.1,d.o.2.2.1,d.o.2.2.2,n.o,v.o,h.1,h.2⟩,λh=>⟨h.cs,h.la⟩⟩
structure Mc where
 rules:Int
 cl:Nat->Int
 ncl:Nat
 lb:Nat->Int
 nlb:Nat
 nx:Nat->Int
 nnx:Nat
structure NZ where
 a1:Option Addr
 c1:Nat
 a2:Option Addr
 c2:Nat
 a3:Option Addr
 c3:Nat
def NZ.cells(A:NZ)(M:Mc):Array Value:=#[.int .i64 M.rules,.slice A.a1 M.ncl A.c1,.slice A.a2 M.nlb A.c2,.slice A.a3 M.nnx A.c3]
structure G0 (M:Mc) (A:NZ) (w:World):Prop where
 l1:IL A.a1 M.cl M.ncl w
 l2:IL A.a2 M.lb M.nlb w
 l3:IL A.a3 M.nx M.nnx w
variable {M:Mc}
def G0.below{A:NZ}(h:G0 M A w)(z:Bl w w'):G0 M A w':=⟨h.l1.below z,h.l2.below z,h.l3.below z⟩
structure AP (M:Mc):Prop where
 s1:M.ncl+3<=17592186044416
 s2:M.nlb+3<=17592186044416
 s3:M.nnx+3<=17592186044416
structure SU (b:Nat) (M:Mc) (A:NZ) (w:World):Prop where
 c0:w.cell? ⟨b,0,none⟩=some (.int .i64 M.rules)
 c1:w.cell? ⟨b,1,none⟩=some (.slice A.a1 M.ncl A.c1)
 c2:w.cell? ⟨b,2,none⟩=some (.slice A.a2 M.nlb A.c2)
 c3:w.cell? ⟨b,3,none⟩=some (.slice A.a3 M.nnx A.c3)
def SU.lt{A:NZ}(h:SU b M A w):b<w.heap.size:=Ze w _ h.c0
def SU.blk{A:NZ}(h:SU b M A w)(z:w'.heap[b]?=w.heap[b]?):SU b M A w':=by
 have e:∀k,w'.cell? (a_ b k)=w.cell? (a_ b k):=λk=>eZ (w:=w) (a:=(a_ b k)) z
 exact⟨by rw[e];exact h.c0,by rw[e];exact h.c1,by rw[e];exact h.c2,by rw[e];exact h.c3⟩
def SU.below{A:NZ}(h:SU b M A w)(z:Bl w w'):SU b M A w':=h.blk (z.block b h.lt)
def SU.heap{A:NZ}(h:SU b M A w)(z:w'.heap=w.heap):SU b M A w':=h.blk (by rw[z])
def SU.boxed(M:Mc)(A:NZ)(w:World)(t:TypeId):SU w.heap.size M A (w.alloc (.cells (A.cells M) t)):=by
 refine⟨?_,?_,?_,?_⟩<;>(rw[Zm];rfl)
def Mc.k(M:Mc):Nat:=Vc M.cl M.ncl
structure WH (M:Mc):Prop where
 hd:Hd M.rules M.cl M.ncl M.lb M.nlb
 e:M.nnx=M.nlb*M.k
 b:∀i,i<M.nnx->-1<=M.nx i/\M.nx i<=(M.nlb:Int)-1
def WH.ncl(h:WH M):M.ncl=256:=by
 have a:=h.hd.2.2.1;unfold Vc at a;by_cases e:M.ncl=256
 .exact e
 rw[dG e]at a;omega
def WH.k1(h:WH M):1<=M.k/\M.k<=256:=⟨h.hd.2.2.1,MA _ _⟩
def L2(b:Nat)(M:Mc)(A:NZ)(w:World)(hs:AP M)(h:SU b M A w)(Y:G0 M A w):
  Cp 69 #[pT b] w (Xz (WH M) w):=by
 have q:M.ncl<=maxLen:=by have:=hs.s1;unfold maxLen;omega
 have m2:M.nlb<=maxLen:=by have:=hs.s2;unfold maxLen;omega
 have C:M.nnx<=maxLen:=by have:=hs.s3;unfold maxLen;omega
 let⟨N,k1,z⟩:=TE 134 #[I6 M.rules,.slice A.a1 M.ncl A.c1,.slice A.a2 M.nlb A.c2] _ w (λw' g=>Pd _ _ _ _ _ _ _ _ _ w' q m2 (Y.l1.heapE g) (Y.l2.heapE g));have D:=hyd z;have E:Hid (∀w',w'.heap=w.heap->Cp 71 #[.slice A.a1 M.ncl A.c1] w' λe w''=>e=.returned (I6 M.k)/\w''=w'):=λw' g=>WR _ _ _ _ _ q (Y.l1.heapE g)
 have F:Hid (∀w',w'.heap=w.heap->Cp 135 #[.slice A.a3 M.nnx A.c3,I6 (-1),I6 ((M.nlb:Int)-1)] w' (Ys (∀i,i<M.nnx->-1<=M.nx i/\M.nx i<=(M.nlb:Int)-1) w')):=λw' g=>Uk _ _ _ _ _ _ w' C (Y.l3.heapE g)
 have o:=hyd k1;have G:=hyd h;let⟨u,v,x,y⟩:=h;have I:M.k<=256:=MA _ _;unfold maxLen at q m2 C;clear Y z k1 hs;generalize B:M.k=K at *;have s:=hyd B;clear B;go_enter func69,ntmps69;go_wp2
 go_quiet ((go_at_call 134;exact Calls.quiet_of_same (D.o _ rfl)))
 have c:Bl w (w.drewN nq):=VI _ _ _;have l:Hid ((w.drewN nq).heap=w.heap):=rfl;have n:SU b M A (w.drewN nq):=G.o.heap rfl;generalize w.drewN nq=w1 at *;clear u v x y;let⟨u,v,x,y⟩:=n;cases N
 .have a:Hid (¬WH M):=λh=>by have:=o.o.2 h.hd;cases this
  go_wp2;go_ret;exact Xz.f a c
 have j:=hyd (o.o.1 rfl);have J:=j.o.2.1;clear o;go_wp2_with fail;apply ft (E.o _ l);rintro e w' ⟨rfl,rfl⟩;obtain⟨p,m⟩:∃p:Nat,p=M.nlb*K:=⟨_,rfl⟩;have R:(M.nlb:Int)*(K:Int)=(p:Int):=by rw[m];simp
 have L:p<=96*256:=by rw[m];exact dP J.2 I
 have t:=hyd m;clear m;by_cases d:M.nnx=p
 .have P:((M.nnx:Int)==(p:Int))=true:=by simp[d]
  have Q:((M.nnx:Int) != (p:Int))=false:=by simp[d]
  have H:=hyd d;clear d;go_wp2_with fail;apply ft (F.o _ l.o);rintro e w' ⟨O,rfl,h3,rfl⟩;have r:=hyd h3;clear h3;go_wp2;go_ret;exact⟨O,rfl,⟨λh=>⟨j.o,by rw[H.o,t.o,s.o],r.o.1 h⟩,λh=>r.o.2 h.b⟩,c⟩
 have P:((M.nnx:Int)==(p:Int))=false:=dU.2 Qo;have Q:((M.nnx:Int) != (p:Int))=true:=Qp
 have a:Hid (¬WH M):=λh=>d (by rw[h.e,s.o,t.o])
 clear d;go_wp2;go_ret;exact Xz.f a c
def ya:Nat:=79764919
def xH(l:List UInt8)(j:Nat):Bool:=decide (j<8*l.length)&&(l.getD (j/8) 0).toNat.testBit (7-j%8)
def RQ(r:Nat)(b:Bool):Nat:=(2*r%4294967296) ^^^ (if (b ^^ r.testBit 31) then ya else 0)
def Et(l:List UInt8):Nat->Nat
 |0=>4294967295
 |i+1=>RQ (Et l i) (xH l i)
def SK(x t:Nat):(2*x%4294967296).testBit t=(decide (t<32)&&decide (1<=t)&&x.testBit (t-1)):=by
 rw[show(4294967296:Nat)=2 ^ 32 from rfl,Nat.testBit_mod_two_pow];rcases t with _|t
 .simp
 rw[Nat.testBit_succ,show 2*x/2=x by omega];simp
def Ur(r:Nat):Nat:=RQ r false
def zM(r x:Nat):Ur (r ^^^ x)=RQ r (x.testBit 31) ^^^ (2*x%4294967296):=by
 unfold Ur RQ;have h:2*(r ^^^ x)%4294967296=(2*r%4294967296) ^^^ (2*x%4294967296):=by
  apply Nat.eq_of_testBit_eq;intro i;rw[Nat.testBit_xor,SK,SK,SK,Nat.testBit_xor];cases decide (i<32)<;>cases decide (1<=i)<;>simp
 rw[h,Nat.testBit_xor,Bool.false_xor,Bool.xor_comm (x.testBit 31)];rw[Nat.xor_assoc,Nat.xor_comm (2*x%4294967296),<-Nat.xor_assoc]
def Xo(b:UInt8)(k:Nat):Nat:=b.toNat*2 ^ (24+k)%4294967296
def Le(b:UInt8)(k:Nat):Xo b k<4294967296:=Nat.mod_lt _ Qo
def IK(b:UInt8)(k:Nat):2*Xo b k%4294967296=Xo b (k+1):=by
 unfold Xo;rw[show 24+(k+1)=(24+k)+1 by omega,ej,<-eu];omega
def J2(b:UInt8):Xo b 8=0:=by
 unfold Xo;rw[show(2:Nat) ^ (24+8)=4294967296 by decide];omega
def IM(b:UInt8):Xo b 0=b.toNat*16777216:=by
 have:=b.toNat_lt;unfold Xo;rw[show(2:Nat) ^ (24+0)=16777216 by decide];omega
def Gb(b:UInt8)(k:Nat)(z:k<8):(Xo b k).testBit 31=b.toNat.testBit (7-k):=by
 unfold Xo;rw[show(4294967296:Nat)=2 ^ 32 from rfl,Nat.testBit_mod_two_pow,ed,Nat.testBit_two_pow_mul];rw[show 31-(24+k)=7-k by omega];simp;omega
def yK(l:List UInt8)(i k:Nat)(z:i<l.length)(H:k<8):xH l (8*i+k)=l[i].toNat.testBit (7-k):=by
 unfold xH;rw[show(8*i+k)/8=i by omega,show(8*i+k)%8=k by omega,Zf,Zd z];simp;omega
def C8(l:List UInt8)(i k:Nat)(H:i<l.length)(z:k<8):Ur (Et l (8*i+k) ^^^ Xo l[i] k)=Et l (8*i+(k+1)) ^^^ Xo l[i] (k+1):=by
 rw[zM,Gb _ _ z,IK,<-ZN,Et,yK l i k H z]
def C7(l:List UInt8)(i:Nat)(b:UInt8):Et l (8*i+8) ^^^ Xo b 8=Et l (8*(i+1)):=by
 rw[J2,Nat.xor_zero];rfl
def FL{x:Nat}(h:2147483648<=x)(z:x<4294967296):Ur x=(2*x%4294967296) ^^^ 79764919:=by
 have:x.testBit 31=true:=by
  rw[Nat.testBit_eq_decide_div_mod_eq];simp;omega
 simp[Ur,RQ,this,ya]
def FM{x:Nat}(h:x<2147483648):Ur x=2*x%4294967296:=by
 have:x.testBit 31=false:=by
  rw[Nat.testBit_eq_decide_div_mod_eq];simp;omega
 simp[Ur,RQ,this]
def DN(l:List UInt8):Nat:=4294967295-Et l (8*l.length)
def Uc(l:List UInt8):List UInt8:=[YV ((DN l/16777216:Nat):Int),YV ((DN l/65536:Nat):Int),YV ((DN l/256:Nat):Int),YV ((DN l:Nat):Int)]
def Ct(r:Nat)(h:r<4294967296):4294967295 ^^^ r=4294967295-r:=by
 apply Nat.eq_of_testBit_eq;intro i;rw[Nat.testBit_xor,show(4294967295:Nat)=2 ^ 32-1 from rfl,Nat.testBit_two_pow_sub_one,show 2 ^ 32-1-r=2 ^ 32-(r+1) by omega,Nat.testBit_two_pow_sub_succ Qo];by_cases a:i<32
 .simp[a]
 have:r.testBit i=false:=Nat.testBit_lt_two_pow (ZH h (by
  have:2 ^ 32<=2 ^ i:=Nat.pow_le_pow_right Qo Qo;simpa using this))
 simp[a,this]
def Ba(w:World)(o:Obj):Bl w (w.alloc o):=(Zk _ _).alloc (Zg _) o
def C6(s:ByteArray)(w:World)(hs:s.size<=1000000):
  Cp 141 #[.string s] w λe w'=>e=.returned (.int .u32 (DN s.data.toList))/\w'=w:=by
 have A:s.data.toList.length=s.size:=Qs
 go_enter func141,ntmps141;go_wp2
 go_loop [3,8] (λx i=>∃k r:Nat,k<=s.size/\i=I6 k/\x=.int .u32 r/\r<4294967296/\Hid (r=Et s.data.toList (8*k))) (λ_ i=>s.size-(intOf i).toNat)
 .exact⟨0,4294967295,Qo,rfl,rfl,Qo,rfl⟩
 obtain⟨k,r,F,rfl,rfl,o,d⟩:=hrel;by_cases B:k<s.size
 .have q:(k:Int)<(s.size:Int):=Qo
  have u:Hid (s.data.toList[k]'Qo=s[k]):=rfl;go_wp2;have D:=s[k].toNat_lt
  go_loop [3,18] (λx i=>∃j y:Nat,j<=8/\i=I6 j/\x=.int .u32 y/\y<4294967296/\Hid (y=Et s.data.toList (8*k+j) ^^^ Xo s[k] j)) (λ_ i=>8-(intOf i).toNat)
  .refine⟨0,r ^^^ Xo s[k] 0,Qo,rfl,?_,?_,?_⟩
   .have e:((s[k].toNat:Int)%4294967296*16777216%4294967296)=((Xo s[k] 0:Nat):Int):=by rw[IM];omega
    rw[e,u32_xor_nat r _ o (Le _ _)]
   .have:r ^^^ Xo s[k] 0<2 ^ 32:=Nat.xor_lt_two_pow Qo (by have:=Le s[k] 0;omega);omega
   show _=_;rw[d.o];rfl
  obtain⟨j,y,E,rfl,rfl,t,f⟩:=hrel;by_cases m:j<8
  .have p:(j:Int)<8:=Qo
   have a:Hid (Ur y=Et s.data.toList (8*k+(j+1)) ^^^ Xo s[k] (j+1)):=by
    show _=_;have:=C8 s.data.toList k j Qo m;rw[show s.data.toList[k]=s[k] from u.o]at this;rw[f.o];exact this
   by_cases h:2147483648<=y
   .have C:((y:Int)/2147483648==1)=true:=Qp
    have b:=FL h t;rw[a.o]at b;have c:Hid (Et s.data.toList (8*k+(j+1)) ^^^ Xo s[k] (j+1)=(2*y%4294967296) ^^^ 79764919):=b;clear b a h;go_wp2
    go_round
    .refine⟨j+1,(2*y%4294967296) ^^^ 79764919,Qo,Qg,?_,?_,c.o.symm⟩
     .have e:((y:Int)*2%4294967296)=((2*y%4294967296:Nat):Int):=Qo
      rw[e];exact congrArg _ (u32_xor_nat (2*y%4294967296) 79764919 Qo Qo)
     have:(2*y%4294967296) ^^^ 79764919<2 ^ 32:=Nat.xor_lt_two_pow Qo Qo;omega
    simp[intOf];omega
   have C:((y:Int)/2147483648==1)=false:=Qp
   have b:=FM (show y<2147483648 by omega);rw[a.o]at b;have c:Hid (Et s.data.toList (8*k+(j+1)) ^^^ Xo s[k] (j+1)=2*y%4294967296):=b;clear b a h;go_wp2
   go_round
   .refine⟨j+1,2*y%4294967296,Qo,Qg,?_,Qo,c.o.symm⟩;have e:((y:Int)*2%4294967296)=((2*y%4294967296:Nat):Int):=Qo
    rw[e]
   simp[intOf];omega
  have g:¬(j:Int)<8:=Qo
  have l:j=8:=Qo
  subst l;have z:Hid (y=Et s.data.toList (8*(k+1))):=by show _=_;rw[f.o,C7]
  clear f;go_wp2
  go_round
  .exact⟨k+1,y,Qo,Qg,rfl,t,z⟩
  simp[intOf];omega
 have g:¬(k:Int)<(s.size:Int):=Qo
 have n:k=s.size:=Qo
 have v:Hid ((DN s.data.toList:Int)=4294967295-(r:Int)):=by
  show _=_;rw[DN,A,<-n,<-d.o];omega
 clear d;go_wp2;go_ret;refine⟨?_,rfl⟩;show Ending.returned (.int .u32 (bits .xor .u32 IntKind.u32.max (r:Int)))=_;rw[v.o,show IntKind.u32.max=((4294967295:Nat):Int) from rfl,u32_xor_nat 4294967295 r Qo o,Ct r o,Int.ofNat_sub Qo];rfl
def Jk(s:ByteArray)(w:World)(hs:s.size<=1000000):
  Cp 83 #[.string s] w λe w'=>e=.returned (.string ⟨(Uc s.data.toList).toArray⟩)/\Bl w w':=by
 have HS:Hid (Cp 141 #[.string s] w λe w'=>e=.returned (.int .u32 (DN s.data.toList))/\w'=w):=C6 s w hs;have d:Hid (Uc s.data.toList=[YV ((DN s.data.toList/16777216:Nat):Int),YV ((DN s.data.toList/65536:Nat):Int),YV ((DN s.data.toList/256:Nat):Int),YV ((DN s.data.toList:Nat):Int)]):=rfl;generalize Uc s.data.toList=L at *;generalize DN s.data.toList=c at *;have b:(convert 99 9 (.slice (some (a_ w.heap.size 0)) 4 4)).run prog (w.alloc (.cells #[.int .u8 ((c:Int)/16777216%256),.int .u8 ((c:Int)/65536%256),.int .u8 ((c:Int)/256%256),.int .u8 ((c:Int)%256)] 5))=.ok (.string ⟨L.toArray⟩) (w.alloc (.cells #[.int .u8 ((c:Int)/16777216%256),.int .u8 ((c:Int)/65536%256),.int .u8 ((c:Int)/256%256),.int .u8 ((c:Int)%256)] 5)):=by
  have f:L.length=4:=by rw[d.o];rfl
  have:=run_convert_bytes_back (P:=prog) (w.alloc (.cells #[.int .u8 ((c:Int)/16777216%256),.int .u8 ((c:Int)/65536%256),.int .u8 ((c:Int)/256%256),.int .u8 ((c:Int)%256)] 5)) 99 9 5 (a_ w.heap.size 0) 4 L u_g u_l u_h (λj h=>by
   rw[fe,Zn,Zm];have g:j<4:=Qo
   have a:=d.o;subst a;rcases j with _|_|_|_|j
   .simp[XY]
   .simp[XY]
   .simp[XY]
   .simp[XY]
   omega)
  rw[f]at this;exact this
 go_enter func83,ntmps83;go_wp2_with fail;apply HS.o.mono;rintro e w ⟨rfl,rfl⟩;go_wp2;go_ret;exact⟨rfl,Ba _ _⟩
def T_(t:Nat)(L:List Value)(w:World):Prop:=∀k v,L[k]?=some v->w.cell? ⟨t,k,none⟩=some v/\w.frozen? ⟨t,k,none⟩=false
variable {t:Nat}
def T_.block(h:T_ t L w)(hb:w'.heap[t]?=w.heap[t]?):T_ t L w':=λk v b=>by
 rw[eZ (w:=w) (a:=⟨t,k,none⟩) hb,fd (w:=w) (a:=⟨t,k,none⟩) hb];exact h k v b
def T_.lt(h:T_ t (v::L) w):t<w.heap.size:=Ze w _ (h 0 v rfl).1
def T_.below(h:T_ t (v::L) w)(hW:Bl w w'):T_ t (v::L) w':=h.block (hW.block t h.lt)
def T_.set(h:T_ t L w)(q:Nat)(hq:q<L.length)(u:Value):T_ t (L.set q u) (w.setCell ⟨t,q,none⟩ u):=λk v a=>by
 rw[fw];by_cases e:k=q
 .subst e;rw[fx hq]at a;obtain⟨h1,h2⟩:=h k L[k] (Zd hq);cases a;exact⟨fy w ⟨t,k,none⟩ u (by rw[h1]),h2⟩
 rw[fA (λx=>e x.symm)]at a;obtain⟨h1,h2⟩:=h k v a;exact⟨by rw[fB _ _ _ _ (by intro b;cases b;exact e rfl)];exact h1,h2⟩
def T_.range(h:T_ t L w):w.rangeAt t 0 L:=λk v a=>by rw[Zn];exact(h k v a).1
def T_.boxed(w:World)(L:List Value)(ty:TypeId):T_ w.heap.size L (w.alloc (.cells L.toArray ty)):=λk v a=>by
 refine⟨by rw[Zm];simpa using a,?_⟩;go_simp
def Ik{e:TypeId}(h:w.ownsRow base e sz v n xs)(hW:Bl w w'):w'.ownsRow base e sz v n xs:=by
 refine⟨h.1,?_⟩;rcases h.2 with h0|⟨d,b,c,j,k,f,a⟩
 .exact Or.inl h0
 refine Or.inr ⟨d,b,c,j,k,?_,a⟩;rw[hW.block d ?_];exact f;rcases ZD d w.heap.size with i|g
 .exact i
 rw[fC g]at f;cases f
end
