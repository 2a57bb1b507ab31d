import Derived.Deep.AppendLies
import Derived.Test.YtoaaklhpmhjhkaaGreatC15
set_option maxRecDepth 100000
set_option maxHeartbeats 4000000
set_option linter.all false
namespace Go.Proofs.YtoaaklhpmhjhkaaGreat
open Go.Proofs.Tryz
section
open Go.RowKit
open Pg (Pt)
def Pt.cells(p:Pt):List Value:=YY p.kd p.pl p.f p.le p.mo p.fa
def Vn(ps:List Pt):List Value:=ps.flatMap Pt.cells
def It(a b:List Pt):Vn (a++b)=Vn a++Vn b:=by simp[Vn]
def BC(p:Pt):Vn [p]=Pt.cells p:=by simp[Vn]
def BB(ps:List Pt)(k:Nat)(p:Pt)(h:ps[k]?=some p)(j:Nat)(v:Value)(z:(Pt.cells p)[j]?=some v):(Vn ps)[k*261+j]?=some v:=by
 induction ps generalizing k with
 |nil=>simp at h
 |cons q r ih=>
  have a:j<261:=by have:=(Zi.1 z).1;simpa[Pt.cells,XX]using this
  rcases k with _|k
  .simp only[dO,Zp]at h;subst h;rw[fJ,Zn,Vn,eY,Zv (by simp[Pt.cells,XX,a])];exact z
  simp only[eG]at h;rw[Vn,eY,ZG (by simp[Pt.cells,XX];omega)];have:(k+1)*261+j-(Pt.cells q).length=k*261+j:=by simp[Pt.cells,XX];omega
  rw[this];exact ih k h
variable {a:Act}{ops:Array Oper}{Q:Exit->Act->World->Prop}{rest:List Oper}{ps:List Pt}{xs:List Value}{base base' cap g n n' sz:Nat}{o op:Oper}{ad:Option Addr}{v v':Value}{w w':World}
def UQ{e:TypeId}(h:w.ownsRow base e 261 (sL g n cap) n (Vn ps))(k:Nat)(p:Pt)(z:ps[k]?=some p):
  w.rangeAt g (k*261) (Pt.cells p):=λj v m=>by
 have h1:=BB ps k p z j v m;rcases h.2 with ⟨h0,_⟩|⟨o,d,b,c,q,f,i,r,l,a⟩
 .cases h0
 cases c;rw[cell_of_row w g (k*261+j) b e (0,0) f,<-h1,<-a];have:k*261+j<n*261:=by
  have:=(Zi.1 h1).1;rw[h.1]at this;exact this
 simp[this]
def Ym{e:TypeId}(h:w.ownsRow base e sz v n xs)(z:Bl w w'):w'.ownsRow base e sz v n xs:=by
 refine⟨h.1,?_⟩;rcases h.2 with h0|⟨d,b,c,j,k,f,a⟩
 .exact Or.inl h0
 refine Or.inr ⟨d,b,c,j,k,?_,a⟩;rw[z.block d ?_];exact f;rcases ZD d w.heap.size with i|g
 .exact i
 rw[fC g]at f;cases f
def Kz(w:World)(p:Pt):(Instr.buildSlice 194 1 #[(0,.agg (Pt.cells p).toArray)]).run prog w=.ok (.slice (some (a_ w.heap.size 0)) 1 1) (w.alloc (.cells (Pt.cells p).toArray 261)):=Qk
def MU:∃i,prog.info? 261=some i/\i.zero=some (.agg (YY 0 0 (λ_=>false) 0 0 0).toArray)/\i.size=261/\i.bytes=296:=by
 have h1:(prog.info? 261).isSome=true:=Qk
 let⟨i,a⟩:=Zx.1 h1;refine⟨i,a,?_,?_,?_⟩
 .have:((prog.info? 261).bind (·.zero))=some (.agg (YY 0 0 (λ_=>false) 0 0 0).toArray):=Qk
  rw[a]at this;exact this
 .have:((prog.info? 261).map (·.size))=some 261:=Qk
  rw[a]at this;simpa using this
 have:((prog.info? 261).map (·.bytes))=some 296:=Qk
 rw[a]at this;simpa using this
def Ma(z:op.guard=none)(x:Operand)(Y:op.op=.buildSlice 194 1 #[(0,x)])
  (p:Pt) (Z:a.eval x=.agg (Pt.cells p).toArray) (H:Nat) (J:w.heap.size=H)
  (h:wpList prog ops Q rest (a.put op.dst (sL H 1 1)) (w.alloc (.cells (Pt.cells p).toArray 261))):wpList prog ops Q (op::rest) a w:=
 fU z λ_ b=>by
  subst J;have c:(Instr.buildSlice 194 1 (#[(0,x)].map λ(i,o)=>(i,a.eval o))).run prog w=.ok (.slice (some (a_ w.heap.size 0)) 1 1) (w.alloc (.cells (Pt.cells p).toArray 261)):=by
   rw[show(#[((0:Nat),x)].map λ(i,o)=>(i,a.eval o))=#[(0,a.eval x)] by simp,Z];exact Kz w p
  unfold Oper.wp execOp;simp only[Y,fE,fV,Zu,c];exact b _ _ h
def Om{e:TypeId}(h:w.ownsRow base e sz v n xs):∀k,v.ownBlock=some k->base<=k:=by
 intro k b;rcases h.2 with ⟨rfl,_⟩|⟨f,a,c,rfl,d,_⟩
 .cases b
 cases b;exact d
def Uj(b:Nat):∀(vs:List Value) (o:Nat) (w:World),(w.setCells b o vs).heap.size=w.heap.size
 |[],_,_=>rfl
 |v::r,o,w=>by rw[World.setCells,Uj b r];simp[World.setCell]
def Gi(w:World)(H:Nat)(z:w.heap.size=H)(p:Pt)(t:TypeId):∀j u,(Pt.cells p)[j]?=some u->(w.alloc (.cells (Pt.cells p).toArray t)).cell? (((a_ H 0):Addr).add j)=some u:=by
 intro j u a;subst z;rw[Addr.add_mid,Zn,Zm];simpa using a
def Rz(hgd:o.guard=none)(s x:Operand)
  (ho:o.op=.call { callee:=.builtin .append,args:=#[s,x],argTypes:=#[194,194] }) (base:Nat)
  (v:Value) (ps:List Pt) (hs:a.eval s=v) (hown:w.ownsRow base 261 261 v ps.length (Vn ps)) (hn:ps.length<=1000)
  (B:Nat) (p:Pt) (hx:a.eval x=.slice (some ⟨B,0,none⟩) 1 1) (hnews:∀j u,(Pt.cells p)[j]?=some u->w.cell? ((⟨B,0,none⟩:Addr).add j)=some u) (hbase:base<=w.heap.size)
  (h:∀g cap w',w'.ownsRow base 261 261 (.slice (some ⟨g,0,none⟩) (ps.length+1) cap) (ps.length+1) (Vn (ps++[p]))->w.grownBy w' v.ownBlock->wpList prog ops Q rest (a.put o.dst (.slice (some ⟨g,0,none⟩) (ps.length+1) cap)) w'):wpList prog ops Q (o::rest) a w:=by
 obtain⟨i,e,b,c,d⟩:=MU;refine fD w hgd s x 194 ho base 261 i (.agg (YY 0 0 (λ_=>false) 0 0 0).toArray) 261 296 u_n e b c d (by simp[Value.cells,XX]) Qo v ps.length (Vn ps) hs hown ⟨B,0,none⟩ 1 1 (Pt.cells p) hx (by simp[Pt.cells,XX]) hnews (PD _ _ _ _ _ _) Qo (by unfold maxLen;omega) Qo hbase w.heap.size rfl ?_;intro g cap w' h1 h2 h3 f;refine h g cap w' ?_ h2;rw[It,BC];exact h1
def Fz(s:ByteArray)(ps:List Pt):Prop:=∀p∈ps,p.kd=8->p.le=xE s p.pl
def xR(s:ByteArray)(w:World)(r:Pg.PR)(e:Ending)(w':World):Prop:=
 ∃(v:Value) (ps:List Pt),e=.returned (.tuple #[v,.int .i64 r.n,.bool r.ok])/\Below w.heap.size w w'/\(r.ok=true->w'.ownsRow w.heap.size 261 261 v ps.length (Vn ps)/\ps.map Pt.strip=r.ps/\ps.length<=100/\Fz s ps)
def LQ(s:ByteArray)(w:World)(hs:s.size<=40):
  Cp 169 #[.string s] w (xR s w (Pg.ie (Y7 s) s.size)):=by
 let⟨R,hR⟩:=nam (Pg.ie (Y7 s) s.size);rw[<-hR];have O:=hyd hR;clear hR;go_enter func169,ntmps169;go_wp2
 go_loopw [5,6,7,8] (λv b o x w'=>∃(u k:Nat) (X op:Int) (ps:List Pt),x=I6 k/\b=I6 X/\o=I6 op/\s.size<u+k/\1<=u/\k<=100/\-(k:Int)<=op/\op<=k/\ps.length<=k/\w'.ownsRow w.heap.size 261 261 v ps.length (Vn ps)/\Bl w w'/\Hid (Fz s ps)/\Hid (R=Pg.ij (Y7 s) s.size u X op k (ps.map Pt.strip))) (λ_ _ _ x _=>101-(intOf x).toNat)
 .exact⟨s.size+1,0,0,0,[],rfl,rfl,rfl,Qo,Qo,Qo,Qo,Qo,Qs,⟨rfl,Or.inl ⟨rfl,rfl⟩⟩,Zk _ _,(λp hp=>by cases hp),O⟩
 clear O;obtain⟨u,k,X,op,ps,rfl,rfl,rfl,aA,az,hk,av,aw,ay,F,Y,P,N⟩:=hrel;by_cases ar:k<s.size
 .rcases u with _|u
  .omega
  have ae:(k:Int)<(s.size:Int):=Qo
  have j:=Pg.gS (Y7 s) s.size k (Pg.hY (Y7 s k)) (Mw s) Qo;have Z:=N.o;rw[Pg.ij,dF ae]at Z;clear N;let⟨t,ht⟩:=nam (Pg.gV (Y7 s) s.size k (Pg.hY (Y7 s k)));let⟨kd,I⟩:=nam (Pg.hY (Y7 s k));rw[<-I]at ht Z j;rw[<-ht]at Z j;have Ht:=hyd ht;have aj:=hyd I;have HI:=hyd Z;have S:=hyd j;clear Z ht I j;go_wp2_with fail;apply(YN s (k:Int) _).mono;rintro e W ⟨rfl,rfl⟩;go_wp2_with fail;apply(F9 _ _).mono;rintro e W ⟨rfl,rfl⟩;rw[<-aj.o];go_wp2_with fail;apply(JM kd X op _).mono;rintro e W ⟨rfl,rfl⟩;cases hcs:Pg.gX kd X op
  .have z:Hid (R=⟨k,false,[]⟩):=by show _=_;rw[HI.o,hcs];rfl
   clear HI hcs;go_wp2;go_ret3;rw[z.o];exact⟨_,[],rfl,Y,λh=>by cases h⟩
  have A:Hid (R=if t.ok then Pg.ij (Y7 s) s.size u kd (Pg.iR kd op) t.n (ps.map Pt.strip++[⟨kd,k,t.f,0,t.mo,t.fa⟩]) else ⟨t.n,false,[]⟩):=by show _=_;rw[HI.o,hcs];rfl
  clear HI hcs;go_wp2_with fail;apply(Kp s k kd _ hs Qo).mono;rw[<-Ht.o];rintro e l ⟨a,M,f',c,L,G,rfl,aa,ah⟩;have V:Hid _:=ah;clear ah;have hz:=XH l;have hN:=Yz.boxed l 0 0 (λ_=>false) 0 0 0 261;have an:=hN.store a M f' c L G;have hM:=hN.put a M f' c L G;have ab:Bl l ((l.alloc (Obj.cells (YY 0 0 (λ_=>false) 0 0 0).toArray 261)).setCells l.heap.size 0 (YY a M f' c L G)):=((Zk _ _).alloc (Zg _) _).trans (Y6 l.heap.size l.heap.size 0 (Zg _) _ _ 0);have C:=Y.trans (aa.mono Y.size);have m:=C.trans (ab.mono C.size);cases htok:t.ok
  .have z:Hid (R=⟨t.n,false,[]⟩):=by show _=_;rw[A.o,htok];rfl
   clear A;go_wp2;go_ret3;rw[z.o];exact⟨_,[],rfl,m,λh=>by cases h⟩
  let⟨e1,e2,e3,e4,e5,e6⟩:=V.o htok;have ai:=hyd e6;clear e6;have j:=S.o htok;have z:Hid (R=Pg.ij (Y7 s) s.size u kd (Pg.iR kd op) t.n (ps.map Pt.strip++[⟨kd,k,t.f,0,t.mo,t.fa⟩])):=by show _=_;rw[A.o,htok];rfl
  clear A V S;subst e1 e2 e3 e4 e5;let⟨nn,af⟩:=ZA (show 0<=t.n by omega);have U:=hyd af;have au:k<nn/\nn<=k+45:=Qo
  clear af j;have K:((l.alloc (Obj.cells (YY 0 0 (λ_=>false) 0 0 0).toArray 261)).setCells l.heap.size 0 (YY a k t.f c t.mo t.fa)).heap.size=l.heap.size+1:=by rw[Uj];simp
  have r:=Ym (Ym F aa) ab;have y:=Ym r ((Zk _ _).alloc (Zg _) (.cells (Pt.cells ⟨a,k,t.f,c,t.mo,t.fa⟩).toArray 261));have q:=m.alloc m.size (.cells (Pt.cells ⟨a,k,t.f,c,t.mo,t.fa⟩).toArray 261);have E:=Gi _ _ K ⟨a,k,t.f,c,t.mo,t.fa⟩ 261;let⟨i,hi,ao,ap,aq⟩:=MU;clear hi ao ap aq;have ak:Hid _:=K;have T:Hid _:=E;clear K E r;have al:=hN.free;have am:=Om y;have HE:∀x,Pg.iR a op=x->Hid (R=Pg.ij (Y7 s) s.size u a x (nn:Int) ((ps++[(⟨a,k,t.f,c,t.mo,t.fa⟩:Pt)]).map Pt.strip)):=by
   intro x hx;show _=_;rw[z.o,hx,U.o,eK];rfl
  have D:(ps++[(⟨a,k,t.f,c,t.mo,t.fa⟩:Pt)]).length=ps.length+1:=Qs
  have B:=hyd D;clear an D;have HF:=HE _ (Pg.ip a op);have Q:Hid (Fz s (ps++[(⟨a,k,t.f,c,t.mo,t.fa⟩:Pt)])):=λp hp h8=>by
   rcases ZU.1 hp with h|h
   .exact P p h h8
   rw[ZC.1 h]at h8 ⊢;exact ai h8
  have ax:=Pg.iO a;have HO:Hid (∀W,Cp 196 #[I6 a] W λe w'=>e=.returned (I6 (Pg.opn a))/\w'=W):=λW=>Se a W
  clear HE z;generalize Pg.opn a=d at *;go_wp2_with (first|(with_reducible refine sP rfl rfl al ?_)|(with_reducible refine lP rfl hM.at_ ?_)|(with_reducible show wpList _ _ _ (⟨_,Op.buildSlice 194 _ _,_,_,_,_⟩::_) _ _;refine Ma rfl _ rfl ⟨a,k,t.f,c,t.mo,t.fa⟩ rfl (l.heap.size+1) ak.o ?_)|(at_builtin;apply Rz Qr _ _ Qr w.heap.size u5 ps Qr y Qo (l.heap.size+1) ⟨a,k,t.f,c,t.mo,t.fa⟩ Qr T.o q.size;intro g cap w5 J H));apply(HO.o _).mono;rintro e w' ⟨rfl,rfl⟩;go_wp2;rw[U.o];go_roundw
  .exact⟨u,nn,a,op+d,ps++[⟨a,k,t.f,c,t.mo,t.fa⟩],rfl,rfl,rfl,Qo,Qo,Qo,Qo,Qo,by rw[B.o];omega,by rw[B.o];exact J,q.grown H q.size am,Q,HF⟩
  simp[intOf];omega
 have ac:¬(k:Int)<(s.size:Int):=Qo
 rcases u with _|u
 .omega
 by_cases ho:op=0
 .have z:Hid (R=⟨k,true,ps.map Pt.strip⟩):=by show _=_;rw[N.o,Pg.ij,dG ac,ho];rfl
  have ag:(op==0)=true:=by simpa using ho
  clear N ho;go_wp2;go_ret3;rw[z.o];exact⟨u5,ps,rfl,Y,λ_=>⟨F,rfl,Qo,P.o⟩⟩
 have ag:(op==0)=false:=by simpa using ho
 have z:Hid (R=⟨k,false,ps.map Pt.strip⟩):=by show _=_;rw[N.o,Pg.ij,dG ac,ag]
 clear N ho;go_wp2;go_ret3;rw[z.o];exact⟨u5,ps,rfl,Y,λh=>by cases h⟩
def QQ{P:Program}(hw:Region.wanted op (yielded ops a.tmps)=true)(ty:TypeId)(x:Operand)(ho:op.op=.load ty x)
  (b o:Nat) (hx:a.eval x=.pointer (some ⟨b,o,none⟩)) (cs:List Value) (d:TypeDesc) (hc:w.rangeAt b o cs)
  (hu:P.underlying ty=some d) (hd:d.isRow=true) (hi:(P.info? ty).map (·.size)=some cs.length)
  (h:wpList P ops Q rest (a.put op.dst (.agg cs.toArray)) w):wpList P ops Q (op::rest) a w:=
 wpList_step λK c=>by rw[dF hw];exact wp_load_mid ty x ho b o hx cs d hc hu hd hi (c _ _ h)
def Jt(v:Value)(ps:List Pt)(base:Nat)(w:World)(hn:ps.length<=100)(hown:w.ownsRow base 261 261 v ps.length (Vn ps)):
  Cp 170 #[v] w λe w'=>e=.returned (.int .i64 (Pg.tooDeep ps 0))/\Bl w w':=by
 rcases hown.2 with ⟨rfl,h0⟩|⟨g,cap,G,rfl,H,_⟩
 .have:ps=[]:=dA h0;subst this;go_enter func170,ntmps170;go_wp2_with fail
  go_loop [8] (λx=>x=.int .i64 0) (λ_=>0)
  .rfl
  subst hrel;go_wp2_with fail;go_ret;exact⟨rfl,Zk _ _⟩
 go_enter func170,ntmps170;go_wp2_with fail
 go_loopw [3,8] (λo x w'=>∃(k:Nat) (op:Int),x=.int .i64 k/\o=.int .i64 op/\k<=ps.length/\-(k:Int)<=op/\op<=k/\w'.ownsRow base 261 261 (.slice (some ⟨g,0,none⟩) ps.length cap) ps.length (Vn ps)/\Bl w w'/\Hid (Pg.tooDeep ps 0=Pg.tooDeep (ps.drop k) op)) (λ_ x _=>101-(intOf x).toNat)
 .exact⟨0,0,rfl,rfl,by omega,by omega,by omega,hown,Zk _ _,rfl⟩
 obtain⟨k,op,rfl,rfl,M,J,K,C,t,q⟩:=hrel;by_cases i:k<ps.length
 .obtain⟨p,r⟩:∃p,ps[k]?=some p:=⟨ps[k],Zd i⟩;have n:ps.drop k=p::ps.drop (k+1):=by
   rw[dS i];congr 1;rw[Zd i]at r;exact Zh r
  have E:wr.rangeAt g (k*261) (YY p.kd p.pl p.f p.le p.mo p.fa):=UQ C k p r;have hz:=XH wr;have B:=Yz.boxed wr 0 0 (λ_=>false) 0 0 0 261;have m:=B.free;have u:=B.put p.kd p.pl p.f p.le p.mo p.fa;have h:Bl wr ((wr.alloc (Obj.cells (YY 0 0 (λ_=>false) 0 0 0).toArray 261)).setCells wr.heap.size 0 (YY p.kd p.pl p.f p.le p.mo p.fa)):=((Zk _ _).alloc (Zg _) _).trans (Y6 wr.heap.size wr.heap.size 0 (Zg _) _ _ 0);obtain⟨F,b⟩:∃W,W=((wr.alloc (Obj.cells (YY 0 0 (λ_=>false) 0 0 0).toArray 261)).setCells wr.heap.size 0 (YY p.kd p.pl p.f p.le p.mo p.fa)):=⟨_,rfl⟩;rw[<-b]at u h;have j:Hid (F=((wr.alloc (Obj.cells (YY 0 0 (λ_=>false) 0 0 0).toArray 261)).setCells wr.heap.size 0 (YY p.kd p.pl p.f p.le p.mo p.fa))):=b;clear b;have y:=Ym C h;have l:=t.trans (h.mono t.size);have D:(k:Int)<(ps.length:Int):=by omega
  have a:Hid (Pg.tooDeep ps 0=if 6<Pg.iR p.kd op then p.pl else Pg.tooDeep (ps.drop (k+1)) (Pg.iR p.kd op)):=by show _=_;rw[q.out,n,Pg.tooDeep]
  clear q n r;obtain⟨kd,pl,f,le,mo,fa⟩:=p;simp only at *;have c0:=u.c0;have c1:=u.c1;have L:=Pg.iO kd;have z:Hid (∀W,Cp 196 #[.int .i64 kd] W λe w'=>e=.returned (.int .i64 (Pg.opn kd))/\w'=W):=λW=>Se kd W
  rw[Pg.ip]at a;generalize Pg.opn kd=d at *;by_cases A:6<op+d
  .have c:Hid (Pg.tooDeep ps 0=pl):=by show _=_;rw[a.out,dF A]
   clear a;go_wp2_with (first|(with_reducible refine lP rfl E ?_)|(with_reducible refine sP rfl rfl m ?_;rw[Zc,<-j.out]));refine(z.out _).mono ?_;rintro e w' ⟨rfl,rfl⟩;go_wp2_with fail;go_ret;exact⟨Y2 c.out.symm,l⟩
  have c:Hid (Pg.tooDeep ps 0=Pg.tooDeep (ps.drop (k+1)) (op+d)):=by show _=_;rw[a.out,dG A]
  clear a;go_wp2_with (first|(with_reducible refine lP rfl E ?_)|(with_reducible refine sP rfl rfl m ?_;rw[Zc,<-j.out]));refine(z.out _).mono ?_;rintro e w' ⟨rfl,rfl⟩;go_wp2_with fail;go_roundw
  .exact⟨k+1,op+d,by go_num,rfl,by omega,by omega,by omega,y,l,c⟩
  simp[intOf];omega
 have I:¬(k:Int)<(ps.length:Int):=by omega
 have s:Hid (Pg.tooDeep ps 0=-1):=by show _=_;rw[q.out,dT (by omega)];rfl
 clear q;go_wp2_with fail;go_ret;exact⟨Y2 s.out.symm,t⟩
def BM:∃i,prog.info? 3=some i/\i.zero=some (.int .i64 0)/\i.size=1/\i.bytes=8:=by
 have h1:(prog.info? 3).isSome=true:=by kernel_rfl
 obtain⟨i,a⟩:=Zx.1 h1;refine⟨i,a,?_,?_,?_⟩
 .have:((prog.info? 3).bind (·.zero))=some (.int .i64 0):=by kernel_rfl
  rw[a]at this;exact this
 .have:((prog.info? 3).map (·.size))=some 1:=by kernel_rfl
  rw[a]at this;simpa using this
 have:((prog.info? 3).map (·.bytes))=some 8:=by kernel_rfl
 rw[a]at this;simpa using this
def Oz(l:List Int):List Value:=l.map λx=>.int .i64 x
def Uy(hgd:o.guard=none)(s x:Operand)
  (ho:o.op=.call { callee:=.builtin .append,args:=#[s,x],argTypes:=#[23,23] }) (base:Nat)
  (v:Value) (l:List Int) (hs:a.eval s=v) (hown:w.ownsRow base 3 1 v l.length (Oz l)) (hn:l.length<=1000)
  (B:Nat) (y:Int) (hx:a.eval x=.slice (some ⟨B,0,none⟩) 1 1) (hnews:w.cell? ⟨B,0,none⟩=some (.int .i64 y)) (hbase:base<=w.heap.size)
  (h:∀g cap w',w'.ownsRow base 3 1 (.slice (some ⟨g,0,none⟩) (l.length+1) cap) (l.length+1) (Oz (l++[y]))->w.grownBy w' v.ownBlock->wpList prog ops Q rest (a.put o.dst (.slice (some ⟨g,0,none⟩) (l.length+1) cap)) w'):wpList prog ops Q (o::rest) a w:=by
 obtain⟨i,f,c,d,e⟩:=BM;refine fD w hgd s x 23 ho base 3 i (.int .i64 0) 1 8 u_e f c d e rfl (by omega) v l.length (Oz l) hs hown ⟨B,0,none⟩ 1 1 [.int .i64 y] hx rfl ?_ (by simp[Value.oneCell']) (by omega) (by unfold maxLen;omega) (by omega) hbase w.heap.size rfl ?_
 .intro j u b;rcases j with _|j
  .simp at b;subst b;simpa[Addr.add_mid]using hnews
  simp at b
 intro g cap w' h1 h2 h3 k;refine h g cap w' ?_ h2;simpa[Oz]using h1
def Lp{e:TypeId}{l:List Int}{x:Int}(h:w.ownsRow base e 1 (.slice (some ⟨g,0,none⟩) (l.length+1) cap) (l.length+1) (Oz (l++[x])))(hn:n=l.length):w.cell? ⟨g,n,none⟩=some (.int .i64 x):=by
 subst hn;rw[h.cellAt l.length (by omega)];simp[Oz]
def OZ{e:TypeId}{l:List Int}{x:Int}(h:w.ownsRow base e 1 (.slice (some ⟨g,0,none⟩) (l.length+1) cap) (l.length+1) (Oz (l++[x]))):w.ownsRow base e 1 (.slice (some ⟨g,0,none⟩) l.length cap) l.length (Oz l):=
 ownsRow_pop (last:=[.int .i64 x]) (by simp[Oz]) (by simpa[Oz]using h)
def Gl{e e':TypeId}{sz':Nat}{xs':List Value}(h:w.ownsRow base e sz v n xs)(_h':w.ownsRow base' e' sz' v' n' xs')(hg:w.grownBy w' v'.ownBlock)(hne:∀k,v.ownBlock=some k->v'.ownBlock≠some k):w'.ownsRow base e sz v n xs:=by
 refine⟨h.1,?_⟩;rcases h.2 with h0|⟨g,cap,d,i,j,a,c⟩
 .exact Or.inl h0
 refine Or.inr ⟨g,cap,d,i,j,?_,c⟩;have b:g<w.heap.size:=by
  rcases ZD g w.heap.size with b|f
  .exact b
  rw[fC f]at a;cases a
 rw[hg.block g b (λe=>hne g (by rw[i];rfl) e.symm)];exact a
def RR(n:Int)(h:0<=n):0<=Pg.gW n/\Pg.gW n<=97:=by unfold Pg.gW;split<;>omega
def Ox(v:Value)(ps:List Pt)(base:Nat)(w:World)(hn:ps.length<=100)(ah:w.ownsRow base 261 261 v ps.length (Vn ps))(ax:∀p∈ps,0<=p.mo/\p.mo<=9):
  Cp 168 #[v] w λe w'=>e=.returned (I6 (Pg.ig ps))/\Bl w w':=by
 rcases ah.2 with ⟨rfl,h0⟩|⟨g,cap,ap,rfl,aq,H,_⟩
 .have:ps=[]:=dA h0;subst this;go_enter func168,ntmps168;go_wp2
  go_loop [4,5,11] (λxa xl x=>xa=I6 0/\xl=I6 0/\x=I6 0) (λ_ _ _=>0)
  .exact⟨rfl,rfl,rfl⟩
  obtain⟨rfl,rfl,rfl⟩:=hrel;go_wp2_with fail;apply(Yw _ _).mono;rintro e W ⟨rfl,rfl⟩;go_wp2;go_ret;exact⟨rfl,Zk _ _⟩
 have ar:g<w.heap.size:=by
  rcases ZD g w.heap.size with u|P
  .exact u
  rw[fC P]at H;cases H
 clear H;have aa:Hid (∀p∈ps,0<=p.mo/\p.mo<=9):=ax;clear ax;go_enter func168,ntmps168;go_wp2
 go_loopw [3,4,5,11] (λvo xa xl x w'=>∃(k:Nat) (j i:Int) (l:List Int),x=I6 k/\xa=I6 j/\xl=I6 i/\k<=ps.length/\0<=j/\j<=97/\0<=i/\i<=97/\l.length<=k/\(∀y∈l,0<=y/\y<=97)/\w'.ownsRow w.heap.size 3 1 vo l.length (Oz l)/\w'.ownsRow base 261 261 (sL g ps.length cap) ps.length (Vn ps)/\Bl w w'/\Hid (Pg.cRun ps ⟨0,0,[]⟩=Pg.cRun (ps.drop k) ⟨j,i,l.reverse⟩)) (λ_ _ _ x _=>101-(intOf x).toNat)
 .exact⟨0,0,0,[],rfl,rfl,rfl,Qo,Qo,Qo,Qo,Qo,Qs,Qs,⟨rfl,Or.inl ⟨rfl,rfl⟩⟩,ah,Zk _ _,rfl⟩
 obtain⟨k,j,i,l,rfl,rfl,rfl,hk,L,M,Q,R,ag,S,hV,hO,hB,X⟩:=hrel;have o:Hid (∀y∈l,0<=y/\y<=97):=S;clear S;have d:=RR (j+i) Qo;by_cases u:k<ps.length
 .obtain⟨p,U⟩:∃p,ps[k]?=some p:=⟨ps[k],Zd u⟩;have O:ps.drop k=p::ps.drop (k+1):=by
   rw[dS u];congr 1;rw[Zd u]at U;exact Zh U
  have D:wr.rangeAt g (k*261) (YY p.kd p.pl p.f p.le p.mo p.fa):=UQ hO k p U;have hz:=XH wr;have hN:=Yz.boxed wr 0 0 (λ_=>false) 0 0 0 261;have n:=hN.free;have hM:=hN.put p.kd p.pl p.f p.le p.mo p.fa;have C:Bl wr ((wr.alloc (Obj.cells (YY 0 0 (λ_=>false) 0 0 0).toArray 261)).setCells wr.heap.size 0 (YY p.kd p.pl p.f p.le p.mo p.fa)):=((Zk _ _).alloc (Zg _) _).trans (Y6 wr.heap.size wr.heap.size 0 (Zg _) _ _ 0);have r:=Ym hO C;have m:=hB.trans (C.mono hB.size);have ao:(k:Int)<(ps.length:Int):=Qo
  have c:=Ym hV C;have b:Hid (Pg.cRun ps ⟨0,0,[]⟩=Pg.cRun (ps.drop (k+1)) (Pg.iE ⟨j,i,l.reverse⟩ p)):=by show _=_;rw[X.o,O,Pg.cRun]
  have I:=aa.o p (by have:=dI U;exact this);clear X O U;obtain⟨kd,pl,f,le,mo,fa⟩:=p;simp only at *;have c0:=hM.c0;have c4:=hM.c4;by_cases h1:kd=1
  .subst h1;have a:Hid (Pg.cRun ps ⟨0,0,[]⟩=Pg.cRun (ps.drop (k+1)) ⟨Pg.gW (j+i),1,l.reverse⟩):=b;clear b;go_wp2_with (first|(with_reducible refine lP rfl D ?_)|(with_reducible refine sP rfl rfl n ?_));apply(Yw _ _).mono;rintro e W ⟨rfl,rfl⟩;go_wp2;go_roundw
   .exact⟨k+1,_,1,l,Qg,rfl,rfl,Qo,d.1,d.2,Qo,Qo,Qo,o,c,r,m,a⟩
   simp[intOf];omega
  have b1:(kd==1)=false:=by simpa using h1
  by_cases h2:kd=2
  .subst h2;have a:Hid (Pg.cRun ps ⟨0,0,[]⟩=Pg.cRun (ps.drop (k+1)) ⟨0,0,(l++[Pg.gW (j+i)]).reverse⟩):=by show _=_;rw[b.o,gt];rfl
   have F:∀y∈l++[Pg.gW (j+i)],0<=y/\y<=97:=by
    intro y hy;rcases ZU.1 hy with h|h
    .exact o y h
    simp only[ZC]at h;subst h;exact d
   have s:Hid (∀y∈l++[Pg.gW (j+i)],0<=y/\y<=97):=F;clear b F;go_wp2_with (first|(with_reducible refine lP rfl D ?_)|(with_reducible refine sP rfl rfl n ?_));apply(Yw _ _).mono;rintro e W ⟨rfl,rfl⟩;generalize Pg.gW (j+i)=cc at *;generalize af:(wr.alloc (Obj.cells (YY 0 0 (λ_=>false) 0 0 0).toArray 261)).setCells wr.heap.size 0 (YY 2 pl f le mo fa)=W at *;clear af D hz hN n hM c0 c4 C;have B:=Ym c ((Zk _ _).alloc (Zg _) (.cells #[I6 cc] 3));have ab:=Ym r ((Zk _ _).alloc (Zg _) (.cells #[I6 cc] 3));have G:=m.alloc m.size (.cells #[I6 cc] 3);have T:(W.alloc (.cells #[I6 cc] 3)).cell? (a_ W.heap.size 0)=some (I6 cc):=by rw[Zm];rfl
   go_wp2_with (first|(at_builtin;apply Uy Qr _ _ Qr w.heap.size u3 l Qr B Qo W.heap.size cc Qr T G.size;intro g2 ak w5 ae t));have ac:=Gl ab B t (λq hq=>by cases hq;intro aj;have:=Om B g aj;omega);go_roundw
   .exact⟨k+1,0,0,l++[cc],Qg,rfl,rfl,Qo,Qo,Qo,Qo,Qo,Qp,s,by simpa using ae,ac,G.grown t G.size (Om B),a⟩
   simp[intOf];omega
  have b2:(kd==2)=false:=by simpa using h2
  by_cases h3:kd=3
  .subst h3;rcases List.eq_nil_or_concat l with hl|⟨A,x,hl⟩
   .subst hl;have a:Hid (Pg.cRun ps ⟨0,0,[]⟩=Pg.cRun (ps.drop (k+1)) ⟨0,Pg.gW (j+i),([]:List Int).reverse⟩):=b;clear b;rcases c.2 with ⟨z,_⟩|⟨g3,J,K,z,_⟩
    .subst z;go_wp2_with (first|(with_reducible refine lP rfl D ?_)|(with_reducible refine sP rfl rfl n ?_));apply(Yw _ _).mono;rintro e W ⟨rfl,rfl⟩;go_wp2;go_roundw
     .exact⟨k+1,0,_,[],Qg,rfl,rfl,Qo,Qo,Qo,d.1,d.2,Qs,Qs,c,r,m,a⟩
     simp[intOf];omega
    subst z;go_wp2_with (first|(with_reducible refine lP rfl D ?_)|(with_reducible refine sP rfl rfl n ?_));apply(Yw _ _).mono;rintro e W ⟨rfl,rfl⟩;go_wp2;go_roundw
    .exact⟨k+1,0,_,[],Qg,rfl,rfl,Qo,Qo,Qo,d.1,d.2,Qs,Qs,c,r,m,a⟩
    simp[intOf];omega
   subst hl;have a:Hid (Pg.cRun ps ⟨0,0,[]⟩=Pg.cRun (ps.drop (k+1)) ⟨x,Pg.gW (j+i),A.reverse⟩):=by show _=_;rw[b.o,gu,gt];rfl
   clear b;have hx:=o.o x Qs;have s:Hid (∀y∈A,0<=y/\y<=97):=λy hy=>o.o y (by simp[hy])
   have E:(A.concat x).length=A.length+1:=Qs
   rw[E,gu]at c;have an:A.length+1<=k:=Qo
   clear ag E o;rcases c.2 with ⟨_,h0⟩|⟨g3,J,K,z,al,au,am,_⟩
   .omega
   subst z;have av:=Lp c rfl;have V:=OZ c;have i1:(0:Int)<(A.length:Int)+1:=Qo
   have i2:(0:Int)<=(A.length:Int)/\(A.length:Int)<(A.length:Int)+1:=Qo
   go_wp2_with (first|(with_reducible refine lP rfl D ?_)|(with_reducible refine sP rfl rfl n ?_));apply(Yw _ _).mono;rintro e W ⟨rfl,rfl⟩;go_wp2;go_roundw
   .exact⟨k+1,x,_,A,Qg,rfl,rfl,Qo,hx.1,hx.2,d.1,d.2,Qo,s,V,r,m,a⟩
   simp[intOf];omega
  have b3:(kd==3)=false:=by simpa using h3
  by_cases Y:kd=4
  .subst Y;have a:Hid (Pg.cRun ps ⟨0,0,[]⟩=Pg.cRun (ps.drop (k+1)) ⟨Pg.gW (j+i),0,l.reverse⟩):=b;clear b;go_wp2_with (first|(with_reducible refine lP rfl D ?_)|(with_reducible refine sP rfl rfl n ?_));apply(Yw _ _).mono;rintro e W ⟨rfl,rfl⟩;go_wp2;go_roundw
   .exact⟨k+1,_,0,l,Qg,rfl,rfl,Qo,d.1,d.2,Qo,Qo,Qo,o,c,r,m,a⟩
   simp[intOf];omega
  have b4:(kd==4)=false:=by simpa using Y
  by_cases Z:kd=8
  .subst Z;have ai:0<=i*mo:=ep Q I.1;have aw:i*mo<=97*9:=Int.mul_le_mul R I.2 I.1 Qo;have N:=RR (i*mo) ai;have a:Hid (Pg.cRun ps ⟨0,0,[]⟩=Pg.cRun (ps.drop (k+1)) ⟨j,Pg.gW (i*mo),l.reverse⟩):=b;clear b;go_wp2_with (first|(with_reducible refine lP rfl D ?_)|(with_reducible refine sP rfl rfl n ?_));apply(Yw _ _).mono;rintro e W ⟨rfl,rfl⟩;go_wp2;go_roundw
   .exact⟨k+1,j,_,l,Qg,rfl,rfl,Qo,L,M,N.1,N.2,Qo,o,c,r,m,a⟩
   simp[intOf];omega
  have b8:(kd==8)=false:=by simpa using Z
  have a:Hid (Pg.cRun ps ⟨0,0,[]⟩=Pg.cRun (ps.drop (k+1)) ⟨j,i,l.reverse⟩):=by
   show _=_;rw[b.o];simp only[Pg.iE,dG h1,dG h2,dG h3,dG Y,dG Z]
  clear b h1 h2 h3 Y Z;go_wp2_with (first|(with_reducible refine lP rfl D ?_)|(with_reducible refine sP rfl rfl n ?_));go_roundw
  .exact⟨k+1,j,i,l,Qg,rfl,rfl,Qo,L,M,Q,R,Qo,o,c,r,m,a⟩
  simp[intOf];omega
 have P:¬(k:Int)<(ps.length:Int):=Qo
 have a:Hid (Pg.cRun ps ⟨0,0,[]⟩=⟨j,i,l.reverse⟩):=by show _=_;rw[X.o,dT Qo];rfl
 clear X;go_wp2_with fail;apply(Yw _ _).mono;rintro e W ⟨rfl,rfl⟩;go_wp2;go_ret;exact⟨Y2 (by rw[Pg.ig,a.o]),hB⟩
def Iq(v:Value)(ps:List Pt)(base:Nat)(w:World)(hn:ps.length<=100)(hown:w.ownsRow base 261 261 v ps.length (Vn ps)):
  Cp 171 #[v] w λe w'=>e=.returned (.int .i64 (Pg.falling ps))/\Bl w w':=by
 rcases hown.2 with ⟨rfl,h0⟩|⟨g,cap,z,rfl,C,_⟩
 .have:ps=[]:=dA h0;subst this;go_enter func171,ntmps171;go_wp2_with fail
  go_loop [7] (λx=>x=.int .i64 0) (λ_=>0)
  .rfl
  subst hrel;go_wp2_with fail;go_ret;exact⟨rfl,Zk _ _⟩
 go_enter func171,ntmps171;go_wp2_with fail
 go_loopw [7] (λx w'=>∃(k:Nat),x=.int .i64 k/\k<=ps.length/\w'.ownsRow base 261 261 (.slice (some ⟨g,0,none⟩) ps.length cap) ps.length (Vn ps)/\Bl w w'/\Hid (Pg.falling ps=Pg.falling (ps.drop k))) (λx _=>101-(intOf x).toNat)
 .exact⟨0,rfl,by omega,hown,Zk _ _,rfl⟩
 obtain⟨k,rfl,E,t,q,l⟩:=hrel;by_cases c:k<ps.length
 .obtain⟨p,n⟩:∃p,ps[k]?=some p:=⟨ps[k],Zd c⟩;have j:ps.drop k=p::ps.drop (k+1):=by
   rw[dS c];congr 1;rw[Zd c]at n;exact Zh n
  have y:wr.rangeAt g (k*261) (YY p.kd p.pl p.f p.le p.mo p.fa):=UQ t k p n;have hz:=XH wr;have s:=Yz.boxed wr 0 0 (λ_=>false) 0 0 0 261;have h:=s.free;have A:=s.put p.kd p.pl p.f p.le p.mo p.fa;have i:Bl wr ((wr.alloc (Obj.cells (YY 0 0 (λ_=>false) 0 0 0).toArray 261)).setCells wr.heap.size 0 (YY p.kd p.pl p.f p.le p.mo p.fa)):=((Zk _ _).alloc (Zg _) _).trans (Y6 wr.heap.size wr.heap.size 0 (Zg _) _ _ 0);have r:=Ym t i;have d:=q.trans (i.mono q.size);have u:(k:Int)<(ps.length:Int):=by omega
  have a:Hid (Pg.falling ps=if p.fa=-1 then Pg.falling (ps.drop (k+1)) else p.fa):=by show _=_;rw[l.out,j,Pg.falling]
  clear l j n;obtain⟨kd,pl,f,le,mo,fa⟩:=p;simp only at *;have c5:=A.c5;by_cases m:fa=-1
  .subst m;have b:Hid (Pg.falling ps=Pg.falling (ps.drop (k+1))):=by show _=_;rw[a.out,dF rfl]
   clear a;go_wp2_with (first|(with_reducible refine lP rfl y ?_)|(with_reducible refine sP rfl rfl h ?_));go_roundw
   .exact⟨k+1,by go_num,by omega,r,d,b⟩
   simp[intOf];omega
  have b:Hid (Pg.falling ps=fa):=by show _=_;rw[a.out,dG m]
  have B:(fa != -1)=true:=by simpa using m
  clear a m;go_wp2_with (first|(with_reducible refine lP rfl y ?_)|(with_reducible refine sP rfl rfl h ?_));go_ret;exact⟨Y2 b.out.symm,d⟩
 have D:¬(k:Int)<(ps.length:Int):=by omega
 have o:Hid (Pg.falling ps=-1):=by show _=_;rw[l.out,dT (by omega)];rfl
 clear l;go_wp2_with fail;go_ret;exact⟨Y2 o.out.symm,q⟩
def LJ(v:Value)(ps:List Pt)(base:Nat)(w:World)(hn:ps.length<=100)(hown:w.ownsRow base 261 261 v ps.length (Vn ps)):
  Cp 172 #[v] w λe w'=>e=.returned (.int .i64 (Pg.matchless ps))/\Bl w w':=by
 rcases hown.2 with ⟨rfl,h0⟩|⟨g,cap,G,rfl,H,_⟩
 .have:ps=[]:=dA h0;subst this;go_enter func172,ntmps172;go_wp2_with fail
  go_loop [7] (λx=>x=.int .i64 0) (λ_=>0)
  .rfl
  subst hrel;go_wp2_with fail;go_ret;exact⟨rfl,Zk _ _⟩
 go_enter func172,ntmps172;go_wp2_with fail
 go_loopw [7] (λx w'=>∃(k:Nat),x=.int .i64 k/\k<=ps.length/\w'.ownsRow base 261 261 (.slice (some ⟨g,0,none⟩) ps.length cap) ps.length (Vn ps)/\Bl w w'/\Hid (Pg.matchless ps=Pg.matchless (ps.drop k))) (λx _=>101-(intOf x).toNat)
 .exact⟨0,rfl,by omega,hown,Zk _ _,rfl⟩
 obtain⟨k,rfl,L,D,z,s⟩:=hrel;by_cases j:k<ps.length
 .obtain⟨p,u⟩:∃p,ps[k]?=some p:=⟨ps[k],Zd j⟩;have r:ps.drop k=p::ps.drop (k+1):=by
   rw[dS j];congr 1;rw[Zd j]at u;exact Zh u
  have F:wr.rangeAt g (k*261) (YY p.kd p.pl p.f p.le p.mo p.fa):=UQ D k p u;have hz:=XH wr;have C:=Yz.boxed wr 0 0 (λ_=>false) 0 0 0 261;have n:=C.free;have t:=C.put p.kd p.pl p.f p.le p.mo p.fa;have q:Bl wr ((wr.alloc (Obj.cells (YY 0 0 (λ_=>false) 0 0 0).toArray 261)).setCells wr.heap.size 0 (YY p.kd p.pl p.f p.le p.mo p.fa)):=((Zk _ _).alloc (Zg _) _).trans (Y6 wr.heap.size wr.heap.size 0 (Zg _) _ _ 0);have o:=Ym D q;have d:=z.trans (q.mono z.size);have E:(k:Int)<(ps.length:Int):=by omega
  have a:Hid (Pg.matchless ps=if p.kd=1/\Rf.i4 p.f 256=0 then p.pl else Pg.matchless (ps.drop (k+1))):=by show _=_;rw[s.out,r,Pg.matchless]
  clear s r u;obtain⟨kd,pl,f,le,mo,fa⟩:=p;simp only at *;have c0:=t.c0;by_cases h1:kd=1
  .subst h1;go_wp2_with (first|(with_reducible refine lP rfl F ?_)|(with_reducible refine sP rfl rfl n ?_)|(with_reducible refine gld 251 ?_;refine QQ (by kernel_rfl) 251 _ rfl _ _ rfl _ _ t.set u_c rfl (by rw[YX];exact YF) ?_;simp only[psm]));refine(IA f _).mono ?_;rintro e J ⟨rfl,i⟩;have A:=t.below t.lt i;have c1:=A.c1;have B:=Ym o i;have m:=d.trans (i.mono d.size);by_cases l:Rf.i4 f 256=0
   .have c:(Rf.i4 f 256==0)=true:=by simpa using l
    have b:Hid (Pg.matchless ps=pl):=by show _=_;rw[a.out];simp[l]
    rw[c];clear a l c;go_wp2_with fail;go_ret;exact⟨Y2 b.out.symm,m⟩
   have c:(Rf.i4 f 256==0)=false:=by simpa using l
   have b:Hid (Pg.matchless ps=Pg.matchless (ps.drop (k+1))):=by show _=_;rw[a.out,dG (λh=>l h.2)]
   rw[c];clear a l c;go_wp2_with fail;go_roundw
   .exact⟨k+1,by go_num,by omega,B,m,b⟩
   simp[intOf];omega
  have b:Hid (Pg.matchless ps=Pg.matchless (ps.drop (k+1))):=by show _=_;rw[a.out,dG (λh=>h1 h.1)]
  have K:(kd==1)=false:=by simpa using h1
  clear a h1;go_wp2_with (first|(with_reducible refine lP rfl F ?_)|(with_reducible refine sP rfl rfl n ?_));go_roundw
  .exact⟨k+1,by go_num,by omega,o,d,b⟩
  simp[intOf];omega
 have I:¬(k:Int)<(ps.length:Int):=by omega
 have y:Hid (Pg.matchless ps=-1):=by show _=_;rw[s.out,dT (by omega)];rfl
 clear s;go_wp2_with fail;go_ret;exact⟨Y2 y.out.symm,z⟩
def xU(w:World)(s:ByteArray)(e:Ending)(w':World):Prop:=
 ∃(v:Value) (ps:List Pt),e=.returned (.tuple #[v,.int .i64 (Pg.gP (Y7 s) s.size).1,.int .i64 (Pg.gP (Y7 s) s.size).2])/\Below w.heap.size w w' /\
  ((Pg.gP (Y7 s) s.size).1=0->w'.ownsRow w.heap.size 261 261 v ps.length (Vn ps)/\ps.map Pt.strip=(Pg.ie (Y7 s) s.size).ps/\ps.length<=100/\Fz s ps)
def Pm(s:ByteArray)(w:World)(hm:s.size<=maxLen):Cp 125 #[.string s] w (xU w s):=by
 unfold maxLen at hm;by_cases H:40<s.size
 .have a:Hid (Pg.gP (Y7 s) s.size=(2,0)):=by show _=_;rw[Pg.gP,dF (by omega)]
  go_enter func125,ntmps125;go_wp2_with fail;go_ret3;refine⟨_,[],by rw[a.out];rfl,Zk _ _,λh=>?_⟩;rw[a.out]at h;cases h
 have hs:s.size<=40:=by omega
 have f:Hid (Pg.gP (Y7 s) s.size=if (Pg.ie (Y7 s) s.size).ok then (if Pg.tooDeep (Pg.ie (Y7 s) s.size).ps 0=-1 then (if Pg.falling (Pg.ie (Y7 s) s.size).ps=-1 then (if Pg.matchless (Pg.ie (Y7 s) s.size).ps=-1 then (0,0) else (6,Pg.matchless (Pg.ie (Y7 s) s.size).ps)) else (5,Pg.falling (Pg.ie (Y7 s) s.size).ps)) else (4,Pg.tooDeep (Pg.ie (Y7 s) s.size).ps 0)) else (3,(Pg.ie (Y7 s) s.size).n)):=by show _=_;rw[Pg.gP,dG (by omega)]
 clear hm;go_enter func125,ntmps125;go_wp2_with fail;refine(LQ s _ hs).mono ?_;rintro e w1 ⟨v,ps,rfl,j,y⟩;generalize p:Pg.ie (Y7 s) s.size=R at *;have B:Hid (Pg.ie (Y7 s) s.size=R):=p;clear p;obtain⟨n,ok,d⟩:=R;have k:Hid (ok=true->w1.ownsRow w.heap.size 261 261 v ps.length (Vn ps)/\ps.map Pt.strip=d/\ps.length<=100/\Fz s ps):=y;clear y;cases ok
 .have a:Hid (Pg.gP (Y7 s) s.size=(3,n)):=f;go_wp2_with fail;go_ret3;refine⟨_,[],by rw[a.out];rfl,j,λh=>?_⟩;rw[a.out]at h;cases h
 obtain⟨G,c,z,x⟩:=k.out rfl;have A:Hid (Fz s ps):=x;clear x;have E:Pg.tooDeep d 0=Pg.tooDeep ps 0:=by rw[<-c,Pg.gQ]
 have e2:Pg.falling d=Pg.falling ps:=by rw[<-c,Pg.im]
 have F:Pg.matchless d=Pg.matchless ps:=by rw[<-c,Pg.iF]
 have b:Hid (Pg.gP (Y7 s) s.size=if Pg.tooDeep ps 0=-1 then (if Pg.falling ps=-1 then (if Pg.matchless ps=-1 then (0,0) else (6,Pg.matchless ps)) else (5,Pg.falling ps)) else (4,Pg.tooDeep ps 0)):=by
  show _=_;have:=f.out;simp only[dB]at this;rw[E,e2,F]at this;exact this
 have C:=hyd c;clear f E e2 F k c;go_wp2_with fail;refine(Jt v ps _ _ z G).mono ?_;rintro e w2 ⟨rfl,q⟩;have m:=Ym G q;have g:=j.trans (q.mono j.size);generalize Pg.tooDeep ps 0=td at *;by_cases h1:td=-1
 .subst h1;go_wp2_with fail;refine(Iq v ps _ _ z m).mono ?_;rintro e w3 ⟨rfl,r⟩;have o:=Ym m r;have i:=g.trans (r.mono g.size);generalize Pg.falling ps=fl at *;by_cases h2:fl=-1
  .subst h2;go_wp2_with fail;refine(LJ v ps _ _ z o).mono ?_;rintro e I ⟨rfl,t⟩;have D:=Ym o t;have l:=i.trans (t.mono i.size);generalize Pg.matchless ps=ml at *;by_cases h3:ml=-1
   .subst h3;have a:Hid (Pg.gP (Y7 s) s.size=(0,0)):=b;go_wp2_with fail;go_ret3;exact⟨v,ps,by rw[a.out];rfl,l,λ_=>⟨D,by rw[B.out];exact C.out,z,A.out⟩⟩
   have a:Hid (Pg.gP (Y7 s) s.size=(6,ml)):=by show _=_;rw[b.out];simp[h3]
   have u:(ml != -1)=true:=by simpa using h3
   clear h3 b;go_wp2_with fail;go_ret3;refine⟨_,[],by rw[a.out];rfl,l,λh=>?_⟩;rw[a.out]at h;cases h
  have a:Hid (Pg.gP (Y7 s) s.size=(5,fl)):=by show _=_;rw[b.out];simp[h2]
  have u:(fl != -1)=true:=by simpa using h2
  clear h2 b;go_wp2_with fail;go_ret3;refine⟨_,[],by rw[a.out];rfl,i,λh=>?_⟩;rw[a.out]at h;cases h
 have a:Hid (Pg.gP (Y7 s) s.size=(4,td)):=by show _=_;rw[b.out];simp[h1]
 have u:(td != -1)=true:=by simpa using h1
 clear h1 b;go_wp2_with fail;go_ret3;refine⟨_,[],by rw[a.out];rfl,g,λh=>?_⟩;rw[a.out]at h;cases h
def PS(ad:Option Addr)(ps:List Pt)(w:World):Prop:=∀(k:Nat) (p:Pt),ps[k]?=some p->∃g o,ad=some ⟨g,o,none⟩/\w.rangeAt g (o+k*261) (Pt.cells p)
def PS.keep(h:PS ad ps w)(z:∀g o,ad=some (a_ g o)->w'.heap[g]?=w.heap[g]?):PS ad ps w':=λk p b=>by
 let⟨g,o,e,c⟩:=h k p b;refine⟨g,o,e,λj v d=>?_⟩;rw[eZ (w:=w) (a:=(a_ g (o+k*261+j))) (z g o e)];exact c j v d
def PS.below(h:PS ad ps w)(z:Bl w w'):PS ad ps w':=λk p a=>by
 let⟨g,o,e,b⟩:=h k p a;refine⟨g,o,e,λj v c=>?_⟩;have:=b j v c;rw[z.cell (p:=(a_ g (o+k*261+j))) (Ze w _ this)];exact this
def OC(ad:Option Addr)(cap l:Nat):Option Addr:=if cap=l then ad else ad.map (·.add (l*261))
def PS.sub(h:PS ad ps w)(l n:Nat)(H:l+n<=ps.length)(z:ps.length<=cap):PS (OC ad cap l) ((ps.drop l).take n) w:=λk p a=>by
 have b:k<n:=by
  have:=(Zi.1 a).1;simp at this;omega
 rw[List.getElem?_take,dF b,ez]at a;let⟨g,o,e,c⟩:=h (l+k) p a;refine⟨g,o+l*261,?_,?_⟩
 .rw[OC,g_,e,dX,Addr.add_mid]
 rw[show o+l*261+k*261=o+(l+k)*261 by rw[dQ];omega];exact c
def VS{ops : Array Oper}{rest : List Oper}{op : Oper}{a : Act}{w : World}{Q : Exit -> Act -> World -> Prop}(J : op.guard = none)(x : Operand)(lo H : Option Operand)(ho : op.op = .slice 194 x lo H none)
  (ad : Option Addr) (len cap : Nat) (hx : a.eval x = .slice ad len cap) (l h : Nat) (hl : (lo = none /\ l = 0) \/ ∃y, lo = some y /\ a.eval y = I6 l) (Y : (H = none /\ h = len) \/ ∃y, H = some y /\ a.eval y = I6 h) (h1 : l <= h) (h2 : h <= cap)
  (Z : wpList prog ops Q rest (a.put op.dst (.slice (OC ad cap l) (h-l) (cap-l))) w) : wpList prog ops Q (op::rest) a w :=
 fU J λ_ e => by
  have hs : (sizeOf 261).run prog w = .ok 261 w := by kernel_rfl
  have f : (Instr.slice 194 (.slice ad len cap) (lo.map a.eval) (H.map a.eval) none).run prog w = .ok (.slice (OC ad cap l) (h-l) (cap-l)) w := by
   have g : ∀c, (Instr.sliceBound (I6 (h : Int)) cap c).run prog w = .ok h w := λc => by simp [Instr.sliceBound, asIntOf, f9]; omega
   have e2 : ∀c, (Instr.sliceBound (I6 (l : Int)) h c).run prog w = .ok l w := λc => by simp [Instr.sliceBound, asIntOf, f9]; omega
   have d : (Instr.sliceBounds true len cap (lo.map a.eval) (H.map a.eval) none).run prog w = .ok (l, h, cap) w := by
    rcases hl with ⟨rfl, rfl⟩|⟨y, rfl, i⟩<;>rcases Y with ⟨rfl, rfl⟩|⟨z, rfl, hz⟩<;>simp [Instr.sliceBounds, fE, *]
   simp only [Instr.slice, fE, gd u_n, Zu, d, hs, fV];rfl
  have b : (Instr.sliceAt 194 (.slice ad len cap) (lo.map a.eval) (H.map a.eval) none).run prog w = .ok (.slice (OC ad cap l) (h-l) (cap-l)) w := by
   simp only [Instr.sliceAt, fE, gd u_n, Zu];exact f
  unfold Oper.wp execOp;simp only [ho, hx, fE, Option.map_none, b, Zu, fV];exact e _ _ Z
def JP(ad:Option Addr)(cap:Nat)(ps:List Pt)(w:World)(hn:ps.length<=100)(hP:PS ad ps w)(ah:∀p∈ps,0<=p.mo/\p.mo<=9):
  Cp 168 #[.slice ad ps.length cap] w λe w'=>e=.returned (I6 (Pg.ig ps))/\Bl w w':=by
 rcases ps with _|⟨p0,X⟩
 .go_enter func168,ntmps168;go_wp2
  go_loop [4,5,11] (λxa xl x=>xa=I6 0/\xl=I6 0/\x=I6 0) (λ_ _ _=>0)
  .exact⟨rfl,rfl,rfl⟩
  obtain⟨rfl,rfl,rfl⟩:=hrel;go_wp2_with fail;apply(Yw _ _).mono;rintro e W ⟨rfl,rfl⟩;go_wp2;go_ret;exact⟨rfl,Zk _ _⟩
 obtain⟨g,o,rfl,V⟩:=hP 0 p0 rfl;have ae:g<w.heap.size:=Ze w (a_ g (o+0*261+0)) (V 0 _ rfl);have HP:Hid (∀w',Bl w w'->∀(k:Nat) (p:Pt),(p0::X)[k]?=some p->w'.rangeAt g (o+k*261) (YY p.kd p.pl p.f p.le p.mo p.fa)):=λw' hW k p G=>by
  obtain⟨g',o',e,h⟩:=hP k p G;cases e;exact λj v hv=>by rw[hW.cell (p:=(a_ g (o+k*261+j))) ae];exact h j v hv
 obtain⟨ps,U⟩:=nam (p0::X);rw[<-U]at HP hn ah ⊢;clear hP V U;have aa:=hyd ah;clear ah;go_enter func168,ntmps168;go_wp2
 go_loopw [3,4,5,11] (λvo xa xl x w'=>∃(k:Nat) (m i:Int) (l:List Int),x=I6 k/\xa=I6 m/\xl=I6 i/\k<=ps.length/\0<=m/\m<=97/\0<=i/\i<=97/\l.length<=k/\(∀y∈l,0<=y/\y<=97)/\w'.ownsRow w.heap.size 3 1 vo l.length (Oz l)/\Bl w w'/\Hid (Pg.cRun ps ⟨0,0,[]⟩=Pg.cRun (ps.drop k) ⟨m,i,l.reverse⟩)) (λ_ _ _ x _=>101-(intOf x).toNat)
 .exact⟨0,0,0,[],rfl,rfl,rfl,Qo,Qo,Qo,Qo,Qo,Qs,Qs,⟨rfl,Or.inl ⟨rfl,rfl⟩⟩,Zk _ _,rfl⟩
 obtain⟨k,m,i,l,rfl,rfl,rfl,hk,L,M,P,Q,af,R,hV,hB,Y⟩:=hrel;have r:=hyd R;clear R;have d:=RR (m+i) Qo;by_cases F:k<ps.length
 .obtain⟨p,G⟩:∃p,ps[k]?=some p:=⟨ps[k],Zd F⟩;have O:ps.drop k=p::ps.drop (k+1):=by
   rw[dS F];congr 1;rw[Zd F]at G;exact Zh G
  have z:=HP.o wr hB k p G;have hz:=XH wr;have hN:=Yz.boxed wr 0 0 (λ_=>false) 0 0 0 261;have q:=hN.free;have hM:=hN.put p.kd p.pl p.f p.le p.mo p.fa;have D:Bl wr ((wr.alloc (Obj.cells (YY 0 0 (λ_=>false) 0 0 0).toArray 261)).setCells wr.heap.size 0 (YY p.kd p.pl p.f p.le p.mo p.fa)):=((Zk _ _).alloc (Zg _) _).trans (Y6 wr.heap.size wr.heap.size 0 (Zg _) _ _ 0);have n:=hB.trans (D.mono hB.size);have am:(k:Int)<(ps.length:Int):=Qo
  have c:=Ym hV D;have b:Hid (Pg.cRun ps ⟨0,0,[]⟩=Pg.cRun (ps.drop (k+1)) (Pg.iE ⟨m,i,l.reverse⟩ p)):=by show _=_;rw[Y.o,O,Pg.cRun]
  have H:=aa.o p (by have:=dI G;exact this);clear Y O G;obtain⟨kd,pl,f,le,mo,fa⟩:=p;simp only at *;have c0:=hM.c0;have c4:=hM.c4;by_cases h1:kd=1
  .subst h1;have a:Hid (Pg.cRun ps ⟨0,0,[]⟩=Pg.cRun (ps.drop (k+1)) ⟨Pg.gW (m+i),1,l.reverse⟩):=b;clear b;go_wp2_with (first|(with_reducible refine lP rfl z ?_)|(with_reducible refine sP rfl rfl q ?_));apply(Yw _ _).mono;rintro e W ⟨rfl,rfl⟩;go_wp2;go_roundw
   .exact⟨k+1,_,1,l,Qg,rfl,rfl,Qo,d.1,d.2,Qo,Qo,Qo,r,c,n,a⟩
   simp[intOf];omega
  have b1:(kd==1)=false:=by simpa using h1
  by_cases h2:kd=2
  .subst h2;have a:Hid (Pg.cRun ps ⟨0,0,[]⟩=Pg.cRun (ps.drop (k+1)) ⟨0,0,(l++[Pg.gW (m+i)]).reverse⟩):=by show _=_;rw[b.o,gt];rfl
   have B:∀y∈l++[Pg.gW (m+i)],0<=y/\y<=97:=by
    intro y hy;rcases ZU.1 hy with h|h
    .exact r y h
    simp only[ZC]at h;subst h;exact d
   have s:=hyd B;clear b B;go_wp2_with (first|(with_reducible refine lP rfl z ?_)|(with_reducible refine sP rfl rfl q ?_));apply(Yw _ _).mono;rintro e W ⟨rfl,rfl⟩;generalize Pg.gW (m+i)=cc at *;generalize ac:(wr.alloc (Obj.cells (YY 0 0 (λ_=>false) 0 0 0).toArray 261)).setCells wr.heap.size 0 (YY 2 pl f le mo fa)=W at *;clear ac z hz hN q hM c0 c4 D;have K:=Ym c ((Zk _ _).alloc (Zg _) (.cells #[I6 cc] 3));have C:=n.alloc n.size (.cells #[I6 cc] 3);have S:(W.alloc (.cells #[I6 cc] 3)).cell? (a_ W.heap.size 0)=some (I6 cc):=by rw[Zm];rfl
   go_wp2_with (first|(at_builtin;apply Uy Qr _ _ Qr w.heap.size u3 l Qr K Qo W.heap.size cc Qr S C.size;intro g2 ai w5 ab E));go_roundw
   .exact⟨k+1,0,0,l++[cc],Qg,rfl,rfl,Qo,Qo,Qo,Qo,Qo,Qp,s,by simpa using ab,C.grown E C.size (Om K),a⟩
   simp[intOf];omega
  have b2:(kd==2)=false:=by simpa using h2
  by_cases h3:kd=3
  .subst h3;rcases List.eq_nil_or_concat l with hl|⟨u,x,hl⟩
   .subst hl;have a:Hid (Pg.cRun ps ⟨0,0,[]⟩=Pg.cRun (ps.drop (k+1)) ⟨0,Pg.gW (m+i),([]:List Int).reverse⟩):=b;clear b;rcases c.2 with ⟨t,_⟩|⟨g3,I,J,t,_⟩
    .subst t;go_wp2_with (first|(with_reducible refine lP rfl z ?_)|(with_reducible refine sP rfl rfl q ?_));apply(Yw _ _).mono;rintro e W ⟨rfl,rfl⟩;go_wp2;go_roundw
     .exact⟨k+1,0,_,[],Qg,rfl,rfl,Qo,Qo,Qo,d.1,d.2,Qs,Qs,c,n,a⟩
     simp[intOf];omega
    subst t;go_wp2_with (first|(with_reducible refine lP rfl z ?_)|(with_reducible refine sP rfl rfl q ?_));apply(Yw _ _).mono;rintro e W ⟨rfl,rfl⟩;go_wp2;go_roundw
    .exact⟨k+1,0,_,[],Qg,rfl,rfl,Qo,Qo,Qo,d.1,d.2,Qs,Qs,c,n,a⟩
    simp[intOf];omega
   subst hl;have a:Hid (Pg.cRun ps ⟨0,0,[]⟩=Pg.cRun (ps.drop (k+1)) ⟨x,Pg.gW (m+i),u.reverse⟩):=by show _=_;rw[b.o,gu,gt];rfl
   clear b;have hx:=r.o x Qs;have s:Hid (∀y∈u,0<=y/\y<=97):=λy hy=>r.o y (by simp[hy])
   have A:(u.concat x).length=u.length+1:=Qs
   rw[A,gu]at c;have al:u.length+1<=k:=Qo
   clear af A r;rcases c.2 with ⟨_,h0⟩|⟨g3,I,J,t,aj,ao,ak,_⟩
   .omega
   subst t;have ap:=Lp c rfl;have T:=OZ c;have i1:(0:Int)<(u.length:Int)+1:=Qo
   have i2:(0:Int)<=(u.length:Int)/\(u.length:Int)<(u.length:Int)+1:=Qo
   go_wp2_with (first|(with_reducible refine lP rfl z ?_)|(with_reducible refine sP rfl rfl q ?_));apply(Yw _ _).mono;rintro e W ⟨rfl,rfl⟩;go_wp2;go_roundw
   .exact⟨k+1,x,_,u,Qg,rfl,rfl,Qo,hx.1,hx.2,d.1,d.2,Qo,s,T,n,a⟩
   simp[intOf];omega
  have b3:(kd==3)=false:=by simpa using h3
  by_cases Z:kd=4
  .subst Z;have a:Hid (Pg.cRun ps ⟨0,0,[]⟩=Pg.cRun (ps.drop (k+1)) ⟨Pg.gW (m+i),0,l.reverse⟩):=b;clear b;go_wp2_with (first|(with_reducible refine lP rfl z ?_)|(with_reducible refine sP rfl rfl q ?_));apply(Yw _ _).mono;rintro e W ⟨rfl,rfl⟩;go_wp2;go_roundw
   .exact⟨k+1,_,0,l,Qg,rfl,rfl,Qo,d.1,d.2,Qo,Qo,Qo,r,c,n,a⟩
   simp[intOf];omega
  have b4:(kd==4)=false:=by simpa using Z
  by_cases h8:kd=8
  .subst h8;have ag:=ep P H.1;have aq:i*mo<=97*9:=Int.mul_le_mul Q H.2 H.1 Qo;have N:=RR (i*mo) ag;have a:Hid (Pg.cRun ps ⟨0,0,[]⟩=Pg.cRun (ps.drop (k+1)) ⟨m,Pg.gW (i*mo),l.reverse⟩):=b;clear b;go_wp2_with (first|(with_reducible refine lP rfl z ?_)|(with_reducible refine sP rfl rfl q ?_));apply(Yw _ _).mono;rintro e W ⟨rfl,rfl⟩;go_wp2;go_roundw
   .exact⟨k+1,m,_,l,Qg,rfl,rfl,Qo,L,M,N.1,N.2,Qo,r,c,n,a⟩
   simp[intOf];omega
  have b8:(kd==8)=false:=by simpa using h8
  have a:Hid (Pg.cRun ps ⟨0,0,[]⟩=Pg.cRun (ps.drop (k+1)) ⟨m,i,l.reverse⟩):=by
   show _=_;rw[b.o];simp only[Pg.iE,dG h1,dG h2,dG h3,dG Z,dG h8]
  clear b h1 h2 h3 Z h8;go_wp2_with (first|(with_reducible refine lP rfl z ?_)|(with_reducible refine sP rfl rfl q ?_));go_roundw
  .exact⟨k+1,m,i,l,Qg,rfl,rfl,Qo,L,M,P,Q,Qo,r,c,n,a⟩
  simp[intOf];omega
 have an:¬(k:Int)<(ps.length:Int):=Qo
 have a:Hid (Pg.cRun ps ⟨0,0,[]⟩=⟨m,i,l.reverse⟩):=by show _=_;rw[Y.o,dT Qo];rfl
 clear Y;go_wp2_with fail;apply(Yw _ _).mono;rintro e W ⟨rfl,rfl⟩;go_wp2;go_ret;exact⟨Y2 (by rw[Pg.ig,a.o]),hB⟩
def QE:List Pt->Int->Nat->Nat
 |[],_,i=>i
 |p::ps,op,i=>if p.kd=4/\op=0 then i else QE ps (op+Pg.opn p.kd) (i+1)
def Wm:List Pt->Int->Nat->Nat
 |[],_,i=>i
 |p::ps,op,i=>if op+Pg.opn p.kd=0 then i+1 else Wm ps (op+Pg.opn p.kd) (i+1)
def Gx(ad:Option Addr)(cap:Nat)(ps:List Pt)(w:World)(hn:ps.length<=100)(hP:PS ad ps w):
  Cp 198 #[.slice ad ps.length cap] w λe w'=>e=.returned (I6 (QE ps 0 0:Nat))/\Bl w w':=by
 rcases ps with _|⟨H,y⟩
 .go_enter func198,ntmps198;go_wp2
  go_loop [8] (λx=>x=I6 0) (λ_=>0)
  .rfl
  subst hrel;go_wp2;go_ret;exact⟨rfl,Zk _ _⟩
 obtain⟨g,o,rfl,u⟩:=hP 0 H rfl;have E:g<w.heap.size:=Ze w (a_ g (o+0*261+0)) (u 0 _ rfl);have J:Hid (∀w',Bl w w'->∀(k:Nat) (p:Pt),(H::y)[k]?=some p->w'.rangeAt g (o+k*261) (YY p.kd p.pl p.f p.le p.mo p.fa)):=λw' O k p q=>by
  obtain⟨Y,o',e,h⟩:=hP k p q;cases e;exact λj v U=>by rw[O.cell (p:=(a_ g (o+k*261+j))) E];exact h j v U
 obtain⟨ps,t⟩:=nam (H::y);rw[<-t]at J hn ⊢;clear hP u t;obtain⟨R,D⟩:=nam (QE ps 0 0);rw[<-D];have K:=hyd D;clear D;go_enter func198,ntmps198;go_wp2
 go_loopw [3,8] (λV x w'=>∃(k:Nat) (op:Int),x=I6 k/\V=I6 op/\k<=ps.length/\-(k:Int)<=op/\op<=k/\Bl w w'/\Hid (R=QE (ps.drop k) op k)) (λ_ x _=>101-(intOf x).toNat)
 .exact⟨0,0,rfl,rfl,Qo,Qo,Qo,Zk _ _,K⟩
 clear K;obtain⟨k,op,rfl,rfl,Z,Q,S,B,z⟩:=hrel;by_cases n:k<ps.length
 .obtain⟨p,q⟩:∃p,ps[k]?=some p:=⟨ps[k],Zd n⟩;have s:ps.drop k=p::ps.drop (k+1):=by
   rw[dS n];congr 1;rw[Zd n]at q;exact Zh q
  have G:=J.o wr B k p q;have hz:=XH wr;have M:=Yz.boxed wr 0 0 (λ_=>false) 0 0 0 261;have m:=M.free;have L:=M.put p.kd p.pl p.f p.le p.mo p.fa;have r:Bl wr ((wr.alloc (Obj.cells (YY 0 0 (λ_=>false) 0 0 0).toArray 261)).setCells wr.heap.size 0 (YY p.kd p.pl p.f p.le p.mo p.fa)):=((Zk _ _).alloc (Zg _) _).trans (Y6 wr.heap.size wr.heap.size 0 (Zg _) _ _ 0);obtain⟨X,c⟩:=nam (((wr.alloc (Obj.cells (YY 0 0 (λ_=>false) 0 0 0).toArray 261)).setCells wr.heap.size 0 (YY p.kd p.pl p.f p.le p.mo p.fa)));rw[<-c]at L r;have i:=hyd c;clear c;have l:=B.trans (r.mono B.size);have N:(k:Int)<(ps.length:Int):=Qo
  have a:Hid (R=QE (p::ps.drop (k+1)) op k):=by show _=_;rw[z.o,s]
  clear z s q;obtain⟨kd,pl,f,le,mo,fa⟩:=p;simp only at *;have c0:=L.c0;have T:=Pg.iO kd;have I:Hid (∀W,Cp 196 #[I6 kd] W λe w'=>e=.returned (I6 (Pg.opn kd))/\w'=W):=λW=>Se kd W
  by_cases A:kd=4
  .subst A;by_cases h0:op=0
   .subst h0;have b:Hid (R=k):=by show _=_;rw[a.o,QE,dF (by exact⟨rfl,rfl⟩)]
    clear a;go_wp2_with (first|(with_reducible refine lP rfl G ?_)|(with_reducible apply sP rfl rfl m;rw[Zc,<-i.o]));go_ret;exact⟨Y2 (by have:=b.o;omega),l⟩
   have q0:(op==0)=false:=by simpa using h0
   have b:Hid (R=QE (ps.drop (k+1)) (op+Pg.opn 4) (k+1)):=by show _=_;rw[a.o,QE,dG (by rintro ⟨_,h⟩;exact h0 h)]
   clear a h0;generalize Pg.opn 4=d at *;go_wp2_with (first|(with_reducible refine lP rfl G ?_)|(with_reducible apply sP rfl rfl m;rw[Zc,<-i.o]));apply(I.o _).mono;rintro e w' ⟨rfl,rfl⟩;go_wp2;go_roundw
   .exact⟨k+1,op+d,Qg,rfl,Qo,Qo,Qo,l,b⟩
   simp[intOf];omega
  have q4:(kd==4)=false:=by simpa using A
  have b:Hid (R=QE (ps.drop (k+1)) (op+Pg.opn kd) (k+1)):=by show _=_;rw[a.o,QE,dG (by rintro ⟨h,_⟩;exact A h)]
  clear a A;generalize Pg.opn kd=d at *;go_wp2_with (first|(with_reducible refine lP rfl G ?_)|(with_reducible apply sP rfl rfl m;rw[Zc,<-i.o]));apply(I.o _).mono;rintro e w' ⟨rfl,rfl⟩;go_wp2;go_roundw
  .exact⟨k+1,op+d,Qg,rfl,Qo,Qo,Qo,l,b⟩
  simp[intOf];omega
 have P:¬(k:Int)<(ps.length:Int):=Qo
 have F:k=ps.length:=Qo
 subst F;have C:Hid (R=ps.length):=by show _=_;rw[z.o,dT Qo];rfl
 clear z;go_wp2;go_ret;exact⟨Y2 (by have:=C.o;omega),B⟩
def Hz(ad:Option Addr)(cap:Nat)(ps:List Pt)(w:World)(hn:ps.length<=100)(hP:PS ad ps w):
  Cp 218 #[.slice ad ps.length cap] w λe w'=>e=.returned (I6 (Wm ps 0 0:Nat))/\Bl w w':=by
 rcases ps with _|⟨H,y⟩
 .go_enter func218,ntmps218;go_wp2
  go_loop [8] (λx=>x=I6 0) (λ_=>0)
  .rfl
  subst hrel;go_wp2;go_ret;exact⟨rfl,Zk _ _⟩
 obtain⟨g,o,rfl,u⟩:=hP 0 H rfl;have F:g<w.heap.size:=Ze w (a_ g (o+0*261+0)) (u 0 _ rfl);have J:Hid (∀w',Bl w w'->∀(k:Nat) (p:Pt),(H::y)[k]?=some p->w'.rangeAt g (o+k*261) (YY p.kd p.pl p.f p.le p.mo p.fa)):=λw' P k p l=>by
  obtain⟨g',o',e,h⟩:=hP k p l;cases e;exact λj v V=>by rw[P.cell (p:=(a_ g (o+k*261+j))) F];exact h j v V
 obtain⟨ps,t⟩:=nam (H::y);rw[<-t]at J hn ⊢;clear hP u t;obtain⟨R,E⟩:=nam (Wm ps 0 0);rw[<-E];have K:=hyd E;clear E;go_enter func218,ntmps218;go_wp2
 go_loopw [3,8] (λX x w'=>∃(k:Nat) (op:Int),x=I6 k/\X=I6 op/\k<=ps.length/\-(k:Int)<=op/\op<=k/\Bl w w'/\Hid (R=Wm (ps.drop k) op k)) (λ_ x _=>101-(intOf x).toNat)
 .exact⟨0,0,rfl,rfl,Qo,Qo,Qo,Zk _ _,K⟩
 clear K;obtain⟨k,op,rfl,rfl,hk,S,T,A,z⟩:=hrel;by_cases i:k<ps.length
 .obtain⟨p,l⟩:∃p,ps[k]?=some p:=⟨ps[k],Zd i⟩;have s:ps.drop k=p::ps.drop (k+1):=by
   rw[dS i];congr 1;rw[Zd i]at l;exact Zh l
  have O:=J.o wr A k p l;have hz:=XH wr;have M:=Yz.boxed wr 0 0 (λ_=>false) 0 0 0 261;have q:=M.free;have L:=M.put p.kd p.pl p.f p.le p.mo p.fa;have r:Bl wr ((wr.alloc (Obj.cells (YY 0 0 (λ_=>false) 0 0 0).toArray 261)).setCells wr.heap.size 0 (YY p.kd p.pl p.f p.le p.mo p.fa)):=((Zk _ _).alloc (Zg _) _).trans (Y6 wr.heap.size wr.heap.size 0 (Zg _) _ _ 0);obtain⟨Z,a⟩:=nam (((wr.alloc (Obj.cells (YY 0 0 (λ_=>false) 0 0 0).toArray 261)).setCells wr.heap.size 0 (YY p.kd p.pl p.f p.le p.mo p.fa)));rw[<-a]at L r;have m:=hyd a;clear a;have n:=A.trans (r.mono A.size);have N:(k:Int)<(ps.length:Int):=Qo
  have b:Hid (R=Wm (p::ps.drop (k+1)) op k):=by show _=_;rw[z.o,s]
  clear z s l;obtain⟨kd,pl,f,le,mo,fa⟩:=p;simp only at *;have c0:=L.c0;have U:=Pg.iO kd;have I:Hid (∀W,Cp 196 #[I6 kd] W λe w'=>e=.returned (I6 (Pg.opn kd))/\w'=W):=λW=>Se kd W
  have B:Hid (op+Pg.opn kd=0->Wm ((⟨kd,pl,f,le,mo,fa⟩:Pt)::ps.drop (k+1)) op k=k+1):=λh=>by rw[Wm,dF h]
  have C:Hid (¬op+Pg.opn kd=0->Wm ((⟨kd,pl,f,le,mo,fa⟩:Pt)::ps.drop (k+1)) op k=Wm (ps.drop (k+1)) (op+Pg.opn kd) (k+1)):=λh=>by rw[Wm,dG h]
  generalize Pg.opn kd=d at *;by_cases h0:op+d=0
  .have Y:(op+d==0)=true:=by simpa using h0
   have c:Hid (R=k+1):=by show _=_;rw[b.o];exact B.o h0
   clear b h0;go_wp2_with (first|(with_reducible refine lP rfl O ?_)|(with_reducible apply sP rfl rfl q;rw[Zc,<-m.o]));apply(I.o _).mono;rintro e w' ⟨rfl,rfl⟩;go_wp2;go_ret;exact⟨Y2 (by have:=c.o;omega),n⟩
  have Y:(op+d==0)=false:=by simpa using h0
  have c:Hid (R=Wm (ps.drop (k+1)) (op+d) (k+1)):=by show _=_;rw[b.o];exact C.o h0
  clear b h0;go_wp2_with (first|(with_reducible refine lP rfl O ?_)|(with_reducible apply sP rfl rfl q;rw[Zc,<-m.o]));apply(I.o _).mono;rintro e w' ⟨rfl,rfl⟩;go_wp2;go_roundw
  .exact⟨k+1,op+d,Qg,rfl,Qo,Qo,Qo,n,c⟩
  simp[intOf];omega
 have Q:¬(k:Int)<(ps.length:Int):=Qo
 have G:k=ps.length:=Qo
 subst G;have D:Hid (R=ps.length):=by show _=_;rw[z.o,dT Qo];rfl
 clear z;go_wp2;go_ret;exact⟨Y2 (by have:=D.o;omega),A⟩
def LZ(ps:List Pt):Nat->Nat->Nat
 |0,i=>i
 |u+1,i=>match ps[i]? with
  |some p=>if Pg.gI p.kd then LZ ps u (i+1) else i
  |none=>i
def Ni(ps:List Pt):Nat:=LZ ps (ps.length+1) (Wm ps 0 0)
def A9(ps:List Pt):∀op i,Wm ps op i<=i+ps.length:=by
 induction ps with
 |nil=>intro op i;simp[Wm]
 |cons p ps ih=>
  intro op i;rw[Wm];split
  .simp
  have:=ih (op+Pg.opn p.kd) (i+1);simp only[dZ];omega
def Kf(ad:Option Addr)(cap:Nat)(ps:List Pt)(w:World)(J:ps.length<=100)(H:PS ad ps w):
  Cp 209 #[.slice ad ps.length cap] w λe w'=>e=.returned (I6 (Ni ps:Nat))/\Bl w w':=by
 obtain⟨R,j⟩:∃R,R=Ni ps:=⟨_,rfl⟩;rw[<-j];have n:Hid (R=LZ ps (ps.length+1) (Wm ps 0 0)):=j;have v:=A9 ps 0 0;have s:Hid (∀w',Bl w w'->PS ad ps w'):=λw' t=>H.below t
 have m:=Hz ad cap ps w J H;have h:Hid (Cp 218 #[.slice ad ps.length cap] w λe w'=>e=.returned (I6 (Wm ps 0 0:Nat))/\Bl w w'):=m;clear j m H;generalize Wm ps 0 0=a0 at *;go_enter func209,ntmps209;go_wp2_with fail;apply h.o.mono;rintro e w1 ⟨rfl,c⟩;go_wp2
 go_loopw [3] (λx w'=>∃(u i:Nat),x=I6 i/\i<=ps.length/\ps.length<u+i/\Bl w w'/\Hid (R=LZ ps u i)) (λx _=>101-(intOf x).toNat)
 .exact⟨ps.length+1,a0,rfl,Qo,Qo,c,n⟩
 clear n c;obtain⟨u,i,rfl,z,A,f,d⟩:=hrel;by_cases k:i<ps.length
 .have q:(i:Int)<(ps.length:Int):=Qo
  obtain⟨p,l⟩:∃p,ps[i]?=some p:=⟨ps[i],Zd k⟩;obtain⟨g,o,e,r⟩:=s.o wr f i p l;subst e;have c0:wr.cell? (a_ g (o+i*261))=some (I6 p.kd):=r 0 _ rfl;rcases u with _|u
  .omega
  have b:Hid (R=if Pg.gI p.kd then LZ ps u (i+1) else i):=by show _=_;rw[d.o,LZ,l]
  have HS:Hid (∀W,Cp 204 #[I6 p.kd] W λe w'=>e=.returned (.bool (Pg.gI p.kd))/\w'=W):=λW=>Ti p.kd W
  clear d r l;cases hs:Pg.gI p.kd
  .have a:Hid (R=i):=by show _=_;rw[b.o,hs];rfl
   rw[hs]at HS;clear b hs;go_wp2_with fail;apply(HS _).mono;rintro e w2 ⟨rfl,rfl⟩;go_wp2;go_ret;exact⟨Y2 (by have:=a.o;omega),f⟩
  have a:Hid (R=LZ ps u (i+1)):=by show _=_;rw[b.o,hs];rfl
  rw[hs]at HS;clear b hs;go_wp2_with fail;apply(HS _).mono;rintro e w2 ⟨rfl,rfl⟩;go_wp2;go_roundw
  .exact⟨u,i+1,Qg,Qo,Qo,f,a⟩
  simp[intOf];omega
 have y:¬(i:Int)<(ps.length:Int):=Qo
 rcases u with _|u
 .omega
 have a:Hid (R=i):=by show _=_;rw[d.o,LZ,ZB Qo]
 clear d;go_wp2;go_ret;exact⟨Y2 (by have:=a.o;omega),f⟩
def Bi(c:Pg.C)(p:Pt)(h:0<=c.ah/\0<=c.la/\∀y∈c.st,0<=y)(z:0<=p.mo):0<=(Pg.iE c p).ah/\0<=(Pg.iE c p).la/\∀y∈(Pg.iE c p).st,0<=y:=by
 let⟨h1,h2,h3⟩:=h;have a:=Pg.gO (c.ah+c.la) Qo;have e:=Pg.gO (c.la*p.mo) (ep h2 z);unfold Pg.iE;split
 .exact⟨a.1,Qs,h3⟩
 split
 .refine⟨Qs,Qs,?_⟩;intro y d;rcases ZR.1 d with h|h
  .subst h;exact a.1
  exact h3 y h
 split
 .split
  .exact⟨Qs,a.1,Qs⟩
  rename_i x r b;refine⟨h3 x (by rw[b];simp),a.1,λy d=>h3 y (by rw[b];simp[d])⟩
 split
 .exact⟨a.1,Qs,h3⟩
 split
 .exact⟨h1,e.1,h3⟩
 exact⟨h1,h2,h3⟩
def zJ(ps:List Pt):∀(c:Pg.C),(0<=c.ah/\0<=c.la/\∀y∈c.st,0<=y)->(∀p∈ps,0<=p.mo)->0<=(Pg.cRun ps c).ah/\0<=(Pg.cRun ps c).la:=by
 induction ps with
 |nil=>intro c h _;exact⟨h.1,h.2.1⟩
 |cons p r ih=>intro c h a;exact ih _ (Bi c p h (a p Qs)) (λq b=>a q (by simp[b]))
def MC(ps:List Pt)(z:∀p∈ps,0<=p.mo):0<=Pg.ig ps/\Pg.ig ps<=97:=by
 have:=zJ ps ⟨0,0,[]⟩ ⟨Qs,Qs,Qs⟩ z;exact Pg.gO _ Qo
def Yh(s:ByteArray):Int:=Pg.ig (Pg.ie (Y7 s) s.size).ps
def Rs(s:ByteArray):0<=Yh s/\Yh s<=97:=MC _ (λp a=>(Pg.iD _ _ p a).1)
def G8(f:Nat->ByteArray)(n:Nat)(e r a:Int):Prop:=
 (∃i:Nat,i<n/\(∀j,j<i->(Pg.gP (Y7 (f j)) (f j).size).1=0)/\Pg.gP (Y7 (f i)) (f i).size=(e,a)/\e≠0/\r=i) \/
 ((∀j,j<n->(Pg.gP (Y7 (f j)) (f j).size).1=0)/\r=0/\a=0/\e=if 96<X8 (λj=>Yh (f j)) n then 7 else 0)
def Ke(ad:Option Addr)(len cap:Nat)(w:World)(z:len<=maxLen)(h:len=0\/8<len):
  Cp 124 #[.slice ad len cap] w λe' w'=>e'=.returned (.tuple #[I6 1,I6 0,I6 0])/\w'=w:=by
 unfold maxLen at z;rcases h with h|h
 .subst h;go_enter func124,ntmps124;go_wp2;go_ret3;exact⟨rfl,rfl⟩
 have h0:((len:Int)==0)=false:=Qp
 go_enter func124,ntmps124;go_wp2;go_ret3;exact⟨rfl,rfl⟩
def O9(b Y cap n:Nat)(f:Nat->ByteArray)(e r a:Int)(w:World)(h1:1<=n)(h8:n<=8)(Z:b<w.heap.size)(hm:∀i,i<n->(f i).size<=maxLen)(hr:RL b Y f n w)(h:G8 f n e r a):
  Cp 124 #[.slice (some (a_ b Y)) n cap] w λe' w'=>e'=.returned (.tuple #[I6 e,I6 r,I6 a])/\Bl w w':=by
 have U:((n:Int)==0)=false:=dU.2 Qo;have O:=hyd hm;have P:=hyd hr;have t:Hid (∀k,k<=n->0<=X8 (λj=>Yh (f j)) k/\X8 (λj=>Yh (f j)) k<=97*k):=by
  show ∀k,k<=n->0<=X8 (λj=>Yh (f j)) k/\X8 (λj=>Yh (f j)) k<=97*k;intro k
  induction k with
  |zero=>intro _;simp[X8]
  |succ k ih=>
   intro A;have:=ih Qo;have h2:=Rs (f k);simp only[X8];omega
 have u:Hid (∀k,k<n->(Pg.gP (Y7 (f k)) (f k).size).1=0->∀W,Cp 125 #[.string (f k)] W λe w'=>∃v ps,e=.returned (.tuple #[v,I6 0,I6 (Pg.gP (Y7 (f k)) (f k).size).2])/\Bl W w'/\(∀m,m=w'->Cp 168 #[v] m λe2 w2=>e2=.returned (I6 (Yh (f k)))/\Bl m w2)/\ps=([]:List Pt)):=by
  show ∀k,k<n->(Pg.gP (Y7 (f k)) (f k).size).1=0->∀W,Cp 125 #[.string (f k)] W λe w'=>∃v ps,e=.returned (.tuple #[v,I6 0,I6 (Pg.gP (Y7 (f k)) (f k).size).2])/\Bl W w'/\(∀m,m=w'->Cp 168 #[v] m λe2 w2=>e2=.returned (I6 (Yh (f k)))/\Bl m w2)/\ps=([]:List Pt)
  intro k A h0 W;apply(Pm (f k) W (O k A)).mono;rintro e' w' ⟨v,ps,rfl,c,l⟩;let⟨R,z,T,_⟩:=l h0;refine⟨v,[],by rw[h0],c,?_,rfl⟩;rintro m rfl;refine(Ox v ps _ _ T R ?_).mono ?_
  .intro p X;have:=Pg.iD (Y7 (f k)) (f k).size p.strip (by rw[<-z];exact eV.2 ⟨p,X,rfl⟩);exact this
  rintro e2 w2 ⟨rfl,h2⟩;refine⟨Y2 ?_,h2⟩;rw[Yh,<-z,Pg.iH]
 rcases h with ⟨N,G,l,M,S,rfl⟩|⟨l,rfl,rfl,rfl⟩
 .have o:=hyd l;have D:=hyd M;have V:(e==0)=false:=by simpa using S
  go_enter func124,ntmps124;go_wp2
  go_loopw [5,21] (λx i w'=>∃k:Nat,k<=N/\i=I6 k/\x=I6 (X8 (λj=>Yh (f j)) k)/\Bl w w') (λ_ i _=>9-(intOf i).toNat)
  .exact⟨0,Qo,rfl,rfl,Zk _ _⟩
  obtain⟨k,A,rfl,rfl,c⟩:=hrel;have s:=P.o.below Z c k Qo;have K:(k:Int)<n:=Qo
  by_cases I:k=N
  .subst I;go_wp2_with fail;apply(Pm (f k) _ (O.o k G)).mono;rintro e' w1 ⟨v,ps,rfl,d,_⟩;rw[D.o];go_wp2;go_ret3;exact⟨rfl,c.trans (d.mono c.size)⟩
  have H:k<N:=Qo
  have E:=t.o k Qo;have L:=Rs (f k);go_wp2_with fail;apply(u k Qo (o k H) _).mono;rintro e' w1 ⟨v,ps,rfl,d,F,_⟩;have C:=F w1 rfl;have B:Hid (Cp 168 #[v] w1 λe2 w2=>e2=.returned (I6 (Yh (f k)))/\Bl w1 w2):=C;go_wp2_with fail;apply B.o.mono;rintro e' w2 ⟨rfl,q⟩;go_wp2;go_roundw
  .have y:=c.trans (d.mono c.size);exact⟨k+1,Qo,Qg,rfl,y.trans (q.mono y.size)⟩
  simp[intOf];omega
 have o:=hyd l;go_enter func124,ntmps124;go_wp2
 go_loopw [5,21] (λx i w'=>∃k:Nat,k<=n/\i=I6 k/\x=I6 (X8 (λj=>Yh (f j)) k)/\Bl w w') (λ_ i _=>9-(intOf i).toNat)
 .exact⟨0,Qo,rfl,rfl,Zk _ _⟩
 obtain⟨k,A,rfl,rfl,c⟩:=hrel;have E:=t.o k Qo;by_cases g:k<n
 .have s:=P.o.below Z c k g;have K:(k:Int)<n:=Qo
  have L:=Rs (f k);go_wp2_with fail;apply(u k g (o k g) _).mono;rintro e' w1 ⟨v,ps,rfl,d,F,_⟩;have C:=F w1 rfl;have B:Hid (Cp 168 #[v] w1 λe2 w2=>e2=.returned (I6 (Yh (f k)))/\Bl w1 w2):=C;go_wp2_with fail;apply B.o.mono;rintro e' w2 ⟨rfl,q⟩;go_wp2;go_roundw
  .have y:=c.trans (d.mono c.size);exact⟨k+1,Qo,Qg,rfl,y.trans (q.mono y.size)⟩
  simp[intOf];omega
 have J:k=n:=Qo
 subst J;by_cases Q:96<X8 (λj=>Yh (f j)) k
 .go_wp2;go_ret3;exact⟨by first|rfl|rw[p_],c⟩
 go_wp2;go_ret3;exact⟨by first|rfl|rw[g_],c⟩
end
section
open Go.RowKit
def xM:Prop:=∀(f:Nat->ByteArray) (n:Nat),∃e r a,G8 f n e r a/\JD f n e r a
def zh:xM:=by
 intro f n;by_cases a:∀j,j<n->(Pg.gP (Y7 (f j)) (f j).size).1=0
 .have o:∀j,∃V:Int,j<n->(∃g,Rf.cnt g true (f j).data.toList=some V)/\0<=V/\Yh (f j)=Pg.gW V:=by
   intro j;by_cases b:j<n
   .obtain⟨_,h⟩:=XQ (f j);obtain⟨V,g,h1,h2,h3⟩:=Kg (f j) (h (a j b)).2.2;exact⟨V,λ_=>⟨⟨g,h1⟩,h2,h3⟩⟩
   exact⟨0,λh=>absurd h b⟩
  obtain⟨vs,c⟩:=Classical.axiomOfChoice o;have hs:=(KI (u:=λj=>Yh (f j)) (v:=vs) n (λi d=>(c i d).2)).1;refine⟨if 96<X8 vs n then 7 else 0,0,0,Or.inr ⟨a,rfl,rfl,?_⟩,Or.inr ⟨λj b=>?_,rfl,rfl,vs,λj b=>(c j b).1,rfl⟩⟩
  .by_cases h:96<X8 vs n
   .rw[dF h,dF (hs.2 h)]
   rw[dG h,dG (λl=>h (hs.1 l))]
  obtain⟨h1,h2⟩:=XQ (f j);have:=h2 (a j b);rw[a j b,this.1]at h1;exact⟨h1,this.2.1⟩
 have:∃i,i<n/\(∀j,j<i->(Pg.gP (Y7 (f j)) (f j).size).1=0)/\(Pg.gP (Y7 (f i)) (f i).size).1≠0:=by
  have p:∀m,m<=n->(∀j,j<m->(Pg.gP (Y7 (f j)) (f j).size).1=0)\/∃i,i<n/\(∀j,j<i->(Pg.gP (Y7 (f j)) (f j).size).1=0)/\(Pg.gP (Y7 (f i)) (f i).size).1≠0:=by
   intro m
   induction m with
   |zero=>intro _;exact Or.inl (λj b=>by omega)
   |succ m ih=>
    intro q;rcases ih (by omega)with h|h
    .by_cases k:(Pg.gP (Y7 (f m)) (f m).size).1=0
     .refine Or.inl (λj b=>?_);by_cases e:j=m
      .subst e;exact k
      exact h j (by omega)
     exact Or.inr ⟨m,by omega,h,k⟩
    exact Or.inr h
  rcases p n (Zg _)with h|h
  .exact absurd h a
  exact h
 obtain⟨i,d,h1,h2⟩:=this;refine⟨(Pg.gP (Y7 (f i)) (f i).size).1,i,(Pg.gP (Y7 (f i)) (f i).size).2,Or.inl ⟨i,d,h1,rfl,h2,rfl⟩,Or.inl ⟨i,d,λj b=>?_,(XQ (f i)).1,h2,rfl⟩⟩;obtain⟨g1,g2⟩:=XQ (f j);have:=g2 (h1 j b);rw[h1 j b,this.1]at g1;exact g1
end
