import Derived.Deep.AppendLies
import Derived.Test.YtoaaklhpmhjhkaaGreatC14
set_option maxRecDepth 100000
set_option maxHeartbeats 4000000
set_option linter.all false
namespace Go.Proofs.YtoaaklhpmhjhkaaGreat
section
open Go.RowKit
open Pg (Pt)
def Pt.cells (p:Pt):List Value:=YX p.kd p.pl p.f p.le p.mo p.fa
def Vz (ps:List Pt):List Value:=ps.flatMap Pt.cells
theorem J2 (a b:List Pt):Vz (a++b)=Vz a++Vz b:=by simp[Vz]
theorem EK (p:Pt):Vz [p]=Pt.cells p:=by simp[Vz]
theorem EJ (ps:List Pt) (k:Nat) (p:Pt) (h:ps[k]?=some p) (j:Nat) (v:Value) (y:(Pt.cells p)[j]?=some v):(Vz ps)[k*261+j]?=some v:=by
 induction ps generalizing k with
 |nil=>simp at h
 |cons q r ih=>
  have a:j<261:=by have:=(Zi.1 y).1;simpa[Pt.cells,Ya]using this
  rcases k with _|k
  ·simp only[List.getElem?_cons_zero,Zp]at h;subst h;rw[Nat.zero_mul,Zn,Vz,List.flatMap_cons,Zv (by simp[Pt.cells,Ya,a])];exact y
  simp only[List.getElem?_cons_succ]at h;rw[Vz,List.flatMap_cons,ZG (by simp[Pt.cells,Ya];omega)];have:(k+1)*261+j-(Pt.cells q).length=k*261+j:=by simp[Pt.cells,Ya];omega
  rw[this];exact ih k h
variable {a:Act}{ops:Array Oper}{Q:Exit->Act->World->Prop}{x:Int}{rest:List Oper}{ps:List Pt}{xs:List Value}{B base base' cap g m n n' sz:Nat}{o op:Oper}{ad:Option Addr}{v v':Value}{w w':World}
theorem Vc {e:TypeId} (h:w.ownsRow base e 261 (sL g n cap) n (Vz ps)) (k:Nat) (p:Pt) (y:ps[k]?=some p):
  w.rangeAt g (k*261) (Pt.cells p):=λj v m=>by
 have h1:=EJ ps k p y j v m;rcases h.2 with ⟨h0,_⟩|⟨o,d,b,c,q,f,i,r,l,a⟩
 ·cases h0
 cases c;rw[cell_of_row w g (k*261+j) b e (0,0) f,<-h1,<-a];have:k*261+j<n*261:=by
  have:=(Zi.1 h1).1;rw[h.1]at this;exact this
 simp[this]
theorem Yo {e:TypeId} (h:w.ownsRow base e sz v n xs) (y:Bl w w'):w'.ownsRow base e sz v n xs:=by
 refine⟨h.1,?_⟩;rcases h.2 with h0|⟨d,b,c,j,k,f,a⟩
 ·exact Or.inl h0
 refine Or.inr ⟨d,b,c,j,k,?_,a⟩;rw[y.block d ?_];exact f;rcases ZD d w.heap.size with i|g
 ·exact i
 rw[Array.getElem?_eq_none g]at f;cases f
theorem LU (w:World) (p:Pt):(Instr.buildSlice 194 1 #[(0,.agg (Pt.cells p).toArray)]).run Tryz.prog w=.ok (.slice (some (a_ w.heap.size 0)) 1 1) (w.alloc (.cells (Pt.cells p).toArray 261)):=by kernel_rfl
theorem NP:∃i,Tryz.prog.info? 261=some i/\i.zero=some (.agg (YX 0 0 (λ_=>false) 0 0 0).toArray)/\i.size=261/\i.bytes=296:=by
 have h1:(Tryz.prog.info? 261).isSome=true:=by kernel_rfl
 obtain⟨i,a⟩:=Zx.1 h1;refine⟨i,a,?_,?_,?_⟩
 ·have:((Tryz.prog.info? 261).bind (·.zero))=some (.agg (YX 0 0 (λ_=>false) 0 0 0).toArray):=by kernel_rfl
  rw[a]at this;exact this
 ·have:((Tryz.prog.info? 261).map (·.size))=some 261:=by kernel_rfl
  rw[a]at this;simpa using this
 have:((Tryz.prog.info? 261).map (·.bytes))=some 296:=by kernel_rfl
 rw[a]at this;simpa using this
theorem Nc (y:op.guard=none) (x:Operand) (J:op.op=.buildSlice 194 1 #[(0,x)])
  (p:Pt) (Y:a.eval x=.agg (Pt.cells p).toArray) (H:Nat) (z:w.heap.size=H)
  (h:wpList Tryz.prog ops Q rest (a.put op.dst (sL H 1 1)) (w.alloc (.cells (Pt.cells p).toArray 261))):wpList Tryz.prog ops Q (op::rest) a w:=
 wpList_plain y λ_ b=>by
  subst z;have c:(Instr.buildSlice 194 1 (#[(0,x)].map λ(i,o)=>(i,a.eval o))).run Tryz.prog w=.ok (.slice (some (a_ w.heap.size 0)) 1 1) (w.alloc (.cells (Pt.cells p).toArray 261)):=by
   rw[show(#[((0:Nat),x)].map λ(i,o)=>(i,a.eval o))=#[(0,a.eval x)] by simp,Y];exact LU w p
  unfold Oper.wp execOp;simp only[J,Sem.run_bind,Sem.run_pure,Zu,c];exact b _ _ h
theorem Po {e:TypeId} (h:w.ownsRow base e sz v n xs):∀k,v.ownBlock=some k->base<=k:=by
 intro k b;rcases h.2 with ⟨rfl,_⟩|⟨f,a,c,rfl,d,_⟩
 ·cases b
 cases b;exact d
theorem UC (b:Nat):∀(vs:List Value) (o:Nat) (w:World),(w.setCells b o vs).heap.size=w.heap.size
 |[],_,_=>rfl
 |v::r,o,w=>by rw[World.setCells,UC b r];simp[World.setCell]
theorem I3 (w:World) (H:Nat) (y:w.heap.size=H) (p:Pt) (t:TypeId):∀j u,(Pt.cells p)[j]?=some u->(w.alloc (.cells (Pt.cells p).toArray t)).cell? (((a_ H 0):Addr).add j)=some u:=by
 intro j u a;subst y;rw[Addr.add_mid,Zn,Zm];simpa using a
theorem RV (hgd:o.guard=none) (s x:Operand)
  (ho:o.op=.call { callee:=.builtin .append,args:=#[s,x],argTypes:=#[194,194] }) (base:Nat)
  (v:Value) (ps:List Pt) (hs:a.eval s=v) (hown:w.ownsRow base 261 261 v ps.length (Vz ps)) (hn:ps.length<=1000)
  (B:Nat) (p:Pt) (hx:a.eval x=sL B 1 1) (hnews:∀j u,(Pt.cells p)[j]?=some u->w.cell? (((a_ B 0):Addr).add j)=some u) (hbase:base<=w.heap.size)
  (h:∀g cap w',w'.ownsRow base 261 261 (sL g (ps.length+1) cap) (ps.length+1) (Vz (ps++[p]))->w.grownBy w' v.ownBlock->wpList Tryz.prog ops Q rest (a.put o.dst (sL g (ps.length+1) cap)) w'):wpList Tryz.prog ops Q (o::rest) a w:=by
 obtain⟨i,e,b,c,d⟩:=NP;refine wpList_append_lies w hgd s x 194 ho base 261 i (.agg (YX 0 0 (λ_=>false) 0 0 0).toArray) 261 296 u_n e b c d (by simp[Value.cells,Ya]) (by omega) v ps.length (Vz ps) hs hown (a_ B 0) 1 1 (Pt.cells p) hx (by simp[Pt.cells,Ya]) hnews (Qt _ _ _ _ _ _) (by omega) (by unfold maxLen;omega) (by omega) hbase w.heap.size rfl ?_;intro g cap w' h1 h2 h3 f;refine h g cap w' ?_ h2;rw[J2,EK];exact h1
def ID (s:ByteArray) (ps:List Pt):Prop:=∀p∈ps,p.kd=8->p.le=BK s p.pl
def Ca (s:ByteArray) (w:World) (r:Pg.PR) (e:Ending) (w':World):Prop:=
 ∃(v:Value) (ps:List Pt),e=.returned (.tuple #[v,.int .i64 r.n,.bool r.ok])/\Below w.heap.size w w'/\(r.ok=true->w'.ownsRow w.heap.size 261 261 v ps.length (Vz ps)/\ps.map Pt.strip=r.ps/\ps.length<=100/\ID s ps)
theorem MW (s:ByteArray) (w:World) (hs:s.size<=40):
  Cp 169 #[.string s] w (Ca s w (Pg.readParts (Y7 s) s.size)):=by
 obtain⟨R,hR⟩:=nam (Pg.readParts (Y7 s) s.size);rw[<-hR];have O:=hyd hR;clear hR;go_enter Tryz.func169,Tryz.ntmps169;go_wp2
 go_loopw [5,6,7,8] (λv b o x w'=>∃(u k:Nat) (X op:Int) (ps:List Pt),x=.int .i64 k/\b=.int .i64 X/\o=.int .i64 op/\s.size<u+k/\1<=u/\k<=100/\-(k:Int)<=op/\op<=k/\ps.length<=k/\w'.ownsRow w.heap.size 261 261 v ps.length (Vz ps)/\Bl w w'/\Hid (ID s ps)/\Hid (R=Pg.partsFrom (Y7 s) s.size u X op k (ps.map Pt.strip))) (λ_ _ _ x _=>101-(intOf x).toNat)
 ·exact⟨s.size+1,0,0,0,[],rfl,rfl,rfl,by omega,by omega,by omega,by omega,by omega,by simp,⟨rfl,Or.inl ⟨rfl,rfl⟩⟩,Zk _ _,(λp hp=>by cases hp),O⟩
 clear O;obtain⟨u,k,X,op,ps,rfl,rfl,rfl,aA,az,hk,av,aw,ay,F,Y,P,N⟩:=hrel;by_cases ar:k<s.size
 ·rcases u with _|u
  ·omega
  have ae:(k:Int)<(s.size:Int):=by omega
  have j:=Pg.readPart_bd (Y7 s) s.size k (Pg.kindOf (Y7 s k)) (Nw s) (by omega);have Z:=N.out;rw[Pg.partsFrom,if_pos ae]at Z;clear N;obtain⟨t,ht⟩:=nam (Pg.readPart (Y7 s) s.size k (Pg.kindOf (Y7 s k)));obtain⟨kd,I⟩:=nam (Pg.kindOf (Y7 s k));rw[<-I]at ht Z j;rw[<-ht]at Z j;have Ht:=hyd ht;have aj:=hyd I;have HI:=hyd Z;have S:=hyd j;clear Z ht I j;go_wp2_with fail;refine(YP s (k:Int) _).mono ?_;rintro e W ⟨rfl,rfl⟩;go_wp2_with fail;refine(IY _ _).mono ?_;rintro e W ⟨rfl,rfl⟩;rw[<-aj.out];go_wp2_with fail;refine(Li kd X op _).mono ?_;rintro e W ⟨rfl,rfl⟩;cases hcs:Pg.canStand kd X op
  ·have z:Hid (R=⟨k,false,[]⟩):=by show _=_;rw[HI.out,hcs];rfl
   clear HI hcs;go_wp2;go_ret3;rw[z.out];exact⟨_,[],rfl,Y,λh=>by cases h⟩
  have A:Hid (R=if t.ok then Pg.partsFrom (Y7 s) s.size u kd (Pg.opens kd op) t.n (ps.map Pt.strip++[⟨kd,k,t.f,0,t.mo,t.fa⟩]) else ⟨t.n,false,[]⟩):=by show _=_;rw[HI.out,hcs];rfl
  clear HI hcs;go_wp2_with fail;refine(LM s k kd _ hs (by omega)).mono ?_;rw[<-Ht.out];rintro e l ⟨a,M,f',c,L,G,rfl,aa,ah⟩;have V:Hid _:=ah;clear ah;have hz:=XP l;have hN:=YF.boxed l 0 0 (λ_=>false) 0 0 0 261;have an:=hN.store a M f' c L G;have hM:=hN.put a M f' c L G;have ab:Bl l ((l.alloc (Obj.cells (YX 0 0 (λ_=>false) 0 0 0).toArray 261)).setCells l.heap.size 0 (YX a M f' c L G)):=((Zk _ _).alloc (Zg _) _).trans (Y6 l.heap.size l.heap.size 0 (Zg _) _ _ 0);have C:=Y.trans (aa.mono Y.size);have m:=C.trans (ab.mono C.size);cases htok:t.ok
  ·have z:Hid (R=⟨t.n,false,[]⟩):=by show _=_;rw[A.out,htok];rfl
   clear A;go_wp2;go_ret3;rw[z.out];exact⟨_,[],rfl,m,λh=>by cases h⟩
  obtain⟨e1,e2,e3,e4,e5,e6⟩:=V.out htok;have ai:=hyd e6;clear e6;have j:=S.out htok;have z:Hid (R=Pg.partsFrom (Y7 s) s.size u kd (Pg.opens kd op) t.n (ps.map Pt.strip++[⟨kd,k,t.f,0,t.mo,t.fa⟩])):=by show _=_;rw[A.out,htok];rfl
  clear A V S;subst e1 e2 e3 e4 e5;obtain⟨nn,af⟩:=ZA (show 0<=t.n by omega);have U:=hyd af;have au:k<nn/\nn<=k+45:=by omega
  clear af j;have K:((l.alloc (Obj.cells (YX 0 0 (λ_=>false) 0 0 0).toArray 261)).setCells l.heap.size 0 (YX a k t.f c t.mo t.fa)).heap.size=l.heap.size+1:=by rw[UC];simp
  have r:=Yo (Yo F aa) ab;have y:=Yo r ((Zk _ _).alloc (Zg _) (.cells (Pt.cells ⟨a,k,t.f,c,t.mo,t.fa⟩).toArray 261));have q:=m.alloc m.size (.cells (Pt.cells ⟨a,k,t.f,c,t.mo,t.fa⟩).toArray 261);have E:=I3 _ _ K ⟨a,k,t.f,c,t.mo,t.fa⟩ 261;obtain⟨i,hi,ao,ap,aq⟩:=NP;clear hi ao ap aq;have ak:Hid _:=K;have T:Hid _:=E;clear K E r;have al:=hN.free;have am:=Po y;have HE:∀x,Pg.opens a op=x->Hid (R=Pg.partsFrom (Y7 s) s.size u a x (nn:Int) ((ps++[(⟨a,k,t.f,c,t.mo,t.fa⟩:Pt)]).map Pt.strip)):=by
   intro x hx;show _=_;rw[z.out,hx,U.out,List.map_append];rfl
  have D:(ps++[(⟨a,k,t.f,c,t.mo,t.fa⟩:Pt)]).length=ps.length+1:=by simp
  have B:=hyd D;clear an D;have HF:=HE _ (Pg.opens_opn a op);have Q:Hid (ID s (ps++[(⟨a,k,t.f,c,t.mo,t.fa⟩:Pt)])):=λp hp h8=>by
   rcases ZU.1 hp with h|h
   ·exact P p h h8
   rw[ZC.1 h]at h8 ⊢;exact ai h8
  have ax:=Pg.opn_bd a;have HO:Hid (∀W,Cp 196 #[.int .i64 a] W λe w'=>e=.returned (.int .i64 (Pg.opn a))/\w'=W):=λW=>Sz a W
  clear HE z;generalize Pg.opn a=d at *;go_wp2_with (first|(with_reducible refine sP rfl rfl al ?_)|(with_reducible refine lP rfl hM.at_ ?_)|(with_reducible show wpList _ _ _ (⟨_,Op.buildSlice 194 _ _,_,_,_,_⟩::_) _ _;refine Nc rfl _ rfl ⟨a,k,t.f,c,t.mo,t.fa⟩ rfl (l.heap.size+1) ak.out ?_)|(at_builtin;refine RV (by rfl) _ _ (by rfl) w.heap.size u5 ps (by rfl) y (by omega) (l.heap.size+1) ⟨a,k,t.f,c,t.mo,t.fa⟩ (by rfl) T.out q.size ?_;intro g cap w5 J H));refine(HO.out _).mono ?_;rintro e w' ⟨rfl,rfl⟩;go_wp2;rw[U.out];go_roundw
  ·exact⟨u,nn,a,op+d,ps++[⟨a,k,t.f,c,t.mo,t.fa⟩],rfl,rfl,rfl,by omega,by omega,by omega,by omega,by omega,by rw[B.out];omega,by rw[B.out];exact J,q.grown H q.size am,Q,HF⟩
  simp[intOf];omega
 have ac:¬(k:Int)<(s.size:Int):=by omega
 rcases u with _|u
 ·omega
 by_cases ho:op=0
 ·have z:Hid (R=⟨k,true,ps.map Pt.strip⟩):=by show _=_;rw[N.out,Pg.partsFrom,if_neg ac,ho];rfl
  have ag:(op==0)=true:=by simpa using ho
  clear N ho;go_wp2;go_ret3;rw[z.out];exact⟨u5,ps,rfl,Y,λ_=>⟨F,rfl,by omega,P.out⟩⟩
 have ag:(op==0)=false:=by simpa using ho
 have z:Hid (R=⟨k,false,ps.map Pt.strip⟩):=by show _=_;rw[N.out,Pg.partsFrom,if_neg ac,ag]
 clear N ho;go_wp2;go_ret3;rw[z.out];exact⟨u5,ps,rfl,Y,λh=>by cases h⟩
theorem Rp {P:Program} (hw:Region.wanted op (yielded ops a.tmps)=true) (y:TypeId) (x:Operand) (Y:op.op=.load y x)
  (b o:Nat) (hx:a.eval x=.pointer (some (a_ b o))) (cs:List Value) (d:TypeDesc) (z:w.rangeAt b o cs)
  (Z:P.underlying y=some d) (H:d.isRow=true) (J:(P.info? y).map (·.size)=some cs.length)
  (h:wpList P ops Q rest (a.put op.dst (.agg cs.toArray)) w):wpList P ops Q (op::rest) a w:=
 wpList_step λK c=>by rw[if_pos hw];exact wp_load_mid y x Y b o hx cs d z Z H J (c _ _ h)
theorem KX (v:Value) (ps:List Pt) (base:Nat) (w:World) (Z:ps.length<=100) (Y:w.ownsRow base 261 261 v ps.length (Vz ps)):
  Cp 170 #[v] w λe w'=>e=.returned (I6 (Pg.tooDeep ps 0))/\Bl w w':=by
 rcases Y.2 with ⟨rfl,h0⟩|⟨g,cap,G,rfl,H,_⟩
 ·have:ps=[]:=List.eq_nil_of_length_eq_zero h0;subst this;go_enter Tryz.func170,Tryz.ntmps170;go_wp2
  go_loop [8] (λx=>x=I6 0) (λ_=>0)
  ·rfl
  subst hrel;go_wp2;go_ret;exact⟨rfl,Zk _ _⟩
 go_enter Tryz.func170,Tryz.ntmps170;go_wp2
 go_loopw [3,8] (λo x w'=>∃(k:Nat) (op:Int),x=I6 k/\o=I6 op/\k<=ps.length/\-(k:Int)<=op/\op<=k/\w'.ownsRow base 261 261 (sL g ps.length cap) ps.length (Vz ps)/\Bl w w'/\Hid (Pg.tooDeep ps 0=Pg.tooDeep (ps.drop k) op)) (λ_ x _=>101-(intOf x).toNat)
 ·exact⟨0,0,rfl,rfl,by omega,by omega,by omega,Y,Zk _ _,rfl⟩
 obtain⟨k,op,rfl,rfl,M,J,K,C,t,q⟩:=hrel;by_cases i:k<ps.length
 ·obtain⟨p,r⟩:∃p,ps[k]?=some p:=⟨ps[k],Zd i⟩;have n:ps.drop k=p::ps.drop (k+1):=by
   rw[List.drop_eq_getElem_cons i];congr 1;rw[Zd i]at r;exact Zh r
  have E:wr.rangeAt g (k*261) (YX p.kd p.pl p.f p.le p.mo p.fa):=Vc C k p r;have hz:=XP wr;have B:=YF.boxed wr 0 0 (λ_=>false) 0 0 0 261;have m:=B.free;have u:=B.put p.kd p.pl p.f p.le p.mo p.fa;have h:Bl wr ((wr.alloc (Obj.cells (YX 0 0 (λ_=>false) 0 0 0).toArray 261)).setCells wr.heap.size 0 (YX p.kd p.pl p.f p.le p.mo p.fa)):=((Zk _ _).alloc (Zg _) _).trans (Y6 wr.heap.size wr.heap.size 0 (Zg _) _ _ 0);obtain⟨F,b⟩:∃W,W=((wr.alloc (Obj.cells (YX 0 0 (λ_=>false) 0 0 0).toArray 261)).setCells wr.heap.size 0 (YX p.kd p.pl p.f p.le p.mo p.fa)):=⟨_,rfl⟩;rw[<-b]at u h;have j:Hid (F=((wr.alloc (Obj.cells (YX 0 0 (λ_=>false) 0 0 0).toArray 261)).setCells wr.heap.size 0 (YX p.kd p.pl p.f p.le p.mo p.fa))):=b;clear b;have y:=Yo C h;have l:=t.trans (h.mono t.size);have D:(k:Int)<(ps.length:Int):=by omega
  have a:Hid (Pg.tooDeep ps 0=if 6<Pg.opens p.kd op then p.pl else Pg.tooDeep (ps.drop (k+1)) (Pg.opens p.kd op)):=by show _=_;rw[q.out,n,Pg.tooDeep]
  clear q n r;obtain⟨kd,pl,f,le,mo,fa⟩:=p;simp only at *;have c0:=u.c0;have c1:=u.c1;have L:=Pg.opn_bd kd;have z:Hid (∀W,Cp 196 #[I6 kd] W λe w'=>e=.returned (I6 (Pg.opn kd))/\w'=W):=λW=>Sz kd W
  rw[Pg.opens_opn]at a;generalize Pg.opn kd=d at *;by_cases A:6<op+d
  ·have c:Hid (Pg.tooDeep ps 0=pl):=by show _=_;rw[a.out,if_pos A]
   clear a;go_wp2_with (first|(with_reducible refine lP rfl E ?_)|(with_reducible refine sP rfl rfl m ?_;rw[Zc,<-j.out]));refine(z.out _).mono ?_;rintro e w' ⟨rfl,rfl⟩;go_wp2;go_ret;exact⟨YY c.out.symm,l⟩
  have c:Hid (Pg.tooDeep ps 0=Pg.tooDeep (ps.drop (k+1)) (op+d)):=by show _=_;rw[a.out,if_neg A]
  clear a;go_wp2_with (first|(with_reducible refine lP rfl E ?_)|(with_reducible refine sP rfl rfl m ?_;rw[Zc,<-j.out]));refine(z.out _).mono ?_;rintro e w' ⟨rfl,rfl⟩;go_wp2;go_roundw
  ·exact⟨k+1,op+d,by go_num,rfl,by omega,by omega,by omega,y,l,c⟩
  simp[intOf];omega
 have I:¬(k:Int)<(ps.length:Int):=by omega
 have s:Hid (Pg.tooDeep ps 0=-1):=by show _=_;rw[q.out,List.drop_eq_nil_of_le (by omega)];rfl
 clear q;go_wp2;go_ret;exact⟨YY s.out.symm,t⟩
theorem EU:∃i,Tryz.prog.info? 3=some i/\i.zero=some (I6 0)/\i.size=1/\i.bytes=8:=by
 have h1:(Tryz.prog.info? 3).isSome=true:=by kernel_rfl
 obtain⟨i,a⟩:=Zx.1 h1;refine⟨i,a,?_,?_,?_⟩
 ·have:((Tryz.prog.info? 3).bind (·.zero))=some (I6 0):=by kernel_rfl
  rw[a]at this;exact this
 ·have:((Tryz.prog.info? 3).map (·.size))=some 1:=by kernel_rfl
  rw[a]at this;simpa using this
 have:((Tryz.prog.info? 3).map (·.bytes))=some 8:=by kernel_rfl
 rw[a]at this;simpa using this
def Py (l:List Int):List Value:=l.map λx=>.int .i64 x
theorem wpList_append_int (hgd:o.guard=none) (s x:Operand)
  (ho:o.op=.call { callee:=.builtin .append,args:=#[s,x],argTypes:=#[23,23] }) (base:Nat)
  (v:Value) (l:List Int) (hs:a.eval s=v) (hown:w.ownsRow base 3 1 v l.length (Py l)) (hn:l.length<=1000)
  (B:Nat) (y:Int) (hx:a.eval x=sL B 1 1) (hnews:w.cell? (a_ B 0)=some (.int .i64 y)) (hbase:base<=w.heap.size)
  (h:∀g cap w',w'.ownsRow base 3 1 (sL g (l.length+1) cap) (l.length+1) (Py (l++[y]))->w.grownBy w' v.ownBlock->wpList Tryz.prog ops Q rest (a.put o.dst (sL g (l.length+1) cap)) w'):wpList Tryz.prog ops Q (o::rest) a w:=by
 obtain⟨i,f,c,d,e⟩:=EU;refine wpList_append_lies w hgd s x 23 ho base 3 i (.int .i64 0) 1 8 u_f f c d e rfl (by omega) v l.length (Py l) hs hown (a_ B 0) 1 1 [.int .i64 y] hx rfl ?_ (by simp[Value.oneCell']) (by omega) (by unfold maxLen;omega) (by omega) hbase w.heap.size rfl ?_
 ·intro j u b;rcases j with _|j
  ·simp at b;subst b;simpa[Addr.add_mid]using hnews
  simp at b
 intro g cap w' h1 h2 h3 k;refine h g cap w' ?_ h2;simpa[Py]using h1
theorem Mw {e:TypeId}{l:List Int} (h:w.ownsRow base e 1 (sL g (l.length+1) cap) (l.length+1) (Py (l++[x]))) (y:n=l.length):w.cell? (a_ g n)=some (I6 x):=by
 subst y;rw[h.cellAt l.length (by omega)];simp[Py]
theorem PV {e:TypeId}{l:List Int} (h:w.ownsRow base e 1 (sL g (l.length+1) cap) (l.length+1) (Py (l++[x]))):w.ownsRow base e 1 (sL g l.length cap) l.length (Py l):=
 ownsRow_pop (last:=[I6 x]) (by simp[Py]) (by simpa[Py]using h)
theorem I8 {e e':TypeId}{z:Nat}{H:List Value} (h:w.ownsRow base e sz v n xs) (_h':w.ownsRow base' e' z v' n' H) (J:w.grownBy w' v'.ownBlock) (y:∀k,v.ownBlock=some k->v'.ownBlock≠some k):w'.ownsRow base e sz v n xs:=by
 refine⟨h.1,?_⟩;rcases h.2 with h0|⟨g,cap,d,i,j,a,c⟩
 ·exact Or.inl h0
 refine Or.inr ⟨g,cap,d,i,j,?_,c⟩;have b:g<w.heap.size:=by
  rcases ZD g w.heap.size with b|f
  ·exact b
  rw[Array.getElem?_eq_none f]at a;cases a
 rw[J.block g b (λe=>y g (by rw[i];rfl) e.symm)];exact a
theorem Sl (n:Int) (h:0<=n):0<=Pg.capped n/\Pg.capped n<=97:=by unfold Pg.capped;split<;>omega
theorem Pw (v:Value) (ps:List Pt) (base:Nat) (w:World) (hn:ps.length<=100) (ah:w.ownsRow base 261 261 v ps.length (Vz ps)) (ax:∀p∈ps,0<=p.mo/\p.mo<=9):
  Cp 168 #[v] w λe w'=>e=.returned (I6 (Pg.countPlaces ps))/\Bl w w':=by
 rcases ah.2 with ⟨rfl,h0⟩|⟨g,cap,ap,rfl,aq,H,_⟩
 ·have:ps=[]:=List.eq_nil_of_length_eq_zero h0;subst this;go_enter Tryz.func168,Tryz.ntmps168;go_wp2
  go_loop [4,5,11] (λxa xl x=>xa=I6 0/\xl=I6 0/\x=I6 0) (λ_ _ _=>0)
  ·exact⟨rfl,rfl,rfl⟩
  obtain⟨rfl,rfl,rfl⟩:=hrel;go_wp2_with fail;refine(Yy _ _).mono ?_;rintro e W ⟨rfl,rfl⟩;go_wp2;go_ret;exact⟨rfl,Zk _ _⟩
 have ar:g<w.heap.size:=by
  rcases ZD g w.heap.size with u|P
  ·exact u
  rw[Array.getElem?_eq_none P]at H;cases H
 clear H;have aa:Hid (∀p∈ps,0<=p.mo/\p.mo<=9):=ax;clear ax;go_enter Tryz.func168,Tryz.ntmps168;go_wp2
 go_loopw [3,4,5,11] (λvo xa xl x w'=>∃(k:Nat) (j i:Int) (l:List Int),x=I6 k/\xa=I6 j/\xl=I6 i/\k<=ps.length/\0<=j/\j<=97/\0<=i/\i<=97/\l.length<=k/\(∀y∈l,0<=y/\y<=97)/\w'.ownsRow w.heap.size 3 1 vo l.length (Py l)/\w'.ownsRow base 261 261 (sL g ps.length cap) ps.length (Vz ps)/\Bl w w'/\Hid (Pg.cRun ps ⟨0,0,[]⟩=Pg.cRun (ps.drop k) ⟨j,i,l.reverse⟩)) (λ_ _ _ x _=>101-(intOf x).toNat)
 ·exact⟨0,0,0,[],rfl,rfl,rfl,by omega,by omega,by omega,by omega,by omega,by simp,by simp,⟨rfl,Or.inl ⟨rfl,rfl⟩⟩,ah,Zk _ _,rfl⟩
 obtain⟨k,j,i,l,rfl,rfl,rfl,hk,L,M,Q,R,ag,S,hV,hO,hB,X⟩:=hrel;have o:Hid (∀y∈l,0<=y/\y<=97):=S;clear S;have d:=Sl (j+i) (by omega);by_cases u:k<ps.length
 ·obtain⟨p,U⟩:∃p,ps[k]?=some p:=⟨ps[k],Zd u⟩;have O:ps.drop k=p::ps.drop (k+1):=by
   rw[List.drop_eq_getElem_cons u];congr 1;rw[Zd u]at U;exact Zh U
  have D:wr.rangeAt g (k*261) (YX p.kd p.pl p.f p.le p.mo p.fa):=Vc hO k p U;have hz:=XP wr;have hN:=YF.boxed wr 0 0 (λ_=>false) 0 0 0 261;have n:=hN.free;have hM:=hN.put p.kd p.pl p.f p.le p.mo p.fa;have C:Bl wr ((wr.alloc (Obj.cells (YX 0 0 (λ_=>false) 0 0 0).toArray 261)).setCells wr.heap.size 0 (YX p.kd p.pl p.f p.le p.mo p.fa)):=((Zk _ _).alloc (Zg _) _).trans (Y6 wr.heap.size wr.heap.size 0 (Zg _) _ _ 0);have r:=Yo hO C;have m:=hB.trans (C.mono hB.size);have ao:(k:Int)<(ps.length:Int):=by omega
  have c:=Yo hV C;have b:Hid (Pg.cRun ps ⟨0,0,[]⟩=Pg.cRun (ps.drop (k+1)) (Pg.cStep ⟨j,i,l.reverse⟩ p)):=by show _=_;rw[X.out,O,Pg.cRun]
  have I:=aa.out p (by have:=List.mem_of_getElem? U;exact this);clear X O U;obtain⟨kd,pl,f,le,mo,fa⟩:=p;simp only at *;have c0:=hM.c0;have c4:=hM.c4;by_cases h1:kd=1
  ·subst h1;have a:Hid (Pg.cRun ps ⟨0,0,[]⟩=Pg.cRun (ps.drop (k+1)) ⟨Pg.capped (j+i),1,l.reverse⟩):=b;clear b;go_wp2_with (first|(with_reducible refine lP rfl D ?_)|(with_reducible refine sP rfl rfl n ?_));refine(Yy _ _).mono ?_;rintro e W ⟨rfl,rfl⟩;go_wp2;go_roundw
   ·exact⟨k+1,_,1,l,by go_num,rfl,rfl,by omega,d.1,d.2,by omega,by omega,by omega,o,c,r,m,a⟩
   simp[intOf];omega
  have b1:(kd==1)=false:=by simpa using h1
  by_cases h2:kd=2
  ·subst h2;have a:Hid (Pg.cRun ps ⟨0,0,[]⟩=Pg.cRun (ps.drop (k+1)) ⟨0,0,(l++[Pg.capped (j+i)]).reverse⟩):=by show _=_;rw[b.out,List.reverse_append];rfl
   have F:∀y∈l++[Pg.capped (j+i)],0<=y/\y<=97:=by
    intro y hy;rcases ZU.1 hy with h|h
    ·exact o y h
    simp only[ZC]at h;subst h;exact d
   have s:Hid (∀y∈l++[Pg.capped (j+i)],0<=y/\y<=97):=F;clear b F;go_wp2_with (first|(with_reducible refine lP rfl D ?_)|(with_reducible refine sP rfl rfl n ?_));refine(Yy _ _).mono ?_;rintro e W ⟨rfl,rfl⟩;generalize Pg.capped (j+i)=cc at *;generalize af:(wr.alloc (Obj.cells (YX 0 0 (λ_=>false) 0 0 0).toArray 261)).setCells wr.heap.size 0 (YX 2 pl f le mo fa)=W at *;clear af D hz hN n hM c0 c4 C;have B:=Yo c ((Zk _ _).alloc (Zg _) (.cells #[I6 cc] 3));have ab:=Yo r ((Zk _ _).alloc (Zg _) (.cells #[I6 cc] 3));have G:=m.alloc m.size (.cells #[I6 cc] 3);have T:(W.alloc (.cells #[I6 cc] 3)).cell? (a_ W.heap.size 0)=some (I6 cc):=by rw[Zm];rfl
   go_wp2_with (first|(at_builtin;refine wpList_append_int (by rfl) _ _ (by rfl) w.heap.size u3 l (by rfl) B (by omega) W.heap.size cc (by rfl) T G.size ?_;intro g2 ak w5 ae t));have ac:=I8 ab B t (λq hq=>by cases hq;intro aj;have:=Po B g aj;omega);go_roundw
   ·exact⟨k+1,0,0,l++[cc],by go_num,rfl,rfl,by omega,by omega,by omega,by omega,by omega,by simp;omega,s,by simpa using ae,ac,G.grown t G.size (Po B),a⟩
   simp[intOf];omega
  have b2:(kd==2)=false:=by simpa using h2
  by_cases h3:kd=3
  ·subst h3;rcases List.eq_nil_or_concat l with hl|⟨A,x,hl⟩
   ·subst hl;have a:Hid (Pg.cRun ps ⟨0,0,[]⟩=Pg.cRun (ps.drop (k+1)) ⟨0,Pg.capped (j+i),([]:List Int).reverse⟩):=b;clear b;rcases c.2 with ⟨z,_⟩|⟨g3,J,K,z,_⟩
    ·subst z;go_wp2_with (first|(with_reducible refine lP rfl D ?_)|(with_reducible refine sP rfl rfl n ?_));refine(Yy _ _).mono ?_;rintro e W ⟨rfl,rfl⟩;go_wp2;go_roundw
     ·exact⟨k+1,0,_,[],by go_num,rfl,rfl,by omega,by omega,by omega,d.1,d.2,by simp,by simp,c,r,m,a⟩
     simp[intOf];omega
    subst z;go_wp2_with (first|(with_reducible refine lP rfl D ?_)|(with_reducible refine sP rfl rfl n ?_));refine(Yy _ _).mono ?_;rintro e W ⟨rfl,rfl⟩;go_wp2;go_roundw
    ·exact⟨k+1,0,_,[],by go_num,rfl,rfl,by omega,by omega,by omega,d.1,d.2,by simp,by simp,c,r,m,a⟩
    simp[intOf];omega
   subst hl;have a:Hid (Pg.cRun ps ⟨0,0,[]⟩=Pg.cRun (ps.drop (k+1)) ⟨x,Pg.capped (j+i),A.reverse⟩):=by show _=_;rw[b.out,List.concat_eq_append,List.reverse_append];rfl
   clear b;have hx:=o.out x (by simp);have s:Hid (∀y∈A,0<=y/\y<=97):=λy hy=>o.out y (by simp[hy])
   have E:(A.concat x).length=A.length+1:=by simp
   rw[E,List.concat_eq_append]at c;have an:A.length+1<=k:=by omega
   clear ag E o;rcases c.2 with ⟨_,h0⟩|⟨g3,J,K,z,al,au,am,_⟩
   ·omega
   subst z;have av:=Mw c rfl;have V:=PV c;have i1:(0:Int)<(A.length:Int)+1:=by omega
   have i2:(0:Int)<=(A.length:Int)/\(A.length:Int)<(A.length:Int)+1:=by omega
   go_wp2_with (first|(with_reducible refine lP rfl D ?_)|(with_reducible refine sP rfl rfl n ?_));refine(Yy _ _).mono ?_;rintro e W ⟨rfl,rfl⟩;go_wp2;go_roundw
   ·exact⟨k+1,x,_,A,by go_num,rfl,rfl,by omega,hx.1,hx.2,d.1,d.2,by omega,s,V,r,m,a⟩
   simp[intOf];omega
  have b3:(kd==3)=false:=by simpa using h3
  by_cases Y:kd=4
  ·subst Y;have a:Hid (Pg.cRun ps ⟨0,0,[]⟩=Pg.cRun (ps.drop (k+1)) ⟨Pg.capped (j+i),0,l.reverse⟩):=b;clear b;go_wp2_with (first|(with_reducible refine lP rfl D ?_)|(with_reducible refine sP rfl rfl n ?_));refine(Yy _ _).mono ?_;rintro e W ⟨rfl,rfl⟩;go_wp2;go_roundw
   ·exact⟨k+1,_,0,l,by go_num,rfl,rfl,by omega,d.1,d.2,by omega,by omega,by omega,o,c,r,m,a⟩
   simp[intOf];omega
  have b4:(kd==4)=false:=by simpa using Y
  by_cases Z:kd=8
  ·subst Z;have ai:0<=i*mo:=Int.mul_nonneg Q I.1;have aw:i*mo<=97*9:=Int.mul_le_mul R I.2 I.1 (by omega);have N:=Sl (i*mo) ai;have a:Hid (Pg.cRun ps ⟨0,0,[]⟩=Pg.cRun (ps.drop (k+1)) ⟨j,Pg.capped (i*mo),l.reverse⟩):=b;clear b;go_wp2_with (first|(with_reducible refine lP rfl D ?_)|(with_reducible refine sP rfl rfl n ?_));refine(Yy _ _).mono ?_;rintro e W ⟨rfl,rfl⟩;go_wp2;go_roundw
   ·exact⟨k+1,j,_,l,by go_num,rfl,rfl,by omega,L,M,N.1,N.2,by omega,o,c,r,m,a⟩
   simp[intOf];omega
  have b8:(kd==8)=false:=by simpa using Z
  have a:Hid (Pg.cRun ps ⟨0,0,[]⟩=Pg.cRun (ps.drop (k+1)) ⟨j,i,l.reverse⟩):=by
   show _=_;rw[b.out];simp only[Pg.cStep,if_neg h1,if_neg h2,if_neg h3,if_neg Y,if_neg Z]
  clear b h1 h2 h3 Y Z;go_wp2_with (first|(with_reducible refine lP rfl D ?_)|(with_reducible refine sP rfl rfl n ?_));go_roundw
  ·exact⟨k+1,j,i,l,by go_num,rfl,rfl,by omega,L,M,Q,R,by omega,o,c,r,m,a⟩
  simp[intOf];omega
 have P:¬(k:Int)<(ps.length:Int):=by omega
 have a:Hid (Pg.cRun ps ⟨0,0,[]⟩=⟨j,i,l.reverse⟩):=by show _=_;rw[X.out,List.drop_eq_nil_of_le (by omega)];rfl
 clear X;go_wp2_with fail;refine(Yy _ _).mono ?_;rintro e W ⟨rfl,rfl⟩;go_wp2;go_ret;exact⟨YY (by rw[Pg.countPlaces,a.out]),hB⟩
theorem J0 (v:Value) (ps:List Pt) (base:Nat) (w:World) (J:ps.length<=100) (H:w.ownsRow base 261 261 v ps.length (Vz ps)):
  Cp 171 #[v] w λe w'=>e=.returned (I6 (Pg.falling ps))/\Bl w w':=by
 rcases H.2 with ⟨rfl,h0⟩|⟨g,cap,z,rfl,C,_⟩
 ·have:ps=[]:=List.eq_nil_of_length_eq_zero h0;subst this;go_enter Tryz.func171,Tryz.ntmps171;go_wp2
  go_loop [7] (λx=>x=I6 0) (λ_=>0)
  ·rfl
  subst hrel;go_wp2;go_ret;exact⟨rfl,Zk _ _⟩
 go_enter Tryz.func171,Tryz.ntmps171;go_wp2
 go_loopw [7] (λx w'=>∃(k:Nat),x=I6 k/\k<=ps.length/\w'.ownsRow base 261 261 (sL g ps.length cap) ps.length (Vz ps)/\Bl w w'/\Hid (Pg.falling ps=Pg.falling (ps.drop k))) (λx _=>101-(intOf x).toNat)
 ·exact⟨0,rfl,by omega,H,Zk _ _,rfl⟩
 obtain⟨k,rfl,E,t,q,l⟩:=hrel;by_cases c:k<ps.length
 ·obtain⟨p,n⟩:∃p,ps[k]?=some p:=⟨ps[k],Zd c⟩;have j:ps.drop k=p::ps.drop (k+1):=by
   rw[List.drop_eq_getElem_cons c];congr 1;rw[Zd c]at n;exact Zh n
  have y:wr.rangeAt g (k*261) (YX p.kd p.pl p.f p.le p.mo p.fa):=Vc t k p n;have hz:=XP wr;have s:=YF.boxed wr 0 0 (λ_=>false) 0 0 0 261;have h:=s.free;have A:=s.put p.kd p.pl p.f p.le p.mo p.fa;have i:Bl wr ((wr.alloc (Obj.cells (YX 0 0 (λ_=>false) 0 0 0).toArray 261)).setCells wr.heap.size 0 (YX p.kd p.pl p.f p.le p.mo p.fa)):=((Zk _ _).alloc (Zg _) _).trans (Y6 wr.heap.size wr.heap.size 0 (Zg _) _ _ 0);have r:=Yo t i;have d:=q.trans (i.mono q.size);have u:(k:Int)<(ps.length:Int):=by omega
  have a:Hid (Pg.falling ps=if p.fa=-1 then Pg.falling (ps.drop (k+1)) else p.fa):=by show _=_;rw[l.out,j,Pg.falling]
  clear l j n;obtain⟨kd,pl,f,le,mo,fa⟩:=p;simp only at *;have c5:=A.c5;by_cases m:fa=-1
  ·subst m;have b:Hid (Pg.falling ps=Pg.falling (ps.drop (k+1))):=by show _=_;rw[a.out,if_pos rfl]
   clear a;go_wp2_with (first|(with_reducible refine lP rfl y ?_)|(with_reducible refine sP rfl rfl h ?_));go_roundw
   ·exact⟨k+1,by go_num,by omega,r,d,b⟩
   simp[intOf];omega
  have b:Hid (Pg.falling ps=fa):=by show _=_;rw[a.out,if_neg m]
  have B:(fa != -1)=true:=by simpa using m
  clear a m;go_wp2_with (first|(with_reducible refine lP rfl y ?_)|(with_reducible refine sP rfl rfl h ?_));go_ret;exact⟨YY b.out.symm,d⟩
 have D:¬(k:Int)<(ps.length:Int):=by omega
 have o:Hid (Pg.falling ps=-1):=by show _=_;rw[l.out,List.drop_eq_nil_of_le (by omega)];rfl
 clear l;go_wp2;go_ret;exact⟨YY o.out.symm,q⟩
theorem MP (v:Value) (ps:List Pt) (base:Nat) (w:World) (Z:ps.length<=100) (Y:w.ownsRow base 261 261 v ps.length (Vz ps)):
  Cp 172 #[v] w λe w'=>e=.returned (I6 (Pg.matchless ps))/\Bl w w':=by
 rcases Y.2 with ⟨rfl,h0⟩|⟨g,cap,G,rfl,H,_⟩
 ·have:ps=[]:=List.eq_nil_of_length_eq_zero h0;subst this;go_enter Tryz.func172,Tryz.ntmps172;go_wp2
  go_loop [7] (λx=>x=I6 0) (λ_=>0)
  ·rfl
  subst hrel;go_wp2;go_ret;exact⟨rfl,Zk _ _⟩
 go_enter Tryz.func172,Tryz.ntmps172;go_wp2
 go_loopw [7] (λx w'=>∃(k:Nat),x=I6 k/\k<=ps.length/\w'.ownsRow base 261 261 (sL g ps.length cap) ps.length (Vz ps)/\Bl w w'/\Hid (Pg.matchless ps=Pg.matchless (ps.drop k))) (λx _=>101-(intOf x).toNat)
 ·exact⟨0,rfl,by omega,Y,Zk _ _,rfl⟩
 obtain⟨k,rfl,L,D,z,s⟩:=hrel;by_cases j:k<ps.length
 ·obtain⟨p,u⟩:∃p,ps[k]?=some p:=⟨ps[k],Zd j⟩;have r:ps.drop k=p::ps.drop (k+1):=by
   rw[List.drop_eq_getElem_cons j];congr 1;rw[Zd j]at u;exact Zh u
  have F:wr.rangeAt g (k*261) (YX p.kd p.pl p.f p.le p.mo p.fa):=Vc D k p u;have hz:=XP wr;have C:=YF.boxed wr 0 0 (λ_=>false) 0 0 0 261;have n:=C.free;have t:=C.put p.kd p.pl p.f p.le p.mo p.fa;have q:Bl wr ((wr.alloc (Obj.cells (YX 0 0 (λ_=>false) 0 0 0).toArray 261)).setCells wr.heap.size 0 (YX p.kd p.pl p.f p.le p.mo p.fa)):=((Zk _ _).alloc (Zg _) _).trans (Y6 wr.heap.size wr.heap.size 0 (Zg _) _ _ 0);have o:=Yo D q;have d:=z.trans (q.mono z.size);have E:(k:Int)<(ps.length:Int):=by omega
  have a:Hid (Pg.matchless ps=if p.kd=1/\Rf.cntTo p.f 256=0 then p.pl else Pg.matchless (ps.drop (k+1))):=by show _=_;rw[s.out,r,Pg.matchless]
  clear s r u;obtain⟨kd,pl,f,le,mo,fa⟩:=p;simp only at *;have c0:=t.c0;by_cases h1:kd=1
  ·subst h1;go_wp2_with (first|(with_reducible refine lP rfl F ?_)|(with_reducible refine sP rfl rfl n ?_)|(with_reducible refine gld 251 ?_;refine Rp (by kernel_rfl) 251 _ rfl _ _ rfl _ _ t.set u_c rfl (by rw[YW];exact YI) ?_;simp only[psm]));refine(Ke f _).mono ?_;rintro e J ⟨rfl,i⟩;have A:=t.below t.lt i;have c1:=A.c1;have B:=Yo o i;have m:=d.trans (i.mono d.size);by_cases l:Rf.cntTo f 256=0
   ·have c:(Rf.cntTo f 256==0)=true:=by simpa using l
    have b:Hid (Pg.matchless ps=pl):=by show _=_;rw[a.out];simp[l]
    rw[c];clear a l c;go_wp2;go_ret;exact⟨YY b.out.symm,m⟩
   have c:(Rf.cntTo f 256==0)=false:=by simpa using l
   have b:Hid (Pg.matchless ps=Pg.matchless (ps.drop (k+1))):=by show _=_;rw[a.out,if_neg (λh=>l h.2)]
   rw[c];clear a l c;go_wp2;go_roundw
   ·exact⟨k+1,by go_num,by omega,B,m,b⟩
   simp[intOf];omega
  have b:Hid (Pg.matchless ps=Pg.matchless (ps.drop (k+1))):=by show _=_;rw[a.out,if_neg (λh=>h1 h.1)]
  have K:(kd==1)=false:=by simpa using h1
  clear a h1;go_wp2_with (first|(with_reducible refine lP rfl F ?_)|(with_reducible refine sP rfl rfl n ?_));go_roundw
  ·exact⟨k+1,by go_num,by omega,o,d,b⟩
  simp[intOf];omega
 have I:¬(k:Int)<(ps.length:Int):=by omega
 have y:Hid (Pg.matchless ps=-1):=by show _=_;rw[s.out,List.drop_eq_nil_of_le (by omega)];rfl
 clear s;go_wp2;go_ret;exact⟨YY y.out.symm,z⟩
def Cd (w:World) (s:ByteArray) (e:Ending) (w':World):Prop:=
 ∃(v:Value) (ps:List Pt),e=.returned (.tuple #[v,.int .i64 (Pg.wrong (Y7 s) s.size).1,.int .i64 (Pg.wrong (Y7 s) s.size).2])/\Below w.heap.size w w' /\
  ((Pg.wrong (Y7 s) s.size).1=0->w'.ownsRow w.heap.size 261 261 v ps.length (Vz ps)/\ps.map Pt.strip=(Pg.readParts (Y7 s) s.size).ps/\ps.length<=100/\ID s ps)
theorem Qd (s:ByteArray) (w:World) (J:s.size<=maxLen):Cp 125 #[.string s] w (Cd w s):=by
 unfold maxLen at J;by_cases H:40<s.size
 ·have a:Hid (Pg.wrong (Y7 s) s.size=(2,0)):=by show _=_;rw[Pg.wrong,p_]
  go_enter Tryz.func125,Tryz.ntmps125;go_wp2;go_ret3;refine⟨_,[],by rw[a.out];rfl,Zk _ _,λh=>?_⟩;rw[a.out]at h;cases h
 have hs:s.size<=40:=by omega
 have j:Hid (Pg.wrong (Y7 s) s.size=if (Pg.readParts (Y7 s) s.size).ok then (if Pg.tooDeep (Pg.readParts (Y7 s) s.size).ps 0=-1 then (if Pg.falling (Pg.readParts (Y7 s) s.size).ps=-1 then (if Pg.matchless (Pg.readParts (Y7 s) s.size).ps=-1 then (0,0) else (6,Pg.matchless (Pg.readParts (Y7 s) s.size).ps)) else (5,Pg.falling (Pg.readParts (Y7 s) s.size).ps)) else (4,Pg.tooDeep (Pg.readParts (Y7 s) s.size).ps 0)) else (3,(Pg.readParts (Y7 s) s.size).n)):=by show _=_;rw[Pg.wrong,g_]
 go_enter Tryz.func125,Tryz.ntmps125;go_wp2_with fail;refine(MW s _ hs).mono ?_;rintro e w1 ⟨v,ps,rfl,i,D⟩;generalize B:Pg.readParts (Y7 s) s.size=R at *;have x:Hid (Pg.readParts (Y7 s) s.size=R):=B;obtain⟨n,ok,d⟩:=R;have y:Hid (ok=true->w1.ownsRow w.heap.size 261 261 v ps.length (Vz ps)/\ps.map Pt.strip=d/\ps.length<=100/\ID s ps):=D;cases ok
 ·have a:Hid (Pg.wrong (Y7 s) s.size=(3,n)):=j;go_wp2;go_ret3;refine⟨_,[],by rw[a.out];rfl,i,λh=>?_⟩;rw[a.out]at h;cases h
 obtain⟨E,c,t,C⟩:=y.out rfl;have u:Hid (ID s ps):=C;have F:Pg.tooDeep d 0=Pg.tooDeep ps 0:=by rw[<-c,Pg.tooDeep_strip]
 have e2:Pg.falling d=Pg.falling ps:=by rw[<-c,Pg.falling_strip]
 have G:Pg.matchless d=Pg.matchless ps:=by rw[<-c,Pg.matchless_strip]
 have b:Hid (Pg.wrong (Y7 s) s.size=if Pg.tooDeep ps 0=-1 then (if Pg.falling ps=-1 then (if Pg.matchless ps=-1 then (0,0) else (6,Pg.matchless ps)) else (5,Pg.falling ps)) else (4,Pg.tooDeep ps 0)):=by
  show _=_;have:=j.out;simp only[if_true]at this;rw[F,e2,G]at this;exact this
 have z:=hyd c;go_wp2_with fail;refine(KX v ps _ _ t E).mono ?_;rintro e w2 ⟨rfl,o⟩;have l:=Yo E o;have f:=i.trans (o.mono i.size);generalize Pg.tooDeep ps 0=td at *;by_cases h1:td=-1
 ·subst h1;go_wp2_with fail;refine(J0 v ps _ _ t l).mono ?_;rintro e w3 ⟨rfl,p⟩;have m:=Yo l p;have g:=f.trans (p.mono f.size);generalize Pg.falling ps=fl at *;by_cases h2:fl=-1
  ·subst h2;go_wp2_with fail;refine(MP v ps _ _ t m).mono ?_;rintro e I ⟨rfl,q⟩;have A:=Yo m q;have k:=g.trans (q.mono g.size);generalize Pg.matchless ps=ml at *;by_cases h3:ml=-1
   ·subst h3;have a:Hid (Pg.wrong (Y7 s) s.size=(0,0)):=b;go_wp2;go_ret3;exact⟨v,ps,by rw[a.out];rfl,k,λ_=>⟨A,by rw[x.out];exact z.out,t,u.out⟩⟩
   have a:Hid (Pg.wrong (Y7 s) s.size=(6,ml)):=by show _=_;rw[b.out];simp[h3]
   have r:(ml != -1)=true:=by simpa using h3
   go_wp2;go_ret3;refine⟨_,[],by rw[a.out];rfl,k,λh=>?_⟩;rw[a.out]at h;cases h
  have a:Hid (Pg.wrong (Y7 s) s.size=(5,fl)):=by show _=_;rw[b.out];simp[h2]
  have r:(fl != -1)=true:=by simpa using h2
  go_wp2;go_ret3;refine⟨_,[],by rw[a.out];rfl,g,λh=>?_⟩;rw[a.out]at h;cases h
 have a:Hid (Pg.wrong (Y7 s) s.size=(4,td)):=by show _=_;rw[b.out];simp[h1]
 have r:(td != -1)=true:=by simpa using h1
 go_wp2;go_ret3;refine⟨_,[],by rw[a.out];rfl,f,λh=>?_⟩;rw[a.out]at h;cases h
def PS (ad:Option Addr) (ps:List Pt) (w:World):Prop:=∀(k:Nat) (p:Pt),ps[k]?=some p->∃g o,ad=some ⟨g,o,none⟩/\w.rangeAt g (o+k*261) (Pt.cells p)
theorem PS.keep (h:PS ad ps w) (y:∀g o,ad=some (a_ g o)->w'.heap[g]?=w.heap[g]?):PS ad ps w':=λk p b=>by
 obtain⟨g,o,e,c⟩:=h k p b;refine⟨g,o,e,λj v d=>?_⟩;rw[World.cell?_of_block (w:=w) (a:=(a_ g (o+k*261+j))) (y g o e)];exact c j v d
theorem PS.below (h:PS ad ps w) (y:Bl w w'):PS ad ps w':=λk p a=>by
 obtain⟨g,o,e,b⟩:=h k p a;refine⟨g,o,e,λj v c=>?_⟩;have:=b j v c;rw[y.cell (p:=(a_ g (o+k*261+j))) (Ze w _ this)];exact this
def PA (ad:Option Addr) (cap l:Nat):Option Addr:=if cap=l then ad else ad.map (·.add (l*261))
theorem PS.sub (h:PS ad ps w) (l n:Nat) (z:l+n<=ps.length) (y:ps.length<=cap):PS (PA ad cap l) ((ps.drop l).take n) w:=λk p a=>by
 have b:k<n:=by
  have:=(Zi.1 a).1;simp at this;omega
 rw[List.getElem?_take,if_pos b,List.getElem?_drop]at a;obtain⟨g,o,e,c⟩:=h (l+k) p a;refine⟨g,o+l*261,?_,?_⟩
 ·rw[PA,g_,e,Option.map_some,Addr.add_mid]
 rw[show o+l*261+k*261=o+(l+k)*261 by rw[Nat.add_mul];omega];exact c
theorem V5 {ops : Array Oper} {rest : List Oper} {op : Oper} {a : Act} {w : World} {Q : Exit -> Act -> World -> Prop} (J : op.guard = none) (x : Operand) (lo H : Option Operand) (ho : op.op = .slice 194 x lo H none)
  (ad : Option Addr) (len cap : Nat) (hx : a.eval x = .slice ad len cap) (l h : Nat) (hl : (lo = none /\ l = 0) \/ ∃y, lo = some y /\ a.eval y = I6 l) (Y : (H = none /\ h = len) \/ ∃y, H = some y /\ a.eval y = I6 h) (h1 : l <= h) (h2 : h <= cap)
  (Z : wpList Tryz.prog ops Q rest (a.put op.dst (.slice (PA ad cap l) (h-l) (cap-l))) w) : wpList Tryz.prog ops Q (op::rest) a w :=
 wpList_plain J λ_ e => by
  have hs : (sizeOf 261).run Tryz.prog w = .ok 261 w := by kernel_rfl
  have f : (Instr.slice 194 (.slice ad len cap) (lo.map a.eval) (H.map a.eval) none).run Tryz.prog w = .ok (.slice (PA ad cap l) (h-l) (cap-l)) w := by
   have g : ∀c, (Instr.sliceBound (I6 (h : Int)) cap c).run Tryz.prog w = .ok h w := λc => by simp [Instr.sliceBound, asIntOf, Sem.run_ite]; omega
   have e2 : ∀c, (Instr.sliceBound (I6 (l : Int)) h c).run Tryz.prog w = .ok l w := λc => by simp [Instr.sliceBound, asIntOf, Sem.run_ite]; omega
   have d : (Instr.sliceBounds true len cap (lo.map a.eval) (H.map a.eval) none).run Tryz.prog w = .ok (l, h, cap) w := by
    rcases hl with ⟨rfl, rfl⟩|⟨y, rfl, i⟩<;>rcases Y with ⟨rfl, rfl⟩|⟨z, rfl, hz⟩<;>simp [Instr.sliceBounds, Sem.run_bind, *]
   simp only [Instr.slice, Sem.run_bind, run_underlying u_n, Zu, d, hs, Sem.run_pure];rfl
  have b : (Instr.sliceAt 194 (.slice ad len cap) (lo.map a.eval) (H.map a.eval) none).run Tryz.prog w = .ok (.slice (PA ad cap l) (h-l) (cap-l)) w := by
   simp only [Instr.sliceAt, Sem.run_bind, run_underlying u_n, Zu];exact f
  unfold Oper.wp execOp;simp only [ho, hx, Sem.run_bind, Option.map_none, b, Zu, Sem.run_pure];exact e _ _ Z
theorem Lj (ad:Option Addr) (cap:Nat) (ps:List Pt) (w:World) (hn:ps.length<=100) (hP:PS ad ps w) (ah:∀p∈ps,0<=p.mo/\p.mo<=9):
  Cp 168 #[.slice ad ps.length cap] w λe w'=>e=.returned (I6 (Pg.countPlaces ps))/\Bl w w':=by
 rcases ps with _|⟨p0,X⟩
 ·go_enter Tryz.func168,Tryz.ntmps168;go_wp2
  go_loop [4,5,11] (λxa xl x=>xa=I6 0/\xl=I6 0/\x=I6 0) (λ_ _ _=>0)
  ·exact⟨rfl,rfl,rfl⟩
  obtain⟨rfl,rfl,rfl⟩:=hrel;go_wp2_with fail;refine(Yy _ _).mono ?_;rintro e W ⟨rfl,rfl⟩;go_wp2;go_ret;exact⟨rfl,Zk _ _⟩
 obtain⟨g,o,rfl,V⟩:=hP 0 p0 rfl;have ae:g<w.heap.size:=Ze w (a_ g (o+0*261+0)) (V 0 _ rfl);have HP:Hid (∀w',Bl w w'->∀(k:Nat) (p:Pt),(p0::X)[k]?=some p->w'.rangeAt g (o+k*261) (YX p.kd p.pl p.f p.le p.mo p.fa)):=λw' hW k p G=>by
  obtain⟨g',o',e,h⟩:=hP k p G;cases e;exact λj v hv=>by rw[hW.cell (p:=(a_ g (o+k*261+j))) ae];exact h j v hv
 obtain⟨ps,U⟩:=nam (p0::X);rw[<-U]at HP hn ah ⊢;clear hP V U;have aa:=hyd ah;clear ah;go_enter Tryz.func168,Tryz.ntmps168;go_wp2
 go_loopw [3,4,5,11] (λvo xa xl x w'=>∃(k:Nat) (m i:Int) (l:List Int),x=I6 k/\xa=I6 m/\xl=I6 i/\k<=ps.length/\0<=m/\m<=97/\0<=i/\i<=97/\l.length<=k/\(∀y∈l,0<=y/\y<=97)/\w'.ownsRow w.heap.size 3 1 vo l.length (Py l)/\Bl w w'/\Hid (Pg.cRun ps ⟨0,0,[]⟩=Pg.cRun (ps.drop k) ⟨m,i,l.reverse⟩)) (λ_ _ _ x _=>101-(intOf x).toNat)
 ·exact⟨0,0,0,[],rfl,rfl,rfl,by omega,by omega,by omega,by omega,by omega,by simp,by simp,⟨rfl,Or.inl ⟨rfl,rfl⟩⟩,Zk _ _,rfl⟩
 obtain⟨k,m,i,l,rfl,rfl,rfl,hk,L,M,P,Q,af,R,hV,hB,Y⟩:=hrel;have r:=hyd R;clear R;have d:=Sl (m+i) (by omega);by_cases F:k<ps.length
 ·obtain⟨p,G⟩:∃p,ps[k]?=some p:=⟨ps[k],Zd F⟩;have O:ps.drop k=p::ps.drop (k+1):=by
   rw[List.drop_eq_getElem_cons F];congr 1;rw[Zd F]at G;exact Zh G
  have z:=HP.out wr hB k p G;have hz:=XP wr;have hN:=YF.boxed wr 0 0 (λ_=>false) 0 0 0 261;have q:=hN.free;have hM:=hN.put p.kd p.pl p.f p.le p.mo p.fa;have D:Bl wr ((wr.alloc (Obj.cells (YX 0 0 (λ_=>false) 0 0 0).toArray 261)).setCells wr.heap.size 0 (YX p.kd p.pl p.f p.le p.mo p.fa)):=((Zk _ _).alloc (Zg _) _).trans (Y6 wr.heap.size wr.heap.size 0 (Zg _) _ _ 0);have n:=hB.trans (D.mono hB.size);have am:(k:Int)<(ps.length:Int):=by omega
  have c:=Yo hV D;have b:Hid (Pg.cRun ps ⟨0,0,[]⟩=Pg.cRun (ps.drop (k+1)) (Pg.cStep ⟨m,i,l.reverse⟩ p)):=by show _=_;rw[Y.out,O,Pg.cRun]
  have H:=aa.out p (by have:=List.mem_of_getElem? G;exact this);clear Y O G;obtain⟨kd,pl,f,le,mo,fa⟩:=p;simp only at *;have c0:=hM.c0;have c4:=hM.c4;by_cases h1:kd=1
  ·subst h1;have a:Hid (Pg.cRun ps ⟨0,0,[]⟩=Pg.cRun (ps.drop (k+1)) ⟨Pg.capped (m+i),1,l.reverse⟩):=b;clear b;go_wp2_with (first|(with_reducible refine lP rfl z ?_)|(with_reducible refine sP rfl rfl q ?_));refine(Yy _ _).mono ?_;rintro e W ⟨rfl,rfl⟩;go_wp2;go_roundw
   ·exact⟨k+1,_,1,l,by go_num,rfl,rfl,by omega,d.1,d.2,by omega,by omega,by omega,r,c,n,a⟩
   simp[intOf];omega
  have b1:(kd==1)=false:=by simpa using h1
  by_cases h2:kd=2
  ·subst h2;have a:Hid (Pg.cRun ps ⟨0,0,[]⟩=Pg.cRun (ps.drop (k+1)) ⟨0,0,(l++[Pg.capped (m+i)]).reverse⟩):=by show _=_;rw[b.out,List.reverse_append];rfl
   have B:∀y∈l++[Pg.capped (m+i)],0<=y/\y<=97:=by
    intro y hy;rcases ZU.1 hy with h|h
    ·exact r y h
    simp only[ZC]at h;subst h;exact d
   have s:=hyd B;clear b B;go_wp2_with (first|(with_reducible refine lP rfl z ?_)|(with_reducible refine sP rfl rfl q ?_));refine(Yy _ _).mono ?_;rintro e W ⟨rfl,rfl⟩;generalize Pg.capped (m+i)=cc at *;generalize ac:(wr.alloc (Obj.cells (YX 0 0 (λ_=>false) 0 0 0).toArray 261)).setCells wr.heap.size 0 (YX 2 pl f le mo fa)=W at *;clear ac z hz hN q hM c0 c4 D;have K:=Yo c ((Zk _ _).alloc (Zg _) (.cells #[I6 cc] 3));have C:=n.alloc n.size (.cells #[I6 cc] 3);have S:(W.alloc (.cells #[I6 cc] 3)).cell? (a_ W.heap.size 0)=some (I6 cc):=by rw[Zm];rfl
   go_wp2_with (first|(at_builtin;refine wpList_append_int (by rfl) _ _ (by rfl) w.heap.size u3 l (by rfl) K (by omega) W.heap.size cc (by rfl) S C.size ?_;intro g2 ai w5 ab E));go_roundw
   ·exact⟨k+1,0,0,l++[cc],by go_num,rfl,rfl,by omega,by omega,by omega,by omega,by omega,by simp;omega,s,by simpa using ab,C.grown E C.size (Po K),a⟩
   simp[intOf];omega
  have b2:(kd==2)=false:=by simpa using h2
  by_cases h3:kd=3
  ·subst h3;rcases List.eq_nil_or_concat l with hl|⟨u,x,hl⟩
   ·subst hl;have a:Hid (Pg.cRun ps ⟨0,0,[]⟩=Pg.cRun (ps.drop (k+1)) ⟨0,Pg.capped (m+i),([]:List Int).reverse⟩):=b;clear b;rcases c.2 with ⟨t,_⟩|⟨g3,I,J,t,_⟩
    ·subst t;go_wp2_with (first|(with_reducible refine lP rfl z ?_)|(with_reducible refine sP rfl rfl q ?_));refine(Yy _ _).mono ?_;rintro e W ⟨rfl,rfl⟩;go_wp2;go_roundw
     ·exact⟨k+1,0,_,[],by go_num,rfl,rfl,by omega,by omega,by omega,d.1,d.2,by simp,by simp,c,n,a⟩
     simp[intOf];omega
    subst t;go_wp2_with (first|(with_reducible refine lP rfl z ?_)|(with_reducible refine sP rfl rfl q ?_));refine(Yy _ _).mono ?_;rintro e W ⟨rfl,rfl⟩;go_wp2;go_roundw
    ·exact⟨k+1,0,_,[],by go_num,rfl,rfl,by omega,by omega,by omega,d.1,d.2,by simp,by simp,c,n,a⟩
    simp[intOf];omega
   subst hl;have a:Hid (Pg.cRun ps ⟨0,0,[]⟩=Pg.cRun (ps.drop (k+1)) ⟨x,Pg.capped (m+i),u.reverse⟩):=by show _=_;rw[b.out,List.concat_eq_append,List.reverse_append];rfl
   clear b;have hx:=r.out x (by simp);have s:Hid (∀y∈u,0<=y/\y<=97):=λy hy=>r.out y (by simp[hy])
   have A:(u.concat x).length=u.length+1:=by simp
   rw[A,List.concat_eq_append]at c;have al:u.length+1<=k:=by omega
   clear af A r;rcases c.2 with ⟨_,h0⟩|⟨g3,I,J,t,aj,ao,ak,_⟩
   ·omega
   subst t;have ap:=Mw c rfl;have T:=PV c;have i1:(0:Int)<(u.length:Int)+1:=by omega
   have i2:(0:Int)<=(u.length:Int)/\(u.length:Int)<(u.length:Int)+1:=by omega
   go_wp2_with (first|(with_reducible refine lP rfl z ?_)|(with_reducible refine sP rfl rfl q ?_));refine(Yy _ _).mono ?_;rintro e W ⟨rfl,rfl⟩;go_wp2;go_roundw
   ·exact⟨k+1,x,_,u,by go_num,rfl,rfl,by omega,hx.1,hx.2,d.1,d.2,by omega,s,T,n,a⟩
   simp[intOf];omega
  have b3:(kd==3)=false:=by simpa using h3
  by_cases Z:kd=4
  ·subst Z;have a:Hid (Pg.cRun ps ⟨0,0,[]⟩=Pg.cRun (ps.drop (k+1)) ⟨Pg.capped (m+i),0,l.reverse⟩):=b;clear b;go_wp2_with (first|(with_reducible refine lP rfl z ?_)|(with_reducible refine sP rfl rfl q ?_));refine(Yy _ _).mono ?_;rintro e W ⟨rfl,rfl⟩;go_wp2;go_roundw
   ·exact⟨k+1,_,0,l,by go_num,rfl,rfl,by omega,d.1,d.2,by omega,by omega,by omega,r,c,n,a⟩
   simp[intOf];omega
  have b4:(kd==4)=false:=by simpa using Z
  by_cases h8:kd=8
  ·subst h8;have ag:=Int.mul_nonneg P H.1;have aq:i*mo<=97*9:=Int.mul_le_mul Q H.2 H.1 (by omega);have N:=Sl (i*mo) ag;have a:Hid (Pg.cRun ps ⟨0,0,[]⟩=Pg.cRun (ps.drop (k+1)) ⟨m,Pg.capped (i*mo),l.reverse⟩):=b;clear b;go_wp2_with (first|(with_reducible refine lP rfl z ?_)|(with_reducible refine sP rfl rfl q ?_));refine(Yy _ _).mono ?_;rintro e W ⟨rfl,rfl⟩;go_wp2;go_roundw
   ·exact⟨k+1,m,_,l,by go_num,rfl,rfl,by omega,L,M,N.1,N.2,by omega,r,c,n,a⟩
   simp[intOf];omega
  have b8:(kd==8)=false:=by simpa using h8
  have a:Hid (Pg.cRun ps ⟨0,0,[]⟩=Pg.cRun (ps.drop (k+1)) ⟨m,i,l.reverse⟩):=by
   show _=_;rw[b.out];simp only[Pg.cStep,if_neg h1,if_neg h2,if_neg h3,if_neg Z,if_neg h8]
  clear b h1 h2 h3 Z h8;go_wp2_with (first|(with_reducible refine lP rfl z ?_)|(with_reducible refine sP rfl rfl q ?_));go_roundw
  ·exact⟨k+1,m,i,l,by go_num,rfl,rfl,by omega,L,M,P,Q,by omega,r,c,n,a⟩
  simp[intOf];omega
 have an:¬(k:Int)<(ps.length:Int):=by omega
 have a:Hid (Pg.cRun ps ⟨0,0,[]⟩=⟨m,i,l.reverse⟩):=by show _=_;rw[Y.out,List.drop_eq_nil_of_le (by omega)];rfl
 clear Y;go_wp2_with fail;refine(Yy _ _).mono ?_;rintro e W ⟨rfl,rfl⟩;go_wp2;go_ret;exact⟨YY (by rw[Pg.countPlaces,a.out]),hB⟩
def Rh:List Pt->Int->Nat->Nat
 |[],_,i=>i
 |p::ps,op,i=>if p.kd=4/\op=0 then i else Rh ps (op+Pg.opn p.kd) (i+1)
def Wv:List Pt->Int->Nat->Nat
 |[],_,i=>i
 |p::ps,op,i=>if op+Pg.opn p.kd=0 then i+1 else Wv ps (op+Pg.opn p.kd) (i+1)
theorem Jj (ad:Option Addr) (cap:Nat) (ps:List Pt) (w:World) (hn:ps.length<=100) (hP:PS ad ps w):
  Cp 198 #[.slice ad ps.length cap] w λe w'=>e=.returned (I6 (Rh ps 0 0:Nat))/\Bl w w':=by
 rcases ps with _|⟨G,y⟩
 ·go_enter Tryz.func198,Tryz.ntmps198;go_wp2
  go_loop [8] (λx=>x=I6 0) (λ_=>0)
  ·rfl
  subst hrel;go_wp2;go_ret;exact⟨rfl,Zk _ _⟩
 obtain⟨g,o,rfl,u⟩:=hP 0 G rfl;have E:g<w.heap.size:=Ze w (a_ g (o+0*261+0)) (u 0 _ rfl);have I:Hid (∀w',Bl w w'->∀(k:Nat) (p:Pt),(G::y)[k]?=some p->w'.rangeAt g (o+k*261) (YX p.kd p.pl p.f p.le p.mo p.fa)):=λw' N k p q=>by
  obtain⟨V,Y,e,h⟩:=hP k p q;cases e;exact λj v S=>by rw[N.cell (p:=(a_ g (o+k*261+j))) E];exact h j v S
 obtain⟨ps,t⟩:=nam (G::y);rw[<-t]at I hn ⊢;clear hP u t;obtain⟨R,D⟩:=nam (Rh ps 0 0);rw[<-D];have J:=hyd D;clear D;go_enter Tryz.func198,Tryz.ntmps198;go_wp2
 go_loopw [3,8] (λT x w'=>∃(k:Nat) (op:Int),x=I6 k/\T=I6 op/\k<=ps.length/\-(k:Int)<=op/\op<=k/\Bl w w'/\Hid (R=Rh (ps.drop k) op k)) (λ_ x _=>101-(intOf x).toNat)
 ·exact⟨0,0,rfl,rfl,by omega,by omega,by omega,Zk _ _,J⟩
 clear J;obtain⟨k,op,rfl,rfl,X,O,P,B,z⟩:=hrel;by_cases n:k<ps.length
 ·obtain⟨p,q⟩:∃p,ps[k]?=some p:=⟨ps[k],Zd n⟩;have s:ps.drop k=p::ps.drop (k+1):=by
   rw[List.drop_eq_getElem_cons n];congr 1;rw[Zd n]at q;exact Zh q
  have F:=I.out wr B k p q;have hz:=XP wr;have L:=YF.boxed wr 0 0 (λ_=>false) 0 0 0 261;have m:=L.free;have K:=L.put p.kd p.pl p.f p.le p.mo p.fa;have r:Bl wr ((wr.alloc (Obj.cells (YX 0 0 (λ_=>false) 0 0 0).toArray 261)).setCells wr.heap.size 0 (YX p.kd p.pl p.f p.le p.mo p.fa)):=((Zk _ _).alloc (Zg _) _).trans (Y6 wr.heap.size wr.heap.size 0 (Zg _) _ _ 0);obtain⟨U,c⟩:=nam (((wr.alloc (Obj.cells (YX 0 0 (λ_=>false) 0 0 0).toArray 261)).setCells wr.heap.size 0 (YX p.kd p.pl p.f p.le p.mo p.fa)));rw[<-c]at K r;have i:=hyd c;clear c;have l:=B.trans (r.mono B.size);have M:(k:Int)<(ps.length:Int):=by omega
  have a:Hid (R=Rh (p::ps.drop (k+1)) op k):=by show _=_;rw[z.out,s]
  clear z s q;obtain⟨kd,pl,f,le,mo,fa⟩:=p;simp only at *;have c0:=K.c0;have Q:=Pg.opn_bd kd;have H:Hid (∀W,Cp 196 #[I6 kd] W λe w'=>e=.returned (I6 (Pg.opn kd))/\w'=W):=λW=>Sz kd W
  by_cases A:kd=4
  ·subst A;by_cases h0:op=0
   ·subst h0;have b:Hid (R=k):=by show _=_;rw[a.out,Rh,if_pos (by exact⟨rfl,rfl⟩)]
    clear a;go_wp2_with (first|(with_reducible refine lP rfl F ?_)|(with_reducible refine sP rfl rfl m ?_;rw[Zc,<-i.out]));go_ret;exact⟨YY (by have:=b.out;omega),l⟩
   have Z:(op==0)=false:=by simpa using h0
   have b:Hid (R=Rh (ps.drop (k+1)) (op+Pg.opn 4) (k+1)):=by show _=_;rw[a.out,Rh,if_neg (by rintro ⟨_,h⟩;exact h0 h)]
   clear a h0;generalize Pg.opn 4=d at *;go_wp2_with (first|(with_reducible refine lP rfl F ?_)|(with_reducible refine sP rfl rfl m ?_;rw[Zc,<-i.out]));refine(H.out _).mono ?_;rintro e w' ⟨rfl,rfl⟩;go_wp2;go_roundw
   ·exact⟨k+1,op+d,by go_num,rfl,by omega,by omega,by omega,l,b⟩
   simp[intOf];omega
  have q4:(kd==4)=false:=by simpa using A
  have b:Hid (R=Rh (ps.drop (k+1)) (op+Pg.opn kd) (k+1)):=by show _=_;rw[a.out,Rh,if_neg (by rintro ⟨h,_⟩;exact A h)]
  clear a A;generalize Pg.opn kd=d at *;go_wp2_with (first|(with_reducible refine lP rfl F ?_)|(with_reducible refine sP rfl rfl m ?_;rw[Zc,<-i.out]));refine(H.out _).mono ?_;rintro e w' ⟨rfl,rfl⟩;go_wp2;go_roundw
  ·exact⟨k+1,op+d,by go_num,rfl,by omega,by omega,by omega,l,b⟩
  simp[intOf];omega
 have⟨hge,hkn⟩:¬(k:Int)<(ps.length:Int)/\k=ps.length:=by omega
 subst hkn;have C:Hid (R=ps.length):=by show _=_;rw[z.out,List.drop_eq_nil_of_le (by omega)];rfl
 clear z;go_wp2;go_ret;exact⟨YY (by have:=C.out;omega),B⟩
theorem JG (ad:Option Addr) (cap:Nat) (ps:List Pt) (w:World) (hn:ps.length<=100) (hP:PS ad ps w):
  Cp 218 #[.slice ad ps.length cap] w λe w'=>e=.returned (I6 (Wv ps 0 0:Nat))/\Bl w w':=by
 rcases ps with _|⟨G,y⟩
 ·go_enter Tryz.func218,Tryz.ntmps218;go_wp2
  go_loop [8] (λx=>x=I6 0) (λ_=>0)
  ·rfl
  subst hrel;go_wp2;go_ret;exact⟨rfl,Zk _ _⟩
 obtain⟨g,o,rfl,u⟩:=hP 0 G rfl;have F:g<w.heap.size:=Ze w (a_ g (o+0*261+0)) (u 0 _ rfl);have I:Hid (∀w',Bl w w'->∀(k:Nat) (p:Pt),(G::y)[k]?=some p->w'.rangeAt g (o+k*261) (YX p.kd p.pl p.f p.le p.mo p.fa)):=λw' O k p l=>by
  obtain⟨Y,o',e,h⟩:=hP k p l;cases e;exact λj v T=>by rw[O.cell (p:=(a_ g (o+k*261+j))) F];exact h j v T
 obtain⟨ps,t⟩:=nam (G::y);rw[<-t]at I hn ⊢;clear hP u t;obtain⟨R,E⟩:=nam (Wv ps 0 0);rw[<-E];have J:=hyd E;clear E;go_enter Tryz.func218,Tryz.ntmps218;go_wp2
 go_loopw [3,8] (λU x w'=>∃(k:Nat) (op:Int),x=I6 k/\U=I6 op/\k<=ps.length/\-(k:Int)<=op/\op<=k/\Bl w w'/\Hid (R=Wv (ps.drop k) op k)) (λ_ x _=>101-(intOf x).toNat)
 ·exact⟨0,0,rfl,rfl,by omega,by omega,by omega,Zk _ _,J⟩
 clear J;obtain⟨k,op,rfl,rfl,Z,P,Q,A,z⟩:=hrel;by_cases i:k<ps.length
 ·obtain⟨p,l⟩:∃p,ps[k]?=some p:=⟨ps[k],Zd i⟩;have s:ps.drop k=p::ps.drop (k+1):=by
   rw[List.drop_eq_getElem_cons i];congr 1;rw[Zd i]at l;exact Zh l
  have N:=I.out wr A k p l;have hz:=XP wr;have L:=YF.boxed wr 0 0 (λ_=>false) 0 0 0 261;have q:=L.free;have K:=L.put p.kd p.pl p.f p.le p.mo p.fa;have r:Bl wr ((wr.alloc (Obj.cells (YX 0 0 (λ_=>false) 0 0 0).toArray 261)).setCells wr.heap.size 0 (YX p.kd p.pl p.f p.le p.mo p.fa)):=((Zk _ _).alloc (Zg _) _).trans (Y6 wr.heap.size wr.heap.size 0 (Zg _) _ _ 0);obtain⟨X,a⟩:=nam (((wr.alloc (Obj.cells (YX 0 0 (λ_=>false) 0 0 0).toArray 261)).setCells wr.heap.size 0 (YX p.kd p.pl p.f p.le p.mo p.fa)));rw[<-a]at K r;have m:=hyd a;clear a;have n:=A.trans (r.mono A.size);have M:(k:Int)<(ps.length:Int):=by omega
  have b:Hid (R=Wv (p::ps.drop (k+1)) op k):=by show _=_;rw[z.out,s]
  clear z s l;obtain⟨kd,pl,f,le,mo,fa⟩:=p;simp only at *;have c0:=K.c0;have S:=Pg.opn_bd kd;have H:Hid (∀W,Cp 196 #[I6 kd] W λe w'=>e=.returned (I6 (Pg.opn kd))/\w'=W):=λW=>Sz kd W
  have B:Hid (op+Pg.opn kd=0->Wv ((⟨kd,pl,f,le,mo,fa⟩:Pt)::ps.drop (k+1)) op k=k+1):=λh=>by rw[Wv,if_pos h]
  have C:Hid (¬op+Pg.opn kd=0->Wv ((⟨kd,pl,f,le,mo,fa⟩:Pt)::ps.drop (k+1)) op k=Wv (ps.drop (k+1)) (op+Pg.opn kd) (k+1)):=λh=>by rw[Wv,if_neg h]
  generalize Pg.opn kd=d at *;by_cases h0:op+d=0
  ·have V:(op+d==0)=true:=by simpa using h0
   have c:Hid (R=k+1):=by show _=_;rw[b.out];exact B.out h0
   clear b h0;go_wp2_with (first|(with_reducible refine lP rfl N ?_)|(with_reducible refine sP rfl rfl q ?_;rw[Zc,<-m.out]));refine(H.out _).mono ?_;rintro e w' ⟨rfl,rfl⟩;go_wp2;go_ret;exact⟨YY (by have:=c.out;omega),n⟩
  have V:(op+d==0)=false:=by simpa using h0
  have c:Hid (R=Wv (ps.drop (k+1)) (op+d) (k+1)):=by show _=_;rw[b.out];exact C.out h0
  clear b h0;go_wp2_with (first|(with_reducible refine lP rfl N ?_)|(with_reducible refine sP rfl rfl q ?_;rw[Zc,<-m.out]));refine(H.out _).mono ?_;rintro e w' ⟨rfl,rfl⟩;go_wp2;go_roundw
  ·exact⟨k+1,op+d,by go_num,rfl,by omega,by omega,by omega,n,c⟩
  simp[intOf];omega
 have⟨hge,hkn⟩:¬(k:Int)<(ps.length:Int)/\k=ps.length:=by omega
 subst hkn;have D:Hid (R=ps.length):=by show _=_;rw[z.out,List.drop_eq_nil_of_le (by omega)];rfl
 clear z;go_wp2;go_ret;exact⟨YY (by have:=D.out;omega),A⟩
def M8 (ps:List Pt):Nat->Nat->Nat
 |0,i=>i
 |u+1,i=>match ps[i]? with
  |some p=>if Pg.isSuffix p.kd then M8 ps u (i+1) else i
  |none=>i
def Oj (ps:List Pt):Nat:=M8 ps (ps.length+1) (Wv ps 0 0)
theorem Em (ps:List Pt):∀op i,Wv ps op i<=i+ps.length:=by
 induction ps with
 |nil=>intro op i;simp[Wv]
 |cons p ps ih=>
  intro op i;rw[Wv];split
  ·simp
  have:=ih (op+Pg.opn p.kd) (i+1);simp only[List.length_cons];omega
theorem LD (ad:Option Addr) (cap:Nat) (ps:List Pt) (w:World) (J:ps.length<=100) (H:PS ad ps w):
  Cp 209 #[.slice ad ps.length cap] w λe w'=>e=.returned (I6 (Oj ps:Nat))/\Bl w w':=by
 obtain⟨R,k⟩:∃R,R=Oj ps:=⟨_,rfl⟩;rw[<-k];have r:Hid (R=M8 ps (ps.length+1) (Wv ps 0 0)):=k;have t:=Em ps 0 0;have q:Hid (∀w',Bl w w'->PS ad ps w'):=λw' s=>H.below s
 have n:=JG ad cap ps w J H;have d:Hid (Cp 218 #[.slice ad ps.length cap] w λe w'=>e=.returned (I6 (Wv ps 0 0:Nat))/\Bl w w'):=n;generalize Wv ps 0 0=a0 at *;go_enter Tryz.func209,Tryz.ntmps209;go_wp2_with fail;refine d.out.mono ?_;rintro e w1 ⟨rfl,f⟩;go_wp2
 go_loopw [3] (λx w'=>∃(u i:Nat),x=I6 i/\i<=ps.length/\ps.length<u+i/\Bl w w'/\Hid (R=M8 ps u i)) (λx _=>101-(intOf x).toNat)
 ·exact⟨ps.length+1,a0,rfl,by omega,by omega,f,r⟩
 obtain⟨u,i,rfl,z,A,c,j⟩:=hrel;by_cases h:i<ps.length
 ·have l:(i:Int)<(ps.length:Int):=by omega
  obtain⟨p,m⟩:∃p,ps[i]?=some p:=⟨ps[i],Zd h⟩;obtain⟨g,o,e,y⟩:=q.out wr c i p m;subst e;have c0:wr.cell? (a_ g (o+i*261))=some (I6 p.kd):=y 0 _ rfl;rcases u with _|u
  ·omega
  have b:Hid (R=if Pg.isSuffix p.kd then M8 ps u (i+1) else i):=by show _=_;rw[j.out,M8,m]
  have HS:Hid (∀W,Cp 204 #[I6 p.kd] W λe w'=>e=.returned (.bool (Pg.isSuffix p.kd))/\w'=W):=λW=>TT p.kd W
  cases hs:Pg.isSuffix p.kd
  ·have a:Hid (R=i):=by show _=_;rw[b.out,hs];rfl
   rw[hs]at HS;go_wp2_with fail;refine(HS _).mono ?_;rintro e w2 ⟨rfl,rfl⟩;go_wp2;go_ret;exact⟨YY (by have:=a.out;omega),c⟩
  have a:Hid (R=M8 ps u (i+1)):=by show _=_;rw[b.out,hs];rfl
  rw[hs]at HS;go_wp2_with fail;refine(HS _).mono ?_;rintro e w2 ⟨rfl,rfl⟩;go_wp2;go_roundw
  ·exact⟨u,i+1,by go_num,by omega,by omega,c,a⟩
  simp[intOf];omega
 have v:¬(i:Int)<(ps.length:Int):=by omega
 rcases u with _|u
 ·omega
 have a:Hid (R=i):=by show _=_;rw[j.out,M8,ZB (by omega)]
 go_wp2;go_ret;exact⟨YY (by have:=a.out;omega),c⟩
theorem Ew (c:Pg.C) (p:Pt) (h:0<=c.ah/\0<=c.la/\∀y∈c.st,0<=y) (z:0<=p.mo):0<=(Pg.cStep c p).ah/\0<=(Pg.cStep c p).la/\∀y∈(Pg.cStep c p).st,0<=y:=by
 obtain⟨h1,h2,h3⟩:=h;have a:=Pg.capped_le (c.ah+c.la) (by omega);have e:=Pg.capped_le (c.la*p.mo) (Int.mul_nonneg h2 z);unfold Pg.cStep;split
 ·exact⟨a.1,by simp,h3⟩
 split
 ·refine⟨by simp,by simp,?_⟩;intro y d;rcases ZR.1 d with h|h
  ·subst h;exact a.1
  exact h3 y h
 split
 ·split
  ·exact⟨by simp,a.1,by simp⟩
  rename_i x r b;refine⟨h3 x (by rw[b];simp),a.1,λy d=>h3 y (by rw[b];simp[d])⟩
 split
 ·exact⟨a.1,by simp,h3⟩
 split
 ·exact⟨h1,e.1,h3⟩
 exact⟨h1,h2,h3⟩
theorem Dt (ps:List Pt):∀(c:Pg.C),(0<=c.ah/\0<=c.la/\∀y∈c.st,0<=y)->(∀p∈ps,0<=p.mo)->0<=(Pg.cRun ps c).ah/\0<=(Pg.cRun ps c).la:=by
 induction ps with
 |nil=>intro c h _;exact⟨h.1,h.2.1⟩
 |cons p r ih=>intro c h a;exact ih _ (Ew c p h (a p (by simp))) (λq b=>a q (by simp[b]))
theorem ND (ps:List Pt) (y:∀p∈ps,0<=p.mo):0<=Pg.countPlaces ps/\Pg.countPlaces ps<=97:=by
 have:=Dt ps ⟨0,0,[]⟩ ⟨by simp,by simp,by simp⟩ y;exact Pg.capped_le _ (by omega)
def Ym (s:ByteArray):Int:=Pg.countPlaces (Pg.readParts (Y7 s) s.size).ps
theorem RL (s:ByteArray):0<=Ym s/\Ym s<=97:=ND _ (λp a=>(Pg.readParts_mo _ _ p a).1)
def JC (f:Nat->ByteArray) (n:Nat) (e r a:Int):Prop:=
 (∃i:Nat,i<n/\(∀j,j<i->(Pg.wrong (Y7 (f j)) (f j).size).1=0)/\Pg.wrong (Y7 (f i)) (f i).size=(e,a)/\e≠0/\r=i) \/
 ((∀j,j<n->(Pg.wrong (Y7 (f j)) (f j).size).1=0)/\r=0/\a=0/\e=if 96<Ye (λj=>Ym (f j)) n then 7 else 0)
theorem LC (ad:Option Addr) (len cap:Nat) (w:World) (y:len<=maxLen) (h:len=0\/8<len):
  Cp 124 #[.slice ad len cap] w λe' w'=>e'=.returned (.tuple #[I6 1,I6 0,I6 0])/\w'=w:=by
 unfold maxLen at y;rcases h with h|h
 ·subst h;go_enter Tryz.func124,Tryz.ntmps124;go_wp2;go_ret3;exact⟨rfl,rfl⟩
 have h0:((len:Int)==0)=false:=by simp;omega
 go_enter Tryz.func124,Tryz.ntmps124;go_wp2;go_ret3;exact⟨rfl,rfl⟩
theorem PX (b Y cap n:Nat) (f:Nat->ByteArray) (e r a:Int) (w:World) (h1:1<=n) (h8:n<=8) (Z:b<w.heap.size) (hm:∀i,i<n->(f i).size<=maxLen) (hr:Sg b Y f n w) (h:JC f n e r a):
  Cp 124 #[.slice (some (a_ b Y)) n cap] w λe' w'=>e'=.returned (.tuple #[I6 e,I6 r,I6 a])/\Bl w w':=by
 have U:((n:Int)==0)=false:=beq_eq_false_iff_ne.2 (by omega);have O:=hyd hm;have P:=hyd hr;have t:Hid (∀k,k<=n->0<=Ye (λj=>Ym (f j)) k/\Ye (λj=>Ym (f j)) k<=97*k):=by
  show ∀k,k<=n->0<=Ye (λj=>Ym (f j)) k/\Ye (λj=>Ym (f j)) k<=97*k;intro k
  induction k with
  |zero=>intro _;simp[Ye]
  |succ k ih=>
   intro A;have:=ih (by omega);have h2:=RL (f k);simp only[Ye];omega
 have u:Hid (∀k,k<n->(Pg.wrong (Y7 (f k)) (f k).size).1=0->∀W,Cp 125 #[.string (f k)] W λe w'=>∃v ps,e=.returned (.tuple #[v,I6 0,I6 (Pg.wrong (Y7 (f k)) (f k).size).2])/\Bl W w'/\(∀m,m=w'->Cp 168 #[v] m λe2 w2=>e2=.returned (I6 (Ym (f k)))/\Bl m w2)/\ps=([]:List Pt)):=by
  show ∀k,k<n->(Pg.wrong (Y7 (f k)) (f k).size).1=0->∀W,Cp 125 #[.string (f k)] W λe w'=>∃v ps,e=.returned (.tuple #[v,I6 0,I6 (Pg.wrong (Y7 (f k)) (f k).size).2])/\Bl W w'/\(∀m,m=w'->Cp 168 #[v] m λe2 w2=>e2=.returned (I6 (Ym (f k)))/\Bl m w2)/\ps=([]:List Pt)
  intro k A h0 W;refine(Qd (f k) W (O k A)).mono ?_;rintro e' w' ⟨v,ps,rfl,c,l⟩;obtain⟨R,z,T,_⟩:=l h0;refine⟨v,[],by rw[h0],c,?_,rfl⟩;rintro m rfl;refine(Pw v ps _ _ T R ?_).mono ?_
  ·intro p X;have:=Pg.readParts_mo (Y7 (f k)) (f k).size p.strip (by rw[<-z];exact List.mem_map.2 ⟨p,X,rfl⟩);exact this
  rintro e2 w2 ⟨rfl,h2⟩;refine⟨YY ?_,h2⟩;rw[Ym,<-z,Pg.countPlaces_strip]
 rcases h with ⟨N,G,l,M,S,rfl⟩|⟨l,rfl,rfl,rfl⟩
 ·have o:=hyd l;have D:=hyd M;have V:(e==0)=false:=by simpa using S
  go_enter Tryz.func124,Tryz.ntmps124;go_wp2
  go_loopw [5,21] (λx i w'=>∃k:Nat,k<=N/\i=I6 k/\x=I6 (Ye (λj=>Ym (f j)) k)/\Bl w w') (λ_ i _=>9-(intOf i).toNat)
  ·exact⟨0,by omega,rfl,rfl,Zk _ _⟩
  obtain⟨k,A,rfl,rfl,c⟩:=hrel;have s:=P.out.below Z c k (by omega);have K:(k:Int)<n:=by omega
  by_cases I:k=N
  ·subst I;go_wp2_with fail;refine(Qd (f k) _ (O.out k G)).mono ?_;rintro e' w1 ⟨v,ps,rfl,d,_⟩;rw[D.out];go_wp2;go_ret3;exact⟨rfl,c.trans (d.mono c.size)⟩
  have H:k<N:=by omega
  have E:=t.out k (by omega);have L:=RL (f k);go_wp2_with fail;refine(u k (by omega) (o k H) _).mono ?_;rintro e' w1 ⟨v,ps,rfl,d,F,_⟩;have C:=F w1 rfl;have B:Hid (Cp 168 #[v] w1 λe2 w2=>e2=.returned (I6 (Ym (f k)))/\Bl w1 w2):=C;go_wp2_with fail;refine B.out.mono ?_;rintro e' w2 ⟨rfl,q⟩;go_wp2;go_roundw
  ·have y:=c.trans (d.mono c.size);exact⟨k+1,by omega,by go_num,rfl,y.trans (q.mono y.size)⟩
  simp[intOf];omega
 have o:=hyd l;go_enter Tryz.func124,Tryz.ntmps124;go_wp2
 go_loopw [5,21] (λx i w'=>∃k:Nat,k<=n/\i=I6 k/\x=I6 (Ye (λj=>Ym (f j)) k)/\Bl w w') (λ_ i _=>9-(intOf i).toNat)
 ·exact⟨0,by omega,rfl,rfl,Zk _ _⟩
 obtain⟨k,A,rfl,rfl,c⟩:=hrel;have E:=t.out k (by omega);by_cases g:k<n
 ·have s:=P.out.below Z c k g;have K:(k:Int)<n:=by omega
  have L:=RL (f k);go_wp2_with fail;refine(u k g (o k g) _).mono ?_;rintro e' w1 ⟨v,ps,rfl,d,F,_⟩;have C:=F w1 rfl;have B:Hid (Cp 168 #[v] w1 λe2 w2=>e2=.returned (I6 (Ym (f k)))/\Bl w1 w2):=C;go_wp2_with fail;refine B.out.mono ?_;rintro e' w2 ⟨rfl,q⟩;go_wp2;go_roundw
  ·have y:=c.trans (d.mono c.size);exact⟨k+1,by omega,by go_num,rfl,y.trans (q.mono y.size)⟩
  simp[intOf];omega
 have J:k=n:=by omega
 subst J;by_cases Q:96<Ye (λj=>Ym (f j)) k
 ·go_wp2;go_ret3;exact⟨by first|rfl|rw[p_],c⟩
 go_wp2;go_ret3;exact⟨by first|rfl|rw[g_],c⟩
end
section
open Go.RowKit
def BT:Prop:=∀(f:Nat->ByteArray) (n:Nat),∃e r a,JC f n e r a/\K2 f n e r a
variable {B g m n:Nat}{w w':World}
theorem Vn.below {f:Nat->ByteArray} (h:Vn g f n w) (z:g<B) (y:Below B w w'):Vn g f n w':=λi a=>by
 rw[y.cell (p:=(a_ g i)) z,y.frozen (p:=(a_ g i)) z];exact h i a
theorem Vn.srow {f:Nat->ByteArray} (h:Vn g f n w) (y:m<=n):Sg g 0 f m w:=λi a=>by
 rw[Zn];exact(h i (by omega)).1
end
end Go.Proofs.YtoaaklhpmhjhkaaGreat
