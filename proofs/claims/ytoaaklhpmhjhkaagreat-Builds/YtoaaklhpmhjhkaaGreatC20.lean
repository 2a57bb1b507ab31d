import Derived.Deep.AppendLies
import Derived.Test.YtoaaklhpmhjhkaaGreatC19
set_option maxRecDepth 100000
set_option maxHeartbeats 4000000
set_option linter.all false
namespace Go.Proofs.YtoaaklhpmhjhkaaGreat
open Go.RowKit
open Pg (Pt)
def Pt.cells (p:Pt):List Value:=partL p.kd p.pl p.f p.le p.mo p.fa
def flat (ps:List Pt):List Value:=ps.flatMap Pt.cells
theorem q8o (a b:List Pt):flat (a++b)=flat a++flat b:=by simp[flat]
theorem y1P (p:Pt):flat [p]=Pt.cells p:=by simp[flat]
theorem y1Q (ps:List Pt) (k:Nat) (p:Pt) (h:ps[k]?=some p) (j:Nat) (v:Value) (hv:(Pt.cells p)[j]?=some v):(flat ps)[k*261+j]?=some v:=by
 induction ps generalizing k with
 |nil=>simp at h
 |cons q r ih=>
  have a:j<261:=by have:=(List.getElem?_eq_some_iff.1 hv).1;simpa[Pt.cells,q0a]using this
  rcases k with _|k
  ·simp only[List.getElem?_cons_zero,Option.some.injEq]at h;subst h;rw[Nat.zero_mul,Nat.zero_add,flat,List.flatMap_cons,List.getElem?_append_left (by simp[Pt.cells,q0a,a])];exact hv
  simp only[List.getElem?_cons_succ]at h;rw[flat,List.flatMap_cons,List.getElem?_append_right (by simp[Pt.cells,q0a];omega)];have:(k+1)*261+j-(Pt.cells q).length=k*261+j:=by simp[Pt.cells,q0a];omega
  rw[this];exact ih k h
variable {a : Act}{ops : Array Oper}{Q : Exit → Act → World → Prop}{x : Int}{rest : List Oper}{ps : List Pt}{xs : List Value}{base base' cap g n n' sz : Nat}{o op : Oper}{v v' : Value}{w w' : World}
theorem q2d {e:TypeId} (h:w.ownsRow base e 261 (.slice (some ⟨g,0,none⟩) n cap) n (flat ps)) (k:Nat) (p:Pt) (hp:ps[k]?=some p):
  w.rangeAt g (k*261) (Pt.cells p):=λj v q=>by
 have f:=y1Q ps k p hp j v q;rcases h.2 with ⟨i,_⟩|⟨r,d,b,c,s,l,m,t,o,a⟩
 ·cases i
 cases c;rw[cell_of_row w g (k*261+j) b e (0,0) l,<-f,<-a];have:k*261+j<n*261:=by
  have:=(List.getElem?_eq_some_iff.1 f).1;rw[h.1]at this;exact this
 simp[this]
theorem q0F {e:TypeId} (h:w.ownsRow base e sz v n xs) (hW:Below w.heap.size w w'):w'.ownsRow base e sz v n xs:=by
 refine⟨h.1,?_⟩;rcases h.2 with k|⟨d,b,c,j,l,f,a⟩
 ·exact Or.inl k
 refine Or.inr ⟨d,b,c,j,l,?_,a⟩;rw[hW.block d ?_];exact f;rcases Nat.lt_or_ge d w.heap.size with i|g
 ·exact i
 rw[Array.getElem?_eq_none g]at f;cases f
theorem q6W (w:World) (p:Pt):(Instr.buildSlice 194 1 #[(0,.agg (Pt.cells p).toArray)]).run Tryz.prog w=.ok (.slice (some ⟨w.heap.size,0,none⟩) 1 1) (w.alloc (.cells (Pt.cells p).toArray 261)):=by kernel_rfl
theorem q5u:∃i,Tryz.prog.info? 261=some i/\i.zero=some (.agg (partL 0 0 (λ_=>false) 0 0 0).toArray)/\i.size=261/\i.bytes=296:=by
 have b:(Tryz.prog.info? 261).isSome=true:=by kernel_rfl
 obtain⟨i,a⟩:=Option.isSome_iff_exists.1 b;refine⟨i,a,?_,?_,?_⟩
 ·have:((Tryz.prog.info? 261).bind (·.zero))=some (.agg (partL 0 0 (λ_=>false) 0 0 0).toArray):=by kernel_rfl
  rw[a]at this;exact this
 ·have:((Tryz.prog.info? 261).map (·.size))=some 261:=by kernel_rfl
  rw[a]at this;simpa using this
 have:((Tryz.prog.info? 261).map (·.bytes))=some 296:=by kernel_rfl
 rw[a]at this;simpa using this
theorem q5H (hgd:op.guard=none) (x:Operand) (ho:op.op=.buildSlice 194 1 #[(0,x)])
  (p:Pt) (hx:a.eval x=.agg (Pt.cells p).toArray) (H:Nat) (hH:w.heap.size=H)
  (h:wpList Tryz.prog ops Q rest (a.put op.dst (.slice (some ⟨H,0,none⟩) 1 1)) (w.alloc (.cells (Pt.cells p).toArray 261))):wpList Tryz.prog ops Q (op::rest) a w:=
 wpList_plain hgd λ_ b=>by
  subst hH;have c:(Instr.buildSlice 194 1 (#[(0,x)].map λ(i,o)=>(i,a.eval o))).run Tryz.prog w=.ok (.slice (some ⟨w.heap.size,0,none⟩) 1 1) (w.alloc (.cells (Pt.cells p).toArray 261)):=by
   rw[show(#[((0:Nat),x)].map λ(i,o)=>(i,a.eval o))=#[(0,a.eval x)] by simp,hx];exact q6W w p
  unfold Oper.wp execOp;simp only[ho,Sem.run_bind,Sem.run_pure,Result.andThen_ok,c];exact b _ _ h
theorem q6e {e:TypeId} (h:w.ownsRow base e sz v n xs):∀k,v.ownBlock=some k->base<=k:=by
 intro k b;rcases h.2 with ⟨rfl,_⟩|⟨f,a,c,rfl,d,_⟩
 ·cases b
 cases b;exact d
theorem q2n (b:Nat):∀(vs:List Value) (o:Nat) (w:World),(w.setCells b o vs).heap.size=w.heap.size
 |[],_,_=>rfl
 |v::r,o,w=>by rw[World.setCells,q2n b r];simp[World.setCell]
theorem q9x (w:World) (H:Nat) (hH:w.heap.size=H) (p:Pt) (t:TypeId):∀j u,(Pt.cells p)[j]?=some u->(w.alloc (.cells (Pt.cells p).toArray t)).cell? ((⟨H,0,none⟩:Addr).add j)=some u:=by
 intro j u a;subst hH;rw[Addr.add_mid,Nat.zero_add,World.cell?_alloc_new];simpa using a
theorem q3a (hgd:o.guard=none) (s x:Operand)
  (ho:o.op=.call { callee:=.builtin .append,args:=#[s,x],argTypes:=#[194,194] }) (base:Nat)
  (v:Value) (ps:List Pt) (hs:a.eval s=v) (hown:w.ownsRow base 261 261 v ps.length (flat ps)) (hn:ps.length<=1000)
  (B:Nat) (p:Pt) (hx:a.eval x=.slice (some ⟨B,0,none⟩) 1 1) (hnews:∀j u,(Pt.cells p)[j]?=some u->w.cell? ((⟨B,0,none⟩:Addr).add j)=some u) (hbase:base<=w.heap.size)
  (h:∀g cap w',w'.ownsRow base 261 261 (.slice (some ⟨g,0,none⟩) (ps.length+1) cap) (ps.length+1) (flat (ps++[p]))->w.grownBy w' v.ownBlock->wpList Tryz.prog ops Q rest (a.put o.dst (.slice (some ⟨g,0,none⟩) (ps.length+1) cap)) w'):wpList Tryz.prog ops Q (o::rest) a w:=by
 obtain⟨i,k,b,c,d⟩:=q5u;refine wpList_append_lies w hgd s x 194 ho base 261 i (.agg (partL 0 0 (λ_=>false) 0 0 0).toArray) 261 296 Tryz.underlying194 k b c d (by simp[Value.cells,q0a]) (by omega) v ps.length (flat ps) hs hown ⟨B,0,none⟩ 1 1 (Pt.cells p) hx (by simp[Pt.cells,q0a]) hnews (q0j _ _ _ _ _ _) (by omega) (by unfold maxLen;omega) (by omega) hbase w.heap.size rfl ?_;intro g cap w' e f l m;refine h g cap w' ?_ f;rw[q8o,y1P];exact e
def LeOK (s:ByteArray) (ps:List Pt):Prop:=∀p∈ps,p.kd=8->p.le=dgv s p.pl
def LPost (s:ByteArray) (w:World) (r:Pg.PR) (e:Ending) (w':World):Prop:=
 ∃(v:Value) (ps:List Pt),e=.returned (.tuple #[v,.int .i64 r.n,.bool r.ok])/\Below w.heap.size w w'/\(r.ok=true->w'.ownsRow w.heap.size 261 261 v ps.length (flat ps)/\ps.map Pt.strip=r.ps/\ps.length<=100/\LeOK s ps)
theorem q6b (s:ByteArray) (w:World) (hs:s.size<=40):
  Calls Tryz.prog 169 #[.string s] w (LPost s w (Pg.readParts (bat s) s.size)):=by
 obtain⟨R,hR⟩:=nam (Pg.readParts (bat s) s.size);rw[<-hR];have O:=hyd hR;clear hR;go_enter Tryz.func169,Tryz.ntmps169;go_wp2_with fail
 go_loopw [5,6,7,8] (λv b o x w'=>∃(u k:Nat) (X op:Int) (ps:List Pt),x=.int .i64 k/\b=.int .i64 X/\o=.int .i64 op/\s.size<u+k/\1<=u/\k<=100/\-(k:Int)<=op/\op<=k/\ps.length<=k/\w'.ownsRow w.heap.size 261 261 v ps.length (flat ps)/\Below w.heap.size w w'/\Hid (LeOK s ps)/\Hid (R=Pg.partsFrom (bat s) s.size u X op k (ps.map Pt.strip))) (λ_ _ _ x _=>101-(intOf x).toNat)
 ·exact⟨s.size+1,0,0,0,[],rfl,rfl,rfl,by omega,by omega,by omega,by omega,by omega,by simp,⟨rfl,Or.inl ⟨rfl,rfl⟩⟩,Below.refl _ _,(λp hp=>by cases hp),O⟩
 clear O;obtain⟨u,k,X,op,ps,rfl,rfl,rfl,aA,az,hk,av,aw,ay,F,Y,P,N⟩:=hrel;by_cases ar:k<s.size
 ·rcases u with _|u
  ·omega
  have ae:(k:Int)<(s.size:Int):=by omega
  have l:=Pg.readPart_bd (bat s) s.size k (Pg.kindOf (bat s k)) (q7B s) (by omega);have Z:=N.out;rw[Pg.partsFrom,if_pos ae]at Z;clear N;obtain⟨t,ht⟩:=nam (Pg.readPart (bat s) s.size k (Pg.kindOf (bat s k)));obtain⟨kd,I⟩:=nam (Pg.kindOf (bat s k));rw[<-I]at ht Z l;rw[<-ht]at Z l;have Ht:=hyd ht;have aj:=hyd I;have HI:=hyd Z;have S:=hyd l;clear Z ht I l;go_wp2_with fail;refine(q0q s (k:Int) _).mono ?_;rintro e W ⟨rfl,rfl⟩;go_wp2_with fail;refine(q9A _ _).mono ?_;rintro e W ⟨rfl,rfl⟩;rw[<-aj.out];go_wp2_with fail;refine(q7y kd X op _).mono ?_;rintro e W ⟨rfl,rfl⟩;cases hcs:Pg.canStand kd X op
  ·have z:Hid (R=⟨k,false,[]⟩):=by show _=_;rw[HI.out,hcs];rfl
   clear HI hcs;go_wp2_with fail;go_ret3;rw[z.out];exact⟨_,[],rfl,Y,λh=>by cases h⟩
  have A:Hid (R=if t.ok then Pg.partsFrom (bat s) s.size u kd (Pg.opens kd op) t.n (ps.map Pt.strip++[⟨kd,k,t.f,0,t.mo,t.fa⟩]) else ⟨t.n,false,[]⟩):=by show _=_;rw[HI.out,hcs];rfl
  clear HI hcs;go_wp2_with fail;refine(q7a s k kd _ hs (by omega)).mono ?_;rw[<-Ht.out];rintro e j ⟨a,M,f',c,L,G,rfl,aa,ah⟩;have V:Hid _:=ah;clear ah;have hz:=q0Q j;have hN:=PRow.boxed j 0 0 (λ_=>false) 0 0 0 261;have an:=hN.store a M f' c L G;have hM:=hN.put a M f' c L G;have ab:Below j.heap.size j ((j.alloc (Obj.cells (partL 0 0 (λ_=>false) 0 0 0).toArray 261)).setCells j.heap.size 0 (partL a M f' c L G)):=((Below.refl _ _).alloc (Nat.le_refl _) _).trans (q0d j.heap.size j.heap.size 0 (Nat.le_refl _) _ _ 0);have C:=Y.trans (aa.mono Y.size);have m:=C.trans (ab.mono C.size);cases htok:t.ok
  ·have z:Hid (R=⟨t.n,false,[]⟩):=by show _=_;rw[A.out,htok];rfl
   clear A;go_wp2_with fail;go_ret3;rw[z.out];exact⟨_,[],rfl,m,λh=>by cases h⟩
  obtain⟨e1,e2,e3,e4,e5,e6⟩:=V.out htok;have ai:=hyd e6;clear e6;have l:=S.out htok;have z:Hid (R=Pg.partsFrom (bat s) s.size u kd (Pg.opens kd op) t.n (ps.map Pt.strip++[⟨kd,k,t.f,0,t.mo,t.fa⟩])):=by show _=_;rw[A.out,htok];rfl
  clear A V S;subst e1 e2 e3 e4 e5;obtain⟨nn,af⟩:=Int.eq_ofNat_of_zero_le (show 0<=t.n by omega);have U:=hyd af;have au:k<nn/\nn<=k+45:=by omega
  clear af l;have K:((j.alloc (Obj.cells (partL 0 0 (λ_=>false) 0 0 0).toArray 261)).setCells j.heap.size 0 (partL a k t.f c t.mo t.fa)).heap.size=j.heap.size+1:=by rw[q2n];simp
  have r:=q0F (q0F F aa) ab;have y:=q0F r ((Below.refl _ _).alloc (Nat.le_refl _) (.cells (Pt.cells ⟨a,k,t.f,c,t.mo,t.fa⟩).toArray 261));have q:=m.alloc m.size (.cells (Pt.cells ⟨a,k,t.f,c,t.mo,t.fa⟩).toArray 261);have E:=q9x _ _ K ⟨a,k,t.f,c,t.mo,t.fa⟩ 261;obtain⟨i,hi,ao,ap,aq⟩:=q5u;clear hi ao ap aq;have ak:Hid _:=K;have T:Hid _:=E;clear K E r;have al:=hN.free;have am:=q6e y;have HE:∀x,Pg.opens a op=x->Hid (R=Pg.partsFrom (bat s) s.size u a x (nn:Int) ((ps++[(⟨a,k,t.f,c,t.mo,t.fa⟩:Pt)]).map Pt.strip)):=by
   intro x hx;show _=_;rw[z.out,hx,U.out,List.map_append];rfl
  have D:(ps++[(⟨a,k,t.f,c,t.mo,t.fa⟩:Pt)]).length=ps.length+1:=by simp
  have B:=hyd D;clear an D;have HF:=HE _ (Pg.opens_opn a op);have Q:Hid (LeOK s (ps++[(⟨a,k,t.f,c,t.mo,t.fa⟩:Pt)])):=λp hp h8=>by
   rcases List.mem_append.1 hp with h|h
   ·exact P.out p h h8
   rw[List.mem_singleton.1 h]at h8 ⊢;exact ai.out h8
  have ax:=Pg.opn_bd a;have HO:Hid (∀W,Calls Tryz.prog 196 #[.int .i64 a] W λe w'=>e=.returned (.int .i64 (Pg.opn a))/\w'=W):=λW=>q3j a W
  clear HE z;generalize Pg.opn a=d at *;go_wp2_with (first|(with_reducible refine gst 261 ?_;refine wpList_store_mid rfl 261 _ _ rfl _ _ _ rfl rfl (by simpa[q0a]using al) (by simpa[q0a]using q0b) (all_oneCell_toArray (q0j _ _ _ _ _ _)) ?_)|(with_reducible refine gld 261 ?_;refine wpList_load_mid rfl 261 _ rfl _ _ rfl _ _ hM.at_ Tryz.underlying261 rfl (by rw[q0a];exact q0b) ?_)|(with_reducible show wpList _ _ _ (⟨_,Op.buildSlice 194 _ _,_,_,_,_⟩::_) _ _;refine q5H rfl _ rfl ⟨a,k,t.f,c,t.mo,t.fa⟩ rfl (j.heap.size+1) ak.out ?_)|(at_builtin;refine q3a (by rfl) _ _ (by rfl) w.heap.size u5 ps (by rfl) y (by omega) (j.heap.size+1) ⟨a,k,t.f,c,t.mo,t.fa⟩ (by rfl) T.out q.size ?_;intro g cap w5 J H));refine(HO.out _).mono ?_;rintro e w' ⟨rfl,rfl⟩;go_wp2_with fail;rw[U.out];go_roundw
  ·exact⟨u,nn,a,op+d,ps++[⟨a,k,t.f,c,t.mo,t.fa⟩],rfl,rfl,rfl,by omega,by omega,by omega,by omega,by omega,by rw[B.out];omega,by rw[B.out];exact J,q.grown H q.size am,Q,HF⟩
  simp[intOf];omega
 have ac:¬(k:Int)<(s.size:Int):=by omega
 rcases u with _|u
 ·omega
 by_cases ho:op=0
 ·have z:Hid (R=⟨k,true,ps.map Pt.strip⟩):=by show _=_;rw[N.out,Pg.partsFrom,if_neg ac,ho];rfl
  have ag:(op==0)=true:=by simpa using ho
  clear N ho;go_wp2_with fail;go_ret3;rw[z.out];exact⟨u5,ps,rfl,Y,λ_=>⟨F,rfl,by omega,P.out⟩⟩
 have ag:(op==0)=false:=by simpa using ho
 have z:Hid (R=⟨k,false,ps.map Pt.strip⟩):=by show _=_;rw[N.out,Pg.partsFrom,if_neg ac,ag]
 clear N ho;go_wp2_with fail;go_ret3;rw[z.out];exact⟨u5,ps,rfl,Y,λh=>by cases h⟩
theorem q3F {P:Program} (hw:Region.wanted op (yielded ops a.tmps)=true) (ty:TypeId) (x:Operand) (ho:op.op=.load ty x)
  (b o:Nat) (hx:a.eval x=.pointer (some ⟨b,o,none⟩)) (cs:List Value) (d:TypeDesc) (hc:w.rangeAt b o cs)
  (hu:P.underlying ty=some d) (hd:d.isRow=true) (hi:(P.info? ty).map (·.size)=some cs.length)
  (h:wpList P ops Q rest (a.put op.dst (.agg cs.toArray)) w):wpList P ops Q (op::rest) a w:=
 wpList_step λK c=>by rw[if_pos hw];exact wp_load_mid ty x ho b o hx cs d hc hu hd hi (c _ _ h)
theorem q7F (v:Value) (ps:List Pt) (base:Nat) (w:World) (hn:ps.length<=100) (hown:w.ownsRow base 261 261 v ps.length (flat ps)):
  Calls Tryz.prog 170 #[v] w λe w'=>e=.returned (.int .i64 (Pg.tooDeep ps 0))/\Below w.heap.size w w':=by
 rcases hown.2 with ⟨rfl,H⟩|⟨g,cap,G,rfl,I,_⟩
 ·have:ps=[]:=List.eq_nil_of_length_eq_zero H;subst this;go_enter Tryz.func170,Tryz.ntmps170;go_wp2_with fail
  go_loop [8] (λx=>x=.int .i64 0) (λ_=>0)
  ·rfl
  subst hrel;go_wp2_with fail;go_ret;exact⟨rfl,Below.refl _ _⟩
 go_enter Tryz.func170,Tryz.ntmps170;go_wp2_with fail
 go_loopw [3,8] (λo x w'=>∃(k:Nat) (op:Int),x=.int .i64 k/\o=.int .i64 op/\k<=ps.length/\-(k:Int)<=op/\op<=k/\w'.ownsRow base 261 261 (.slice (some ⟨g,0,none⟩) ps.length cap) ps.length (flat ps)/\Below w.heap.size w w'/\Hid (Pg.tooDeep ps 0=Pg.tooDeep (ps.drop k) op)) (λ_ x _=>101-(intOf x).toNat)
 ·exact⟨0,0,rfl,rfl,by omega,by omega,by omega,hown,Below.refl _ _,rfl⟩
 obtain⟨k,op,rfl,rfl,N,K,L,C,t,q⟩:=hrel;by_cases i:k<ps.length
 ·obtain⟨p,r⟩:∃p,ps[k]?=some p:=⟨ps[k],List.getElem?_eq_getElem i⟩;have n:ps.drop k=p::ps.drop (k+1):=by
   rw[List.drop_eq_getElem_cons i];congr 1;rw[List.getElem?_eq_getElem i]at r;exact Option.some.inj r
  have E:wr.rangeAt g (k*261) (partL p.kd p.pl p.f p.le p.mo p.fa):=q2d C k p r;have O:=q0Q wr;have B:=PRow.boxed wr 0 0 (λ_=>false) 0 0 0 261;have m:=B.free;have u:=B.put p.kd p.pl p.f p.le p.mo p.fa;have h:Below wr.heap.size wr ((wr.alloc (Obj.cells (partL 0 0 (λ_=>false) 0 0 0).toArray 261)).setCells wr.heap.size 0 (partL p.kd p.pl p.f p.le p.mo p.fa)):=((Below.refl _ _).alloc (Nat.le_refl _) _).trans (q0d wr.heap.size wr.heap.size 0 (Nat.le_refl _) _ _ 0);obtain⟨F,b⟩:∃W,W=((wr.alloc (Obj.cells (partL 0 0 (λ_=>false) 0 0 0).toArray 261)).setCells wr.heap.size 0 (partL p.kd p.pl p.f p.le p.mo p.fa)):=⟨_,rfl⟩;rw[<-b]at u h;have j:Hid (F=((wr.alloc (Obj.cells (partL 0 0 (λ_=>false) 0 0 0).toArray 261)).setCells wr.heap.size 0 (partL p.kd p.pl p.f p.le p.mo p.fa))):=b;clear b;have y:=q0F C h;have l:=t.trans (h.mono t.size);have D:(k:Int)<(ps.length:Int):=by omega
  have a:Hid (Pg.tooDeep ps 0=if 6<Pg.opens p.kd op then p.pl else Pg.tooDeep (ps.drop (k+1)) (Pg.opens p.kd op)):=by show _=_;rw[q.out,n,Pg.tooDeep]
  clear q n r;obtain⟨kd,pl,f,le,mo,fa⟩:=p;simp only at *;have c0:=u.c0;have c1:=u.c1;have M:=Pg.opn_bd kd;have z:Hid (∀W,Calls Tryz.prog 196 #[.int .i64 kd] W λe w'=>e=.returned (.int .i64 (Pg.opn kd))/\w'=W):=λW=>q3j kd W
  rw[Pg.opens_opn]at a;generalize Pg.opn kd=d at *;by_cases A:6<op+d
  ·have c:Hid (Pg.tooDeep ps 0=pl):=by show _=_;rw[a.out,if_pos A]
   clear a;go_wp2_with (first|(with_reducible refine gld 261 ?_;refine wpList_load_mid rfl 261 _ rfl _ _ rfl _ _ E Tryz.underlying261 rfl (by rw[q0a];exact q0b) ?_)|(with_reducible refine gst 261 ?_;refine wpList_store_mid rfl 261 _ _ rfl _ _ _ rfl rfl (by simpa[q0a]using m) (by simpa[q0a]using q0b) (all_oneCell_toArray (q0j _ _ _ _ _ _)) ?_;rw[List.toList_toArray,<-j.out]));refine(z.out _).mono ?_;rintro e w' ⟨rfl,rfl⟩;go_wp2_with fail;go_ret;exact⟨q0l c.out.symm,l⟩
  have c:Hid (Pg.tooDeep ps 0=Pg.tooDeep (ps.drop (k+1)) (op+d)):=by show _=_;rw[a.out,if_neg A]
  clear a;go_wp2_with (first|(with_reducible refine gld 261 ?_;refine wpList_load_mid rfl 261 _ rfl _ _ rfl _ _ E Tryz.underlying261 rfl (by rw[q0a];exact q0b) ?_)|(with_reducible refine gst 261 ?_;refine wpList_store_mid rfl 261 _ _ rfl _ _ _ rfl rfl (by simpa[q0a]using m) (by simpa[q0a]using q0b) (all_oneCell_toArray (q0j _ _ _ _ _ _)) ?_;rw[List.toList_toArray,<-j.out]));refine(z.out _).mono ?_;rintro e w' ⟨rfl,rfl⟩;go_wp2_with fail;go_roundw
  ·exact⟨k+1,op+d,by go_num,rfl,by omega,by omega,by omega,y,l,c⟩
  simp[intOf];omega
 have J:¬(k:Int)<(ps.length:Int):=by omega
 have s:Hid (Pg.tooDeep ps 0=-1):=by show _=_;rw[q.out,List.drop_eq_nil_of_le (by omega)];rfl
 clear q;go_wp2_with fail;go_ret;exact⟨q0l s.out.symm,t⟩
theorem y1H:∃i,Tryz.prog.info? 3=some i/\i.zero=some (.int .i64 0)/\i.size=1/\i.bytes=8:=by
 have b:(Tryz.prog.info? 3).isSome=true:=by kernel_rfl
 obtain⟨i,a⟩:=Option.isSome_iff_exists.1 b;refine⟨i,a,?_,?_,?_⟩
 ·have:((Tryz.prog.info? 3).bind (·.zero))=some (.int .i64 0):=by kernel_rfl
  rw[a]at this;exact this
 ·have:((Tryz.prog.info? 3).map (·.size))=some 1:=by kernel_rfl
  rw[a]at this;simpa using this
 have:((Tryz.prog.info? 3).map (·.bytes))=some 8:=by kernel_rfl
 rw[a]at this;simpa using this
def nums (l:List Int):List Value:=l.map λx=>.int .i64 x
theorem wpList_append_int (hgd:o.guard=none) (s x:Operand)
  (ho:o.op=.call { callee:=.builtin .append,args:=#[s,x],argTypes:=#[23,23] }) (base:Nat)
  (v:Value) (l:List Int) (hs:a.eval s=v) (hown:w.ownsRow base 3 1 v l.length (nums l)) (hn:l.length<=1000)
  (B:Nat) (y:Int) (hx:a.eval x=.slice (some ⟨B,0,none⟩) 1 1) (hnews:w.cell? ⟨B,0,none⟩=some (.int .i64 y)) (hbase:base<=w.heap.size)
  (h:∀g cap w',w'.ownsRow base 3 1 (.slice (some ⟨g,0,none⟩) (l.length+1) cap) (l.length+1) (nums (l++[y]))->w.grownBy w' v.ownBlock->wpList Tryz.prog ops Q rest (a.put o.dst (.slice (some ⟨g,0,none⟩) (l.length+1) cap)) w'):wpList Tryz.prog ops Q (o::rest) a w:=by
 obtain⟨i,m,c,d,e⟩:=y1H;refine wpList_append_lies w hgd s x 23 ho base 3 i (.int .i64 0) 1 8 Tryz.underlying23 m c d e rfl (by omega) v l.length (nums l) hs hown ⟨B,0,none⟩ 1 1 [.int .i64 y] hx rfl ?_ (by simp[Value.oneCell']) (by omega) (by unfold maxLen;omega) (by omega) hbase w.heap.size rfl ?_
 ·intro j u b;rcases j with _|j
  ·simp at b;subst b;simpa[Addr.add_mid]using hnews
  simp at b
 intro g cap w' f k n p;refine h g cap w' ?_ k;simpa[nums]using f
theorem q7f {e:TypeId}{l:List Int} (h:w.ownsRow base e 1 (.slice (some ⟨g,0,none⟩) (l.length+1) cap) (l.length+1) (nums (l++[x]))) (hn:n=l.length):w.cell? ⟨g,n,none⟩=some (.int .i64 x):=by
 subst hn;rw[h.cellAt l.length (by omega)];simp[nums]
theorem q4B {e:TypeId}{l:List Int} (h:w.ownsRow base e 1 (.slice (some ⟨g,0,none⟩) (l.length+1) cap) (l.length+1) (nums (l++[x]))):w.ownsRow base e 1 (.slice (some ⟨g,0,none⟩) l.length cap) l.length (nums l):=
 ownsRow_pop (last:=[.int .i64 x]) (by simp[nums]) (by simpa[nums]using h)
theorem q9u {e e':TypeId}{sz':Nat}{xs':List Value} (h:w.ownsRow base e sz v n xs) (_h':w.ownsRow base' e' sz' v' n' xs') (hg:w.grownBy w' v'.ownBlock) (hne:∀k,v.ownBlock=some k->v'.ownBlock≠some k):w'.ownsRow base e sz v n xs:=by
 refine⟨h.1,?_⟩;rcases h.2 with j|⟨g,cap,d,i,l,a,c⟩
 ·exact Or.inl j
 refine Or.inr ⟨g,cap,d,i,l,?_,c⟩;have b:g<w.heap.size:=by
  rcases Nat.lt_or_ge g w.heap.size with b|f
  ·exact b
  rw[Array.getElem?_eq_none f]at a;cases a
 rw[hg.block g b (λe=>hne g (by rw[i];rfl) e.symm)];exact a
theorem q3B (n:Int) (h:0<=n):0<=Pg.capped n/\Pg.capped n<=97:=by unfold Pg.capped;split<;>omega
theorem q4R (v:Value) (ps:List Pt) (base:Nat) (w:World) (hn:ps.length<=100) (hown:w.ownsRow base 261 261 v ps.length (flat ps)) (hmo:∀p∈ps,0<=p.mo/\p.mo<=9):
  Calls Tryz.prog 168 #[v] w λe w'=>e=.returned (.int .i64 (Pg.countPlaces ps))/\Below w.heap.size w w':=by
 rcases hown.2 with ⟨rfl,h0⟩|⟨g,cap,ap,rfl,aq,H,_⟩
 ·have:ps=[]:=List.eq_nil_of_length_eq_zero h0;subst this;go_enter Tryz.func168,Tryz.ntmps168;go_wp2_with fail
  go_loop [4,5,11] (λxa xl x=>xa=.int .i64 0/\xl=.int .i64 0/\x=.int .i64 0) (λ_ _ _=>0)
  ·exact⟨rfl,rfl,rfl⟩
  obtain⟨rfl,rfl,rfl⟩:=hrel;go_wp2_with fail;refine(q0A _ _).mono ?_;rintro e W ⟨rfl,rfl⟩;go_wp2_with fail;go_ret;exact⟨rfl,Below.refl _ _⟩
 have ar:g<w.heap.size:=by
  rcases Nat.lt_or_ge g w.heap.size with u|P
  ·exact u
  rw[Array.getElem?_eq_none P]at H;cases H
 clear H;have aa:Hid (∀p∈ps,0<=p.mo/\p.mo<=9):=hmo;clear hmo;go_enter Tryz.func168,Tryz.ntmps168;go_wp2_with fail
 go_loopw [3,4,5,11] (λvo xa xl x w'=>∃(k:Nat) (j i:Int) (l:List Int),x=.int .i64 k/\xa=.int .i64 j/\xl=.int .i64 i/\k<=ps.length/\0<=j/\j<=97/\0<=i/\i<=97/\l.length<=k/\(∀y∈l,0<=y/\y<=97)/\w'.ownsRow w.heap.size 3 1 vo l.length (nums l)/\w'.ownsRow base 261 261 (.slice (some ⟨g,0,none⟩) ps.length cap) ps.length (flat ps)/\Below w.heap.size w w'/\Hid (Pg.cRun ps ⟨0,0,[]⟩=Pg.cRun (ps.drop k) ⟨j,i,l.reverse⟩)) (λ_ _ _ x _=>101-(intOf x).toNat)
 ·exact⟨0,0,0,[],rfl,rfl,rfl,by omega,by omega,by omega,by omega,by omega,by simp,by simp,⟨rfl,Or.inl ⟨rfl,rfl⟩⟩,hown,Below.refl _ _,rfl⟩
 obtain⟨k,j,i,l,rfl,rfl,rfl,hk,L,M,Q,R,ag,S,hV,hO,hB,X⟩:=hrel;have o:Hid (∀y∈l,0<=y/\y<=97):=S;clear S;have d:=q3B (j+i) (by omega);by_cases u:k<ps.length
 ·obtain⟨p,U⟩:∃p,ps[k]?=some p:=⟨ps[k],List.getElem?_eq_getElem u⟩;have O:ps.drop k=p::ps.drop (k+1):=by
   rw[List.drop_eq_getElem_cons u];congr 1;rw[List.getElem?_eq_getElem u]at U;exact Option.some.inj U
  have D:wr.rangeAt g (k*261) (partL p.kd p.pl p.f p.le p.mo p.fa):=q2d hO k p U;have hz:=q0Q wr;have hN:=PRow.boxed wr 0 0 (λ_=>false) 0 0 0 261;have n:=hN.free;have hM:=hN.put p.kd p.pl p.f p.le p.mo p.fa;have C:Below wr.heap.size wr ((wr.alloc (Obj.cells (partL 0 0 (λ_=>false) 0 0 0).toArray 261)).setCells wr.heap.size 0 (partL p.kd p.pl p.f p.le p.mo p.fa)):=((Below.refl _ _).alloc (Nat.le_refl _) _).trans (q0d wr.heap.size wr.heap.size 0 (Nat.le_refl _) _ _ 0);have r:=q0F hO C;have m:=hB.trans (C.mono hB.size);have ao:(k:Int)<(ps.length:Int):=by omega
  have c:=q0F hV C;have b:Hid (Pg.cRun ps ⟨0,0,[]⟩=Pg.cRun (ps.drop (k+1)) (Pg.cStep ⟨j,i,l.reverse⟩ p)):=by show _=_;rw[X.out,O,Pg.cRun]
  have I:=aa.out p (by have:=List.mem_of_getElem? U;exact this);clear X O U;obtain⟨kd,pl,f,le,mo,fa⟩:=p;simp only at *;have c0:=hM.c0;have c4:=hM.c4;by_cases Y:kd=1
  ·subst Y;have a:Hid (Pg.cRun ps ⟨0,0,[]⟩=Pg.cRun (ps.drop (k+1)) ⟨Pg.capped (j+i),1,l.reverse⟩):=b;clear b;go_wp2_with (first|(with_reducible refine gld 261 ?_;refine wpList_load_mid rfl 261 _ rfl _ _ rfl _ _ D Tryz.underlying261 rfl (by rw[q0a];exact q0b) ?_)|(with_reducible refine gst 261 ?_;refine wpList_store_mid rfl 261 _ _ rfl _ _ _ rfl rfl (by simpa[q0a]using n) (by simpa[q0a]using q0b) (all_oneCell_toArray (q0j _ _ _ _ _ _)) ?_));refine(q0A _ _).mono ?_;rintro e W ⟨rfl,rfl⟩;go_wp2_with fail;go_roundw
   ·exact⟨k+1,_,1,l,by go_num,rfl,rfl,by omega,d.1,d.2,by omega,by omega,by omega,o.out,c,r,m,a⟩
   simp[intOf];omega
  have b1:(kd==1)=false:=by simpa using Y
  by_cases Z:kd=2
  ·subst Z;have a:Hid (Pg.cRun ps ⟨0,0,[]⟩=Pg.cRun (ps.drop (k+1)) ⟨0,0,(l++[Pg.capped (j+i)]).reverse⟩):=by show _=_;rw[b.out,List.reverse_append];rfl
   have F:∀y∈l++[Pg.capped (j+i)],0<=y/\y<=97:=by
    intro y hy;rcases List.mem_append.1 hy with h|h
    ·exact o.out y h
    simp only[List.mem_singleton]at h;subst h;exact d
   have s:Hid (∀y∈l++[Pg.capped (j+i)],0<=y/\y<=97):=F;clear b F;go_wp2_with (first|(with_reducible refine gld 261 ?_;refine wpList_load_mid rfl 261 _ rfl _ _ rfl _ _ D Tryz.underlying261 rfl (by rw[q0a];exact q0b) ?_)|(with_reducible refine gst 261 ?_;refine wpList_store_mid rfl 261 _ _ rfl _ _ _ rfl rfl (by simpa[q0a]using n) (by simpa[q0a]using q0b) (all_oneCell_toArray (q0j _ _ _ _ _ _)) ?_));refine(q0A _ _).mono ?_;rintro e W ⟨rfl,rfl⟩;generalize Pg.capped (j+i)=cc at *;generalize af:(wr.alloc (Obj.cells (partL 0 0 (λ_=>false) 0 0 0).toArray 261)).setCells wr.heap.size 0 (partL 2 pl f le mo fa)=W at *;clear af D hz hN n hM c0 c4 C;have B:=q0F c ((Below.refl _ _).alloc (Nat.le_refl _) (.cells #[.int .i64 cc] 3));have ab:=q0F r ((Below.refl _ _).alloc (Nat.le_refl _) (.cells #[.int .i64 cc] 3));have G:=m.alloc m.size (.cells #[.int .i64 cc] 3);have T:(W.alloc (.cells #[.int .i64 cc] 3)).cell? ⟨W.heap.size,0,none⟩=some (.int .i64 cc):=by rw[World.cell?_alloc_new];rfl
   go_wp2_with (first|(at_builtin;refine wpList_append_int (by rfl) _ _ (by rfl) w.heap.size u3 l (by rfl) B (by omega) W.heap.size cc (by rfl) T G.size ?_;intro g2 ak w5 ae t));have ac:=q9u ab B t (λq hq=>by cases hq;intro aj;have:=q6e B g aj;omega);go_roundw
   ·exact⟨k+1,0,0,l++[cc],by go_num,rfl,rfl,by omega,by omega,by omega,by omega,by omega,by simp;omega,s.out,by simpa using ae,ac,G.grown t G.size (q6e B),a⟩
   simp[intOf];omega
  have b2:(kd==2)=false:=by simpa using Z
  by_cases h3:kd=3
  ·subst h3;rcases List.eq_nil_or_concat l with hl|⟨A,x,hl⟩
   ·subst hl;have a:Hid (Pg.cRun ps ⟨0,0,[]⟩=Pg.cRun (ps.drop (k+1)) ⟨0,Pg.capped (j+i),([]:List Int).reverse⟩):=b;clear b;rcases c.2 with ⟨z,_⟩|⟨g3,J,K,z,_⟩
    ·subst z;go_wp2_with (first|(with_reducible refine gld 261 ?_;refine wpList_load_mid rfl 261 _ rfl _ _ rfl _ _ D Tryz.underlying261 rfl (by rw[q0a];exact q0b) ?_)|(with_reducible refine gst 261 ?_;refine wpList_store_mid rfl 261 _ _ rfl _ _ _ rfl rfl (by simpa[q0a]using n) (by simpa[q0a]using q0b) (all_oneCell_toArray (q0j _ _ _ _ _ _)) ?_));refine(q0A _ _).mono ?_;rintro e W ⟨rfl,rfl⟩;go_wp2_with fail;go_roundw
     ·exact⟨k+1,0,_,[],by go_num,rfl,rfl,by omega,by omega,by omega,d.1,d.2,by simp,by simp,c,r,m,a⟩
     simp[intOf];omega
    subst z;go_wp2_with (first|(with_reducible refine gld 261 ?_;refine wpList_load_mid rfl 261 _ rfl _ _ rfl _ _ D Tryz.underlying261 rfl (by rw[q0a];exact q0b) ?_)|(with_reducible refine gst 261 ?_;refine wpList_store_mid rfl 261 _ _ rfl _ _ _ rfl rfl (by simpa[q0a]using n) (by simpa[q0a]using q0b) (all_oneCell_toArray (q0j _ _ _ _ _ _)) ?_));refine(q0A _ _).mono ?_;rintro e W ⟨rfl,rfl⟩;go_wp2_with fail;go_roundw
    ·exact⟨k+1,0,_,[],by go_num,rfl,rfl,by omega,by omega,by omega,d.1,d.2,by simp,by simp,c,r,m,a⟩
    simp[intOf];omega
   subst hl;have a:Hid (Pg.cRun ps ⟨0,0,[]⟩=Pg.cRun (ps.drop (k+1)) ⟨x,Pg.capped (j+i),A.reverse⟩):=by show _=_;rw[b.out,List.concat_eq_append,List.reverse_append];rfl
   clear b;have hx:=o.out x (by simp);have s:Hid (∀y∈A,0<=y/\y<=97):=λy hy=>o.out y (by simp[hy])
   have E:(A.concat x).length=A.length+1:=by simp
   rw[E,List.concat_eq_append]at c;have an:A.length+1<=k:=by omega
   clear ag E o;rcases c.2 with ⟨_,h0⟩|⟨g3,J,K,z,al,au,am,_⟩
   ·omega
   subst z;have av:=q7f c rfl;have V:=q4B c;have i1:(0:Int)<(A.length:Int)+1:=by omega
   have i2:(0:Int)<=(A.length:Int)/\(A.length:Int)<(A.length:Int)+1:=by omega
   go_wp2_with (first|(with_reducible refine gld 261 ?_;refine wpList_load_mid rfl 261 _ rfl _ _ rfl _ _ D Tryz.underlying261 rfl (by rw[q0a];exact q0b) ?_)|(with_reducible refine gst 261 ?_;refine wpList_store_mid rfl 261 _ _ rfl _ _ _ rfl rfl (by simpa[q0a]using n) (by simpa[q0a]using q0b) (all_oneCell_toArray (q0j _ _ _ _ _ _)) ?_));refine(q0A _ _).mono ?_;rintro e W ⟨rfl,rfl⟩;go_wp2_with fail;go_roundw
   ·exact⟨k+1,x,_,A,by go_num,rfl,rfl,by omega,hx.1,hx.2,d.1,d.2,by omega,s.out,V,r,m,a⟩
   simp[intOf];omega
  have b3:(kd==3)=false:=by simpa using h3
  by_cases h4:kd=4
  ·subst h4;have a:Hid (Pg.cRun ps ⟨0,0,[]⟩=Pg.cRun (ps.drop (k+1)) ⟨Pg.capped (j+i),0,l.reverse⟩):=b;clear b;go_wp2_with (first|(with_reducible refine gld 261 ?_;refine wpList_load_mid rfl 261 _ rfl _ _ rfl _ _ D Tryz.underlying261 rfl (by rw[q0a];exact q0b) ?_)|(with_reducible refine gst 261 ?_;refine wpList_store_mid rfl 261 _ _ rfl _ _ _ rfl rfl (by simpa[q0a]using n) (by simpa[q0a]using q0b) (all_oneCell_toArray (q0j _ _ _ _ _ _)) ?_));refine(q0A _ _).mono ?_;rintro e W ⟨rfl,rfl⟩;go_wp2_with fail;go_roundw
   ·exact⟨k+1,_,0,l,by go_num,rfl,rfl,by omega,d.1,d.2,by omega,by omega,by omega,o.out,c,r,m,a⟩
   simp[intOf];omega
  have b4:(kd==4)=false:=by simpa using h4
  by_cases h8:kd=8
  ·subst h8;have ai:0<=i*mo:=Int.mul_nonneg Q I.1;have aw:i*mo<=97*9:=Int.mul_le_mul R I.2 I.1 (by omega);have N:=q3B (i*mo) ai;have a:Hid (Pg.cRun ps ⟨0,0,[]⟩=Pg.cRun (ps.drop (k+1)) ⟨j,Pg.capped (i*mo),l.reverse⟩):=b;clear b;go_wp2_with (first|(with_reducible refine gld 261 ?_;refine wpList_load_mid rfl 261 _ rfl _ _ rfl _ _ D Tryz.underlying261 rfl (by rw[q0a];exact q0b) ?_)|(with_reducible refine gst 261 ?_;refine wpList_store_mid rfl 261 _ _ rfl _ _ _ rfl rfl (by simpa[q0a]using n) (by simpa[q0a]using q0b) (all_oneCell_toArray (q0j _ _ _ _ _ _)) ?_));refine(q0A _ _).mono ?_;rintro e W ⟨rfl,rfl⟩;go_wp2_with fail;go_roundw
   ·exact⟨k+1,j,_,l,by go_num,rfl,rfl,by omega,L,M,N.1,N.2,by omega,o.out,c,r,m,a⟩
   simp[intOf];omega
  have b8:(kd==8)=false:=by simpa using h8
  have a:Hid (Pg.cRun ps ⟨0,0,[]⟩=Pg.cRun (ps.drop (k+1)) ⟨j,i,l.reverse⟩):=by
   show _=_;rw[b.out];simp only[Pg.cStep,if_neg Y,if_neg Z,if_neg h3,if_neg h4,if_neg h8]
  clear b Y Z h3 h4 h8;go_wp2_with (first|(with_reducible refine gld 261 ?_;refine wpList_load_mid rfl 261 _ rfl _ _ rfl _ _ D Tryz.underlying261 rfl (by rw[q0a];exact q0b) ?_)|(with_reducible refine gst 261 ?_;refine wpList_store_mid rfl 261 _ _ rfl _ _ _ rfl rfl (by simpa[q0a]using n) (by simpa[q0a]using q0b) (all_oneCell_toArray (q0j _ _ _ _ _ _)) ?_));go_roundw
  ·exact⟨k+1,j,i,l,by go_num,rfl,rfl,by omega,L,M,Q,R,by omega,o.out,c,r,m,a⟩
  simp[intOf];omega
 have P:¬(k:Int)<(ps.length:Int):=by omega
 have a:Hid (Pg.cRun ps ⟨0,0,[]⟩=⟨j,i,l.reverse⟩):=by show _=_;rw[X.out,List.drop_eq_nil_of_le (by omega)];rfl
 clear X;go_wp2_with fail;refine(q0A _ _).mono ?_;rintro e W ⟨rfl,rfl⟩;go_wp2_with fail;go_ret;exact⟨q0l (by rw[Pg.countPlaces,a.out]),hB⟩
theorem q8p (v:Value) (ps:List Pt) (base:Nat) (w:World) (hn:ps.length<=100) (hown:w.ownsRow base 261 261 v ps.length (flat ps)):
  Calls Tryz.prog 171 #[v] w λe w'=>e=.returned (.int .i64 (Pg.falling ps))/\Below w.heap.size w w':=by
 rcases hown.2 with ⟨rfl,A⟩|⟨g,cap,z,rfl,D,_⟩
 ·have:ps=[]:=List.eq_nil_of_length_eq_zero A;subst this;go_enter Tryz.func171,Tryz.ntmps171;go_wp2_with fail
  go_loop [7] (λx=>x=.int .i64 0) (λ_=>0)
  ·rfl
  subst hrel;go_wp2_with fail;go_ret;exact⟨rfl,Below.refl _ _⟩
 go_enter Tryz.func171,Tryz.ntmps171;go_wp2_with fail
 go_loopw [7] (λx w'=>∃(k:Nat),x=.int .i64 k/\k<=ps.length/\w'.ownsRow base 261 261 (.slice (some ⟨g,0,none⟩) ps.length cap) ps.length (flat ps)/\Below w.heap.size w w'/\Hid (Pg.falling ps=Pg.falling (ps.drop k))) (λx _=>101-(intOf x).toNat)
 ·exact⟨0,rfl,by omega,hown,Below.refl _ _,rfl⟩
 obtain⟨k,rfl,F,t,q,l⟩:=hrel;by_cases c:k<ps.length
 ·obtain⟨p,n⟩:∃p,ps[k]?=some p:=⟨ps[k],List.getElem?_eq_getElem c⟩;have j:ps.drop k=p::ps.drop (k+1):=by
   rw[List.drop_eq_getElem_cons c];congr 1;rw[List.getElem?_eq_getElem c]at n;exact Option.some.inj n
  have y:wr.rangeAt g (k*261) (partL p.kd p.pl p.f p.le p.mo p.fa):=q2d t k p n;have G:=q0Q wr;have s:=PRow.boxed wr 0 0 (λ_=>false) 0 0 0 261;have h:=s.free;have B:=s.put p.kd p.pl p.f p.le p.mo p.fa;have i:Below wr.heap.size wr ((wr.alloc (Obj.cells (partL 0 0 (λ_=>false) 0 0 0).toArray 261)).setCells wr.heap.size 0 (partL p.kd p.pl p.f p.le p.mo p.fa)):=((Below.refl _ _).alloc (Nat.le_refl _) _).trans (q0d wr.heap.size wr.heap.size 0 (Nat.le_refl _) _ _ 0);have r:=q0F t i;have d:=q.trans (i.mono q.size);have u:(k:Int)<(ps.length:Int):=by omega
  have a:Hid (Pg.falling ps=if p.fa=-1 then Pg.falling (ps.drop (k+1)) else p.fa):=by show _=_;rw[l.out,j,Pg.falling]
  clear l j n;obtain⟨kd,pl,f,le,mo,fa⟩:=p;simp only at *;have c5:=B.c5;by_cases m:fa=-1
  ·subst m;have b:Hid (Pg.falling ps=Pg.falling (ps.drop (k+1))):=by show _=_;rw[a.out,if_pos rfl]
   clear a;go_wp2_with (first|(with_reducible refine gld 261 ?_;refine wpList_load_mid rfl 261 _ rfl _ _ rfl _ _ y Tryz.underlying261 rfl (by rw[q0a];exact q0b) ?_)|(with_reducible refine gst 261 ?_;refine wpList_store_mid rfl 261 _ _ rfl _ _ _ rfl rfl (by simpa[q0a]using h) (by simpa[q0a]using q0b) (all_oneCell_toArray (q0j _ _ _ _ _ _)) ?_));go_roundw
   ·exact⟨k+1,by go_num,by omega,r,d,b⟩
   simp[intOf];omega
  have b:Hid (Pg.falling ps=fa):=by show _=_;rw[a.out,if_neg m]
  have C:(fa != -1)=true:=by simpa using m
  clear a m;go_wp2_with (first|(with_reducible refine gld 261 ?_;refine wpList_load_mid rfl 261 _ rfl _ _ rfl _ _ y Tryz.underlying261 rfl (by rw[q0a];exact q0b) ?_)|(with_reducible refine gst 261 ?_;refine wpList_store_mid rfl 261 _ _ rfl _ _ _ rfl rfl (by simpa[q0a]using h) (by simpa[q0a]using q0b) (all_oneCell_toArray (q0j _ _ _ _ _ _)) ?_));go_ret;exact⟨q0l b.out.symm,d⟩
 have E:¬(k:Int)<(ps.length:Int):=by omega
 have o:Hid (Pg.falling ps=-1):=by show _=_;rw[l.out,List.drop_eq_nil_of_le (by omega)];rfl
 clear l;go_wp2_with fail;go_ret;exact⟨q0l o.out.symm,q⟩
theorem q6l (v:Value) (ps:List Pt) (base:Nat) (w:World) (hn:ps.length<=100) (hown:w.ownsRow base 261 261 v ps.length (flat ps)):
  Calls Tryz.prog 172 #[v] w λe w'=>e=.returned (.int .i64 (Pg.matchless ps))/\Below w.heap.size w w':=by
 rcases hown.2 with ⟨rfl,I⟩|⟨g,cap,H,rfl,J,_⟩
 ·have:ps=[]:=List.eq_nil_of_length_eq_zero I;subst this;go_enter Tryz.func172,Tryz.ntmps172;go_wp2_with fail
  go_loop [7] (λx=>x=.int .i64 0) (λ_=>0)
  ·rfl
  subst hrel;go_wp2_with fail;go_ret;exact⟨rfl,Below.refl _ _⟩
 go_enter Tryz.func172,Tryz.ntmps172;go_wp2_with fail
 go_loopw [7] (λx w'=>∃(k:Nat),x=.int .i64 k/\k<=ps.length/\w'.ownsRow base 261 261 (.slice (some ⟨g,0,none⟩) ps.length cap) ps.length (flat ps)/\Below w.heap.size w w'/\Hid (Pg.matchless ps=Pg.matchless (ps.drop k))) (λx _=>101-(intOf x).toNat)
 ·exact⟨0,rfl,by omega,hown,Below.refl _ _,rfl⟩
 obtain⟨k,rfl,N,E,A,s⟩:=hrel;by_cases j:k<ps.length
 ·obtain⟨p,y⟩:∃p,ps[k]?=some p:=⟨ps[k],List.getElem?_eq_getElem j⟩;have r:ps.drop k=p::ps.drop (k+1):=by
   rw[List.drop_eq_getElem_cons j];congr 1;rw[List.getElem?_eq_getElem j]at y;exact Option.some.inj y
  have G:wr.rangeAt g (k*261) (partL p.kd p.pl p.f p.le p.mo p.fa):=q2d E k p y;have O:=q0Q wr;have D:=PRow.boxed wr 0 0 (λ_=>false) 0 0 0 261;have n:=D.free;have u:=D.put p.kd p.pl p.f p.le p.mo p.fa;have q:Below wr.heap.size wr ((wr.alloc (Obj.cells (partL 0 0 (λ_=>false) 0 0 0).toArray 261)).setCells wr.heap.size 0 (partL p.kd p.pl p.f p.le p.mo p.fa)):=((Below.refl _ _).alloc (Nat.le_refl _) _).trans (q0d wr.heap.size wr.heap.size 0 (Nat.le_refl _) _ _ 0);have o:=q0F E q;have d:=A.trans (q.mono A.size);have F:(k:Int)<(ps.length:Int):=by omega
  have a:Hid (Pg.matchless ps=if p.kd=1/\Rf.cntTo p.f 256=0 then p.pl else Pg.matchless (ps.drop (k+1))):=by show _=_;rw[s.out,r,Pg.matchless]
  clear s r y;obtain⟨kd,pl,f,le,mo,fa⟩:=p;simp only at *;have c0:=u.c0;by_cases t:kd=1
  ·subst t;go_wp2_with (first|(with_reducible refine gld 261 ?_;refine wpList_load_mid rfl 261 _ rfl _ _ rfl _ _ G Tryz.underlying261 rfl (by rw[q0a];exact q0b) ?_)|(with_reducible refine gst 261 ?_;refine wpList_store_mid rfl 261 _ _ rfl _ _ _ rfl rfl (by simpa[q0a]using n) (by simpa[q0a]using q0b) (all_oneCell_toArray (q0j _ _ _ _ _ _)) ?_)|(with_reducible refine gld 251 ?_;refine q3F (by kernel_rfl) 251 _ rfl _ _ rfl _ _ u.set Tryz.underlying251 rfl (by rw[q0k];exact q0y) ?_;simp only[psm]));refine(q8h f _).mono ?_;rintro e L ⟨rfl,i⟩;have B:=u.below u.lt i;have c1:=B.c1;have C:=q0F o i;have m:=d.trans (i.mono d.size);by_cases l:Rf.cntTo f 256=0
   ·have c:(Rf.cntTo f 256==0)=true:=by simpa using l
    have b:Hid (Pg.matchless ps=pl):=by show _=_;rw[a.out];simp[l]
    rw[c];clear a l c;go_wp2_with fail;go_ret;exact⟨q0l b.out.symm,m⟩
   have c:(Rf.cntTo f 256==0)=false:=by simpa using l
   have b:Hid (Pg.matchless ps=Pg.matchless (ps.drop (k+1))):=by show _=_;rw[a.out,if_neg (λh=>l h.2)]
   rw[c];clear a l c;go_wp2_with fail;go_roundw
   ·exact⟨k+1,by go_num,by omega,C,m,b⟩
   simp[intOf];omega
  have b:Hid (Pg.matchless ps=Pg.matchless (ps.drop (k+1))):=by show _=_;rw[a.out,if_neg (λh=>t h.1)]
  have M:(kd==1)=false:=by simpa using t
  clear a t;go_wp2_with (first|(with_reducible refine gld 261 ?_;refine wpList_load_mid rfl 261 _ rfl _ _ rfl _ _ G Tryz.underlying261 rfl (by rw[q0a];exact q0b) ?_)|(with_reducible refine gst 261 ?_;refine wpList_store_mid rfl 261 _ _ rfl _ _ _ rfl rfl (by simpa[q0a]using n) (by simpa[q0a]using q0b) (all_oneCell_toArray (q0j _ _ _ _ _ _)) ?_));go_roundw
  ·exact⟨k+1,by go_num,by omega,o,d,b⟩
  simp[intOf];omega
 have K:¬(k:Int)<(ps.length:Int):=by omega
 have z:Hid (Pg.matchless ps=-1):=by show _=_;rw[s.out,List.drop_eq_nil_of_le (by omega)];rfl
 clear s;go_wp2_with fail;go_ret;exact⟨q0l z.out.symm,A⟩
def PPost (w:World) (s:ByteArray) (e:Ending) (w':World):Prop:=
 ∃(v:Value) (ps:List Pt),e=.returned (.tuple #[v,.int .i64 (Pg.wrong (bat s) s.size).1,.int .i64 (Pg.wrong (bat s) s.size).2])/\Below w.heap.size w w' /\
  ((Pg.wrong (bat s) s.size).1=0->w'.ownsRow w.heap.size 261 261 v ps.length (flat ps)/\ps.map Pt.strip=(Pg.readParts (bat s) s.size).ps/\ps.length<=100/\LeOK s ps)
theorem q4Z (s:ByteArray) (w:World) (hm:s.size<=maxLen):Calls Tryz.prog 125 #[.string s] w (PPost w s):=by
 unfold maxLen at hm;by_cases K:40<s.size
 ·have a:Hid (Pg.wrong (bat s) s.size=(2,0)):=by show _=_;rw[Pg.wrong,if_pos (by omega)]
  go_enter Tryz.func125,Tryz.ntmps125;go_wp2_with fail;go_ret3;refine⟨_,[],by rw[a.out];rfl,Below.refl _ _,λh=>?_⟩;rw[a.out]at h;cases h
 have hs:s.size<=40:=by omega
 have f:Hid (Pg.wrong (bat s) s.size=if (Pg.readParts (bat s) s.size).ok then (if Pg.tooDeep (Pg.readParts (bat s) s.size).ps 0=-1 then (if Pg.falling (Pg.readParts (bat s) s.size).ps=-1 then (if Pg.matchless (Pg.readParts (bat s) s.size).ps=-1 then (0,0) else (6,Pg.matchless (Pg.readParts (bat s) s.size).ps)) else (5,Pg.falling (Pg.readParts (bat s) s.size).ps)) else (4,Pg.tooDeep (Pg.readParts (bat s) s.size).ps 0)) else (3,(Pg.readParts (bat s) s.size).n)):=by show _=_;rw[Pg.wrong,if_neg (by omega)]
 clear hm;go_enter Tryz.func125,Tryz.ntmps125;go_wp2_with fail;refine(q6b s _ hs).mono ?_;rintro e w1 ⟨v,ps,rfl,j,y⟩;generalize p:Pg.readParts (bat s) s.size=R at *;have E:Hid (Pg.readParts (bat s) s.size=R):=p;clear p;obtain⟨n,ok,d⟩:=R;have k:Hid (ok=true->w1.ownsRow w.heap.size 261 261 v ps.length (flat ps)/\ps.map Pt.strip=d/\ps.length<=100/\LeOK s ps):=y;clear y;cases ok
 ·have a:Hid (Pg.wrong (bat s) s.size=(3,n)):=f;go_wp2_with fail;go_ret3;refine⟨_,[],by rw[a.out];rfl,j,λh=>?_⟩;rw[a.out]at h;cases h
 obtain⟨J,c,C,x⟩:=k.out rfl;have D:Hid (LeOK s ps):=x;clear x;have H:Pg.tooDeep d 0=Pg.tooDeep ps 0:=by rw[<-c,Pg.tooDeep_strip]
 have e2:Pg.falling d=Pg.falling ps:=by rw[<-c,Pg.falling_strip]
 have I:Pg.matchless d=Pg.matchless ps:=by rw[<-c,Pg.matchless_strip]
 have b:Hid (Pg.wrong (bat s) s.size=if Pg.tooDeep ps 0=-1 then (if Pg.falling ps=-1 then (if Pg.matchless ps=-1 then (0,0) else (6,Pg.matchless ps)) else (5,Pg.falling ps)) else (4,Pg.tooDeep ps 0)):=by
  show _=_;have:=f.out;simp only[if_true]at this;rw[H,e2,I]at this;exact this
 have F:=hyd c;clear f H e2 I k c;go_wp2_with fail;refine(q7F v ps _ _ C J).mono ?_;rintro e w2 ⟨rfl,q⟩;have m:=q0F J q;have g:=j.trans (q.mono j.size);generalize Pg.tooDeep ps 0=td at *;by_cases z:td=-1
 ·subst z;go_wp2_with fail;refine(q8p v ps _ _ C m).mono ?_;rintro e L ⟨rfl,r⟩;have o:=q0F m r;have i:=g.trans (r.mono g.size);generalize Pg.falling ps=fl at *;by_cases A:fl=-1
  ·subst A;go_wp2_with fail;refine(q6l v ps _ _ C o).mono ?_;rintro e M ⟨rfl,t⟩;have G:=q0F o t;have l:=i.trans (t.mono i.size);generalize Pg.matchless ps=ml at *;by_cases B:ml=-1
   ·subst B;have a:Hid (Pg.wrong (bat s) s.size=(0,0)):=b;go_wp2_with fail;go_ret3;exact⟨v,ps,by rw[a.out];rfl,l,λ_=>⟨G,by rw[E.out];exact F.out,C,D.out⟩⟩
   have a:Hid (Pg.wrong (bat s) s.size=(6,ml)):=by show _=_;rw[b.out];simp[B]
   have u:(ml != -1)=true:=by simpa using B
   clear B b;go_wp2_with fail;go_ret3;refine⟨_,[],by rw[a.out];rfl,l,λh=>?_⟩;rw[a.out]at h;cases h
  have a:Hid (Pg.wrong (bat s) s.size=(5,fl)):=by show _=_;rw[b.out];simp[A]
  have u:(fl != -1)=true:=by simpa using A
  clear A b;go_wp2_with fail;go_ret3;refine⟨_,[],by rw[a.out];rfl,i,λh=>?_⟩;rw[a.out]at h;cases h
 have a:Hid (Pg.wrong (bat s) s.size=(4,td)):=by show _=_;rw[b.out];simp[z]
 have u:(td != -1)=true:=by simpa using z
 clear z b;go_wp2_with fail;go_ret3;refine⟨_,[],by rw[a.out];rfl,g,λh=>?_⟩;rw[a.out]at h;cases h
end Go.Proofs.YtoaaklhpmhjhkaaGreat
