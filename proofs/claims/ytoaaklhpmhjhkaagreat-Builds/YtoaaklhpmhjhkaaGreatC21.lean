import Derived.Test.YtoaaklhpmhjhkaaGreatC20
set_option maxRecDepth 100000
set_option maxHeartbeats 4000000
set_option linter.all false
namespace Go.Proofs.YtoaaklhpmhjhkaaGreat
open Go.RowKit
open Pg (Pt)
def PS (ad:Option Addr) (ps:List Pt) (w:World):Prop:=∀(k:Nat) (p:Pt),ps[k]?=some p->∃g o,ad=some ⟨g,o,none⟩/\w.rangeAt g (o+k*261) (Pt.cells p)
variable {ps : List Pt}{B cap g m n : Nat}{ad : Option Addr}{w w' : World}
theorem PS.keep (h:PS ad ps w) (hk:∀g o,ad=some ⟨g,o,none⟩->w'.heap[g]?=w.heap[g]?):PS ad ps w':=λk p b=>by
 obtain⟨g,o,e,c⟩:=h k p b;refine⟨g,o,e,λj v d=>?_⟩;rw[World.cell?_of_block (w:=w) (a:=⟨g,o+k*261+j,none⟩) (hk g o e)];exact c j v d
theorem PS.below (h:PS ad ps w) (hW:Below w.heap.size w w'):PS ad ps w':=λk p a=>by
 obtain⟨g,o,e,b⟩:=h k p a;refine⟨g,o,e,λj v c=>?_⟩;have:=b j v c;rw[hW.cell (p:=⟨g,o+k*261+j,none⟩) (World.block_lt_of_cell? w _ this)];exact this
def slA (ad:Option Addr) (cap l:Nat):Option Addr:=if cap=l then ad else ad.map (·.add (l*261))
theorem PS.sub (h:PS ad ps w) (l n:Nat) (hn:l+n<=ps.length) (hc:ps.length<=cap):PS (slA ad cap l) ((ps.drop l).take n) w:=λk p a=>by
 have b:k<n:=by
  have:=(List.getElem?_eq_some_iff.1 a).1;simp at this;omega
 rw[List.getElem?_take,if_pos b,List.getElem?_drop]at a;obtain⟨g,o,e,c⟩:=h (l+k) p a;refine⟨g,o+l*261,?_,?_⟩
 ·rw[slA,if_neg (by omega),e,Option.map_some,Addr.add_mid]
 rw[show o+l*261+k*261=o+(l+k)*261 by rw[Nat.add_mul];omega];exact c
theorem q1G {ops : Array Oper} {rest : List Oper} {op : Oper} {a : Act} {w : World} {Q : Exit -> Act -> World -> Prop} (hgd : op.guard = none) (x : Operand) (lo hi : Option Operand) (ho : op.op = .slice 194 x lo hi none)
  (ad : Option Addr) (len cap : Nat) (hx : a.eval x = .slice ad len cap) (l h : Nat) (hl : (lo = none /\ l = 0) \/ ∃y, lo = some y /\ a.eval y = .int .i64 l) (hh : (hi = none /\ h = len) \/ ∃y, hi = some y /\ a.eval y = .int .i64 h) (h1 : l <= h) (h2 : h <= cap)
  (hk : wpList Tryz.prog ops Q rest (a.put op.dst (.slice (slA ad cap l) (h-l) (cap-l))) w) : wpList Tryz.prog ops Q (op::rest) a w :=
 wpList_plain hgd λ_ e => by
  have hs : (sizeOf 261).run Tryz.prog w = .ok 261 w := by kernel_rfl
  have f : (Instr.slice 194 (.slice ad len cap) (lo.map a.eval) (hi.map a.eval) none).run Tryz.prog w = .ok (.slice (slA ad cap l) (h-l) (cap-l)) w := by
   have g : ∀c, (Instr.sliceBound (.int .i64 (h : Int)) cap c).run Tryz.prog w = .ok h w := λc => by simp [Instr.sliceBound, asIntOf, Sem.run_ite]; omega
   have e2 : ∀c, (Instr.sliceBound (.int .i64 (l : Int)) h c).run Tryz.prog w = .ok l w := λc => by simp [Instr.sliceBound, asIntOf, Sem.run_ite]; omega
   have d : (Instr.sliceBounds true len cap (lo.map a.eval) (hi.map a.eval) none).run Tryz.prog w = .ok (l, h, cap) w := by
    rcases hl with ⟨rfl, rfl⟩|⟨y, rfl, i⟩<;>rcases hh with ⟨rfl, rfl⟩|⟨z, rfl, j⟩<;>simp [Instr.sliceBounds, Sem.run_bind, *]
   simp only [Instr.slice, Sem.run_bind, run_underlying Tryz.underlying194, Result.andThen_ok, d, hs, Sem.run_pure];rfl
  have b : (Instr.sliceAt 194 (.slice ad len cap) (lo.map a.eval) (hi.map a.eval) none).run Tryz.prog w = .ok (.slice (slA ad cap l) (h-l) (cap-l)) w := by
   simp only [Instr.sliceAt, Sem.run_bind, run_underlying Tryz.underlying194, Result.andThen_ok];exact f
  unfold Oper.wp execOp;simp only [ho, hx, Sem.run_bind, Option.map_none, b, Result.andThen_ok, Sem.run_pure];exact e _ _ hk
theorem q7w (ad:Option Addr) (cap:Nat) (ps:List Pt) (w:World) (hn:ps.length<=100) (hP:PS ad ps w) (hmo:∀p∈ps,0<=p.mo/\p.mo<=9):
  Calls Tryz.prog 168 #[.slice ad ps.length cap] w λe w'=>e=.returned (.int .i64 (Pg.countPlaces ps))/\Below w.heap.size w w':=by
 rcases ps with _|⟨p0,X⟩
 ·go_enter Tryz.func168,Tryz.ntmps168;go_wp2_with fail
  go_loop [4,5,11] (λxa xl x=>xa=.int .i64 0/\xl=.int .i64 0/\x=.int .i64 0) (λ_ _ _=>0)
  ·exact⟨rfl,rfl,rfl⟩
  obtain⟨rfl,rfl,rfl⟩:=hrel;go_wp2_with fail;refine(q0A _ _).mono ?_;rintro e W ⟨rfl,rfl⟩;go_wp2_with fail;go_ret;exact⟨rfl,Below.refl _ _⟩
 obtain⟨g,o,rfl,V⟩:=hP 0 p0 rfl;have ae:g<w.heap.size:=World.block_lt_of_cell? w ⟨g,o+0*261+0,none⟩ (V 0 _ rfl);have HP:Hid (∀w',Below w.heap.size w w'->∀(k:Nat) (p:Pt),(p0::X)[k]?=some p->w'.rangeAt g (o+k*261) (partL p.kd p.pl p.f p.le p.mo p.fa)):=λw' hW k p G=>by
  obtain⟨g',o',e,h⟩:=hP k p G;cases e;exact λj v hv=>by rw[hW.cell (p:=⟨g,o+k*261+j,none⟩) ae];exact h j v hv
 obtain⟨ps,U⟩:=nam (p0::X);rw[<-U]at HP hn hmo ⊢;clear hP V U;have aa:=hyd hmo;clear hmo;go_enter Tryz.func168,Tryz.ntmps168;go_wp2_with fail
 go_loopw [3,4,5,11] (λvo xa xl x w'=>∃(k:Nat) (m i:Int) (l:List Int),x=.int .i64 k/\xa=.int .i64 m/\xl=.int .i64 i/\k<=ps.length/\0<=m/\m<=97/\0<=i/\i<=97/\l.length<=k/\(∀y∈l,0<=y/\y<=97)/\w'.ownsRow w.heap.size 3 1 vo l.length (nums l)/\Below w.heap.size w w'/\Hid (Pg.cRun ps ⟨0,0,[]⟩=Pg.cRun (ps.drop k) ⟨m,i,l.reverse⟩)) (λ_ _ _ x _=>101-(intOf x).toNat)
 ·exact⟨0,0,0,[],rfl,rfl,rfl,by omega,by omega,by omega,by omega,by omega,by simp,by simp,⟨rfl,Or.inl ⟨rfl,rfl⟩⟩,Below.refl _ _,rfl⟩
 obtain⟨k,m,i,l,rfl,rfl,rfl,hk,L,M,P,Q,af,R,hV,hB,Y⟩:=hrel;have r:=hyd R;clear R;have d:=q3B (m+i) (by omega);by_cases F:k<ps.length
 ·obtain⟨p,G⟩:∃p,ps[k]?=some p:=⟨ps[k],List.getElem?_eq_getElem F⟩;have O:ps.drop k=p::ps.drop (k+1):=by
   rw[List.drop_eq_getElem_cons F];congr 1;rw[List.getElem?_eq_getElem F]at G;exact Option.some.inj G
  have z:=HP.out wr hB k p G;have hz:=q0Q wr;have hN:=PRow.boxed wr 0 0 (λ_=>false) 0 0 0 261;have q:=hN.free;have hM:=hN.put p.kd p.pl p.f p.le p.mo p.fa;have D:Below wr.heap.size wr ((wr.alloc (Obj.cells (partL 0 0 (λ_=>false) 0 0 0).toArray 261)).setCells wr.heap.size 0 (partL p.kd p.pl p.f p.le p.mo p.fa)):=((Below.refl _ _).alloc (Nat.le_refl _) _).trans (q0d wr.heap.size wr.heap.size 0 (Nat.le_refl _) _ _ 0);have n:=hB.trans (D.mono hB.size);have am:(k:Int)<(ps.length:Int):=by omega
  have c:=q0F hV D;have b:Hid (Pg.cRun ps ⟨0,0,[]⟩=Pg.cRun (ps.drop (k+1)) (Pg.cStep ⟨m,i,l.reverse⟩ p)):=by show _=_;rw[Y.out,O,Pg.cRun]
  have H:=aa.out p (by have:=List.mem_of_getElem? G;exact this);clear Y O G;obtain⟨kd,pl,f,le,mo,fa⟩:=p;simp only at *;have c0:=hM.c0;have c4:=hM.c4;by_cases Z:kd=1
  ·subst Z;have a:Hid (Pg.cRun ps ⟨0,0,[]⟩=Pg.cRun (ps.drop (k+1)) ⟨Pg.capped (m+i),1,l.reverse⟩):=b;clear b;go_wp2_with (first|(with_reducible refine gld 261 ?_;refine wpList_load_mid rfl 261 _ rfl _ _ rfl _ _ z Tryz.underlying261 rfl (by rw[q0a];exact q0b) ?_)|(with_reducible refine gst 261 ?_;refine wpList_store_mid rfl 261 _ _ rfl _ _ _ rfl rfl (by simpa[q0a]using q) (by simpa[q0a]using q0b) (all_oneCell_toArray (q0j _ _ _ _ _ _)) ?_));refine(q0A _ _).mono ?_;rintro e W ⟨rfl,rfl⟩;go_wp2_with fail;go_roundw
   ·exact⟨k+1,_,1,l,by go_num,rfl,rfl,by omega,d.1,d.2,by omega,by omega,by omega,r.out,c,n,a⟩
   simp[intOf];omega
  have b1:(kd==1)=false:=by simpa using Z
  by_cases h2:kd=2
  ·subst h2;have a:Hid (Pg.cRun ps ⟨0,0,[]⟩=Pg.cRun (ps.drop (k+1)) ⟨0,0,(l++[Pg.capped (m+i)]).reverse⟩):=by show _=_;rw[b.out,List.reverse_append];rfl
   have B:∀y∈l++[Pg.capped (m+i)],0<=y/\y<=97:=by
    intro y hy;rcases List.mem_append.1 hy with h|h
    ·exact r.out y h
    simp only[List.mem_singleton]at h;subst h;exact d
   have s:=hyd B;clear b B;go_wp2_with (first|(with_reducible refine gld 261 ?_;refine wpList_load_mid rfl 261 _ rfl _ _ rfl _ _ z Tryz.underlying261 rfl (by rw[q0a];exact q0b) ?_)|(with_reducible refine gst 261 ?_;refine wpList_store_mid rfl 261 _ _ rfl _ _ _ rfl rfl (by simpa[q0a]using q) (by simpa[q0a]using q0b) (all_oneCell_toArray (q0j _ _ _ _ _ _)) ?_));refine(q0A _ _).mono ?_;rintro e W ⟨rfl,rfl⟩;generalize Pg.capped (m+i)=cc at *;generalize ac:(wr.alloc (Obj.cells (partL 0 0 (λ_=>false) 0 0 0).toArray 261)).setCells wr.heap.size 0 (partL 2 pl f le mo fa)=W at *;clear ac z hz hN q hM c0 c4 D;have K:=q0F c ((Below.refl _ _).alloc (Nat.le_refl _) (.cells #[.int .i64 cc] 3));have C:=n.alloc n.size (.cells #[.int .i64 cc] 3);have S:(W.alloc (.cells #[.int .i64 cc] 3)).cell? ⟨W.heap.size,0,none⟩=some (.int .i64 cc):=by rw[World.cell?_alloc_new];rfl
   go_wp2_with (first|(at_builtin;refine wpList_append_int (by rfl) _ _ (by rfl) w.heap.size u3 l (by rfl) K (by omega) W.heap.size cc (by rfl) S C.size ?_;intro g2 ai w5 ab E));go_roundw
   ·exact⟨k+1,0,0,l++[cc],by go_num,rfl,rfl,by omega,by omega,by omega,by omega,by omega,by simp;omega,s.out,by simpa using ab,C.grown E C.size (q6e K),a⟩
   simp[intOf];omega
  have b2:(kd==2)=false:=by simpa using h2
  by_cases h3:kd=3
  ·subst h3;rcases List.eq_nil_or_concat l with hl|⟨u,x,hl⟩
   ·subst hl;have a:Hid (Pg.cRun ps ⟨0,0,[]⟩=Pg.cRun (ps.drop (k+1)) ⟨0,Pg.capped (m+i),([]:List Int).reverse⟩):=b;clear b;rcases c.2 with ⟨t,_⟩|⟨g3,I,J,t,_⟩
    ·subst t;go_wp2_with (first|(with_reducible refine gld 261 ?_;refine wpList_load_mid rfl 261 _ rfl _ _ rfl _ _ z Tryz.underlying261 rfl (by rw[q0a];exact q0b) ?_)|(with_reducible refine gst 261 ?_;refine wpList_store_mid rfl 261 _ _ rfl _ _ _ rfl rfl (by simpa[q0a]using q) (by simpa[q0a]using q0b) (all_oneCell_toArray (q0j _ _ _ _ _ _)) ?_));refine(q0A _ _).mono ?_;rintro e W ⟨rfl,rfl⟩;go_wp2_with fail;go_roundw
     ·exact⟨k+1,0,_,[],by go_num,rfl,rfl,by omega,by omega,by omega,d.1,d.2,by simp,by simp,c,n,a⟩
     simp[intOf];omega
    subst t;go_wp2_with (first|(with_reducible refine gld 261 ?_;refine wpList_load_mid rfl 261 _ rfl _ _ rfl _ _ z Tryz.underlying261 rfl (by rw[q0a];exact q0b) ?_)|(with_reducible refine gst 261 ?_;refine wpList_store_mid rfl 261 _ _ rfl _ _ _ rfl rfl (by simpa[q0a]using q) (by simpa[q0a]using q0b) (all_oneCell_toArray (q0j _ _ _ _ _ _)) ?_));refine(q0A _ _).mono ?_;rintro e W ⟨rfl,rfl⟩;go_wp2_with fail;go_roundw
    ·exact⟨k+1,0,_,[],by go_num,rfl,rfl,by omega,by omega,by omega,d.1,d.2,by simp,by simp,c,n,a⟩
    simp[intOf];omega
   subst hl;have a:Hid (Pg.cRun ps ⟨0,0,[]⟩=Pg.cRun (ps.drop (k+1)) ⟨x,Pg.capped (m+i),u.reverse⟩):=by show _=_;rw[b.out,List.concat_eq_append,List.reverse_append];rfl
   clear b;have hx:=r.out x (by simp);have s:Hid (∀y∈u,0<=y/\y<=97):=λy hy=>r.out y (by simp[hy])
   have A:(u.concat x).length=u.length+1:=by simp
   rw[A,List.concat_eq_append]at c;have al:u.length+1<=k:=by omega
   clear af A r;rcases c.2 with ⟨_,h0⟩|⟨g3,I,J,t,aj,ao,ak,_⟩
   ·omega
   subst t;have ap:=q7f c rfl;have T:=q4B c;have i1:(0:Int)<(u.length:Int)+1:=by omega
   have i2:(0:Int)<=(u.length:Int)/\(u.length:Int)<(u.length:Int)+1:=by omega
   go_wp2_with (first|(with_reducible refine gld 261 ?_;refine wpList_load_mid rfl 261 _ rfl _ _ rfl _ _ z Tryz.underlying261 rfl (by rw[q0a];exact q0b) ?_)|(with_reducible refine gst 261 ?_;refine wpList_store_mid rfl 261 _ _ rfl _ _ _ rfl rfl (by simpa[q0a]using q) (by simpa[q0a]using q0b) (all_oneCell_toArray (q0j _ _ _ _ _ _)) ?_));refine(q0A _ _).mono ?_;rintro e W ⟨rfl,rfl⟩;go_wp2_with fail;go_roundw
   ·exact⟨k+1,x,_,u,by go_num,rfl,rfl,by omega,hx.1,hx.2,d.1,d.2,by omega,s.out,T,n,a⟩
   simp[intOf];omega
  have b3:(kd==3)=false:=by simpa using h3
  by_cases h4:kd=4
  ·subst h4;have a:Hid (Pg.cRun ps ⟨0,0,[]⟩=Pg.cRun (ps.drop (k+1)) ⟨Pg.capped (m+i),0,l.reverse⟩):=b;clear b;go_wp2_with (first|(with_reducible refine gld 261 ?_;refine wpList_load_mid rfl 261 _ rfl _ _ rfl _ _ z Tryz.underlying261 rfl (by rw[q0a];exact q0b) ?_)|(with_reducible refine gst 261 ?_;refine wpList_store_mid rfl 261 _ _ rfl _ _ _ rfl rfl (by simpa[q0a]using q) (by simpa[q0a]using q0b) (all_oneCell_toArray (q0j _ _ _ _ _ _)) ?_));refine(q0A _ _).mono ?_;rintro e W ⟨rfl,rfl⟩;go_wp2_with fail;go_roundw
   ·exact⟨k+1,_,0,l,by go_num,rfl,rfl,by omega,d.1,d.2,by omega,by omega,by omega,r.out,c,n,a⟩
   simp[intOf];omega
  have b4:(kd==4)=false:=by simpa using h4
  by_cases h8:kd=8
  ·subst h8;have ag:=Int.mul_nonneg P H.1;have aq:i*mo<=97*9:=Int.mul_le_mul Q H.2 H.1 (by omega);have N:=q3B (i*mo) ag;have a:Hid (Pg.cRun ps ⟨0,0,[]⟩=Pg.cRun (ps.drop (k+1)) ⟨m,Pg.capped (i*mo),l.reverse⟩):=b;clear b;go_wp2_with (first|(with_reducible refine gld 261 ?_;refine wpList_load_mid rfl 261 _ rfl _ _ rfl _ _ z Tryz.underlying261 rfl (by rw[q0a];exact q0b) ?_)|(with_reducible refine gst 261 ?_;refine wpList_store_mid rfl 261 _ _ rfl _ _ _ rfl rfl (by simpa[q0a]using q) (by simpa[q0a]using q0b) (all_oneCell_toArray (q0j _ _ _ _ _ _)) ?_));refine(q0A _ _).mono ?_;rintro e W ⟨rfl,rfl⟩;go_wp2_with fail;go_roundw
   ·exact⟨k+1,m,_,l,by go_num,rfl,rfl,by omega,L,M,N.1,N.2,by omega,r.out,c,n,a⟩
   simp[intOf];omega
  have b8:(kd==8)=false:=by simpa using h8
  have a:Hid (Pg.cRun ps ⟨0,0,[]⟩=Pg.cRun (ps.drop (k+1)) ⟨m,i,l.reverse⟩):=by
   show _=_;rw[b.out];simp only[Pg.cStep,if_neg Z,if_neg h2,if_neg h3,if_neg h4,if_neg h8]
  clear b Z h2 h3 h4 h8;go_wp2_with (first|(with_reducible refine gld 261 ?_;refine wpList_load_mid rfl 261 _ rfl _ _ rfl _ _ z Tryz.underlying261 rfl (by rw[q0a];exact q0b) ?_)|(with_reducible refine gst 261 ?_;refine wpList_store_mid rfl 261 _ _ rfl _ _ _ rfl rfl (by simpa[q0a]using q) (by simpa[q0a]using q0b) (all_oneCell_toArray (q0j _ _ _ _ _ _)) ?_));go_roundw
  ·exact⟨k+1,m,i,l,by go_num,rfl,rfl,by omega,L,M,P,Q,by omega,r.out,c,n,a⟩
  simp[intOf];omega
 have an:¬(k:Int)<(ps.length:Int):=by omega
 have a:Hid (Pg.cRun ps ⟨0,0,[]⟩=⟨m,i,l.reverse⟩):=by show _=_;rw[Y.out,List.drop_eq_nil_of_le (by omega)];rfl
 clear Y;go_wp2_with fail;refine(q0A _ _).mono ?_;rintro e W ⟨rfl,rfl⟩;go_wp2_with fail;go_ret;exact⟨q0l (by rw[Pg.countPlaces,a.out]),hB⟩
def rowE:List Pt->Int->Nat->Nat
 |[],_,i=>i
 |p::ps,op,i=>if p.kd=4/\op=0 then i else rowE ps (op+Pg.opn p.kd) (i+1)
def atomE:List Pt->Int->Nat->Nat
 |[],_,i=>i
 |p::ps,op,i=>if op+Pg.opn p.kd=0 then i+1 else atomE ps (op+Pg.opn p.kd) (i+1)
theorem q9m (ad:Option Addr) (cap:Nat) (ps:List Pt) (w:World) (hn:ps.length<=100) (hP:PS ad ps w):
  Calls Tryz.prog 198 #[.slice ad ps.length cap] w λe w'=>e=.returned (.int .i64 (rowE ps 0 0:Nat))/\Below w.heap.size w w':=by
 rcases ps with _|⟨H,y⟩
 ·go_enter Tryz.func198,Tryz.ntmps198;go_wp2_with fail
  go_loop [8] (λx=>x=.int .i64 0) (λ_=>0)
  ·rfl
  subst hrel;go_wp2_with fail;go_ret;exact⟨rfl,Below.refl _ _⟩
 obtain⟨g,o,rfl,u⟩:=hP 0 H rfl;have F:g<w.heap.size:=World.block_lt_of_cell? w ⟨g,o+0*261+0,none⟩ (u 0 _ rfl);have J:Hid (∀w',Below w.heap.size w w'->∀(k:Nat) (p:Pt),(H::y)[k]?=some p->w'.rangeAt g (o+k*261) (partL p.kd p.pl p.f p.le p.mo p.fa)):=λw' O k p q=>by
  obtain⟨X,o',e,h⟩:=hP k p q;cases e;exact λj v T=>by rw[O.cell (p:=⟨g,o+k*261+j,none⟩) F];exact h j v T
 obtain⟨ps,t⟩:=nam (H::y);rw[<-t]at J hn ⊢;clear hP u t;obtain⟨R,E⟩:=nam (rowE ps 0 0);rw[<-E];have K:=hyd E;clear E;go_enter Tryz.func198,Tryz.ntmps198;go_wp2_with fail
 go_loopw [3,8] (λU x w'=>∃(k:Nat) (op:Int),x=.int .i64 k/\U=.int .i64 op/\k<=ps.length/\-(k:Int)<=op/\op<=k/\Below w.heap.size w w'/\Hid (R=rowE (ps.drop k) op k)) (λ_ x _=>101-(intOf x).toNat)
 ·exact⟨0,0,rfl,rfl,by omega,by omega,by omega,Below.refl _ _,K⟩
 clear K;obtain⟨k,op,rfl,rfl,Y,P,Q,C,z⟩:=hrel;by_cases n:k<ps.length
 ·obtain⟨p,q⟩:∃p,ps[k]?=some p:=⟨ps[k],List.getElem?_eq_getElem n⟩;have s:ps.drop k=p::ps.drop (k+1):=by
   rw[List.drop_eq_getElem_cons n];congr 1;rw[List.getElem?_eq_getElem n]at q;exact Option.some.inj q
  have G:=J.out wr C k p q;have Z:=q0Q wr;have M:=PRow.boxed wr 0 0 (λ_=>false) 0 0 0 261;have m:=M.free;have L:=M.put p.kd p.pl p.f p.le p.mo p.fa;have r:Below wr.heap.size wr ((wr.alloc (Obj.cells (partL 0 0 (λ_=>false) 0 0 0).toArray 261)).setCells wr.heap.size 0 (partL p.kd p.pl p.f p.le p.mo p.fa)):=((Below.refl _ _).alloc (Nat.le_refl _) _).trans (q0d wr.heap.size wr.heap.size 0 (Nat.le_refl _) _ _ 0);obtain⟨V,c⟩:=nam (((wr.alloc (Obj.cells (partL 0 0 (λ_=>false) 0 0 0).toArray 261)).setCells wr.heap.size 0 (partL p.kd p.pl p.f p.le p.mo p.fa)));rw[<-c]at L r;have i:=hyd c;clear c;have l:=C.trans (r.mono C.size);have N:(k:Int)<(ps.length:Int):=by omega
  have a:Hid (R=rowE (p::ps.drop (k+1)) op k):=by show _=_;rw[z.out,s]
  clear z s q;obtain⟨kd,pl,f,le,mo,fa⟩:=p;simp only at *;have c0:=L.c0;have S:=Pg.opn_bd kd;have I:Hid (∀W,Calls Tryz.prog 196 #[.int .i64 kd] W λe w'=>e=.returned (.int .i64 (Pg.opn kd))/\w'=W):=λW=>q3j kd W
  by_cases B:kd=4
  ·subst B;by_cases A:op=0
   ·subst A;have b:Hid (R=k):=by show _=_;rw[a.out,rowE,if_pos (by exact⟨rfl,rfl⟩)]
    clear a;go_wp2_with (first|(with_reducible refine gld 261 ?_;refine wpList_load_mid rfl 261 _ rfl _ _ rfl _ _ G Tryz.underlying261 rfl (by rw[q0a];exact q0b) ?_)|(with_reducible refine gst 261 ?_;refine wpList_store_mid rfl 261 _ _ rfl _ _ _ rfl rfl (by simpa[q0a]using m) (by simpa[q0a]using q0b) (all_oneCell_toArray (q0j _ _ _ _ _ _)) ?_;rw[List.toList_toArray,<-i.out]));go_ret;exact⟨q0l (by have:=b.out;omega),l⟩
   have q0:(op==0)=false:=by simpa using A
   have b:Hid (R=rowE (ps.drop (k+1)) (op+Pg.opn 4) (k+1)):=by show _=_;rw[a.out,rowE,if_neg (by rintro ⟨_,h⟩;exact A h)]
   clear a A;generalize Pg.opn 4=d at *;go_wp2_with (first|(with_reducible refine gld 261 ?_;refine wpList_load_mid rfl 261 _ rfl _ _ rfl _ _ G Tryz.underlying261 rfl (by rw[q0a];exact q0b) ?_)|(with_reducible refine gst 261 ?_;refine wpList_store_mid rfl 261 _ _ rfl _ _ _ rfl rfl (by simpa[q0a]using m) (by simpa[q0a]using q0b) (all_oneCell_toArray (q0j _ _ _ _ _ _)) ?_;rw[List.toList_toArray,<-i.out]));refine(I.out _).mono ?_;rintro e w' ⟨rfl,rfl⟩;go_wp2_with fail;go_roundw
   ·exact⟨k+1,op+d,by go_num,rfl,by omega,by omega,by omega,l,b⟩
   simp[intOf];omega
  have q4:(kd==4)=false:=by simpa using B
  have b:Hid (R=rowE (ps.drop (k+1)) (op+Pg.opn kd) (k+1)):=by show _=_;rw[a.out,rowE,if_neg (by rintro ⟨h,_⟩;exact B h)]
  clear a B;generalize Pg.opn kd=d at *;go_wp2_with (first|(with_reducible refine gld 261 ?_;refine wpList_load_mid rfl 261 _ rfl _ _ rfl _ _ G Tryz.underlying261 rfl (by rw[q0a];exact q0b) ?_)|(with_reducible refine gst 261 ?_;refine wpList_store_mid rfl 261 _ _ rfl _ _ _ rfl rfl (by simpa[q0a]using m) (by simpa[q0a]using q0b) (all_oneCell_toArray (q0j _ _ _ _ _ _)) ?_;rw[List.toList_toArray,<-i.out]));refine(I.out _).mono ?_;rintro e w' ⟨rfl,rfl⟩;go_wp2_with fail;go_roundw
  ·exact⟨k+1,op+d,by go_num,rfl,by omega,by omega,by omega,l,b⟩
  simp[intOf];omega
 have⟨hge,hkn⟩:¬(k:Int)<(ps.length:Int)/\k=ps.length:=by omega
 subst hkn;have D:Hid (R=ps.length):=by show _=_;rw[z.out,List.drop_eq_nil_of_le (by omega)];rfl
 clear z;go_wp2_with fail;go_ret;exact⟨q0l (by have:=D.out;omega),C⟩
theorem q8w (ad:Option Addr) (cap:Nat) (ps:List Pt) (w:World) (hn:ps.length<=100) (hP:PS ad ps w):
  Calls Tryz.prog 218 #[.slice ad ps.length cap] w λe w'=>e=.returned (.int .i64 (atomE ps 0 0:Nat))/\Below w.heap.size w w':=by
 rcases ps with _|⟨H,z⟩
 ·go_enter Tryz.func218,Tryz.ntmps218;go_wp2_with fail
  go_loop [8] (λx=>x=.int .i64 0) (λ_=>0)
  ·rfl
  subst hrel;go_wp2_with fail;go_ret;exact⟨rfl,Below.refl _ _⟩
 obtain⟨g,o,rfl,y⟩:=hP 0 H rfl;have G:g<w.heap.size:=World.block_lt_of_cell? w ⟨g,o+0*261+0,none⟩ (y 0 _ rfl);have J:Hid (∀w',Below w.heap.size w w'->∀(k:Nat) (p:Pt),(H::z)[k]?=some p->w'.rangeAt g (o+k*261) (partL p.kd p.pl p.f p.le p.mo p.fa)):=λw' P k p m=>by
  obtain⟨Z,o',e,h⟩:=hP k p m;cases e;exact λj v U=>by rw[P.cell (p:=⟨g,o+k*261+j,none⟩) G];exact h j v U
 obtain⟨ps,u⟩:=nam (H::z);rw[<-u]at J hn ⊢;clear hP y u;obtain⟨R,F⟩:=nam (atomE ps 0 0);rw[<-F];have K:=hyd F;clear F;go_enter Tryz.func218,Tryz.ntmps218;go_wp2_with fail
 go_loopw [3,8] (λV x w'=>∃(k:Nat) (op:Int),x=.int .i64 k/\V=.int .i64 op/\k<=ps.length/\-(k:Int)<=op/\op<=k/\Below w.heap.size w w'/\Hid (R=atomE (ps.drop k) op k)) (λ_ x _=>101-(intOf x).toNat)
 ·exact⟨0,0,rfl,rfl,by omega,by omega,by omega,Below.refl _ _,K⟩
 clear K;obtain⟨k,op,rfl,rfl,hk,Q,S,B,A⟩:=hrel;by_cases i:k<ps.length
 ·obtain⟨p,m⟩:∃p,ps[k]?=some p:=⟨ps[k],List.getElem?_eq_getElem i⟩;have t:ps.drop k=p::ps.drop (k+1):=by
   rw[List.drop_eq_getElem_cons i];congr 1;rw[List.getElem?_eq_getElem i]at m;exact Option.some.inj m
  have O:=J.out wr B k p m;have hz:=q0Q wr;have M:=PRow.boxed wr 0 0 (λ_=>false) 0 0 0 261;have r:=M.free;have L:=M.put p.kd p.pl p.f p.le p.mo p.fa;have s:Below wr.heap.size wr ((wr.alloc (Obj.cells (partL 0 0 (λ_=>false) 0 0 0).toArray 261)).setCells wr.heap.size 0 (partL p.kd p.pl p.f p.le p.mo p.fa)):=((Below.refl _ _).alloc (Nat.le_refl _) _).trans (q0d wr.heap.size wr.heap.size 0 (Nat.le_refl _) _ _ 0);obtain⟨Y,a⟩:=nam (((wr.alloc (Obj.cells (partL 0 0 (λ_=>false) 0 0 0).toArray 261)).setCells wr.heap.size 0 (partL p.kd p.pl p.f p.le p.mo p.fa)));rw[<-a]at L s;have n:=hyd a;clear a;have q:=B.trans (s.mono B.size);have N:(k:Int)<(ps.length:Int):=by omega
  have b:Hid (R=atomE (p::ps.drop (k+1)) op k):=by show _=_;rw[A.out,t]
  clear A t m;obtain⟨kd,pl,f,le,mo,fa⟩:=p;simp only at *;have c0:=L.c0;have T:=Pg.opn_bd kd;have I:Hid (∀W,Calls Tryz.prog 196 #[.int .i64 kd] W λe w'=>e=.returned (.int .i64 (Pg.opn kd))/\w'=W):=λW=>q3j kd W
  have C:Hid (op+Pg.opn kd=0->atomE ((⟨kd,pl,f,le,mo,fa⟩:Pt)::ps.drop (k+1)) op k=k+1):=λh=>by rw[atomE,if_pos h]
  have D:Hid (¬op+Pg.opn kd=0->atomE ((⟨kd,pl,f,le,mo,fa⟩:Pt)::ps.drop (k+1)) op k=atomE (ps.drop (k+1)) (op+Pg.opn kd) (k+1)):=λh=>by rw[atomE,if_neg h]
  generalize Pg.opn kd=d at *;by_cases l:op+d=0
  ·have X:(op+d==0)=true:=by simpa using l
   have c:Hid (R=k+1):=by show _=_;rw[b.out];exact C.out l
   clear b l;go_wp2_with (first|(with_reducible refine gld 261 ?_;refine wpList_load_mid rfl 261 _ rfl _ _ rfl _ _ O Tryz.underlying261 rfl (by rw[q0a];exact q0b) ?_)|(with_reducible refine gst 261 ?_;refine wpList_store_mid rfl 261 _ _ rfl _ _ _ rfl rfl (by simpa[q0a]using r) (by simpa[q0a]using q0b) (all_oneCell_toArray (q0j _ _ _ _ _ _)) ?_;rw[List.toList_toArray,<-n.out]));refine(I.out _).mono ?_;rintro e w' ⟨rfl,rfl⟩;go_wp2_with fail;go_ret;exact⟨q0l (by have:=c.out;omega),q⟩
  have X:(op+d==0)=false:=by simpa using l
  have c:Hid (R=atomE (ps.drop (k+1)) (op+d) (k+1)):=by show _=_;rw[b.out];exact D.out l
  clear b l;go_wp2_with (first|(with_reducible refine gld 261 ?_;refine wpList_load_mid rfl 261 _ rfl _ _ rfl _ _ O Tryz.underlying261 rfl (by rw[q0a];exact q0b) ?_)|(with_reducible refine gst 261 ?_;refine wpList_store_mid rfl 261 _ _ rfl _ _ _ rfl rfl (by simpa[q0a]using r) (by simpa[q0a]using q0b) (all_oneCell_toArray (q0j _ _ _ _ _ _)) ?_;rw[List.toList_toArray,<-n.out]));refine(I.out _).mono ?_;rintro e w' ⟨rfl,rfl⟩;go_wp2_with fail;go_roundw
  ·exact⟨k+1,op+d,by go_num,rfl,by omega,by omega,by omega,q,c⟩
  simp[intOf];omega
 have⟨hge,hkn⟩:¬(k:Int)<(ps.length:Int)/\k=ps.length:=by omega
 subst hkn;have E:Hid (R=ps.length):=by show _=_;rw[A.out,List.drop_eq_nil_of_le (by omega)];rfl
 clear A;go_wp2_with fail;go_ret;exact⟨q0l (by have:=E.out;omega),B⟩
def sufE (ps:List Pt):Nat->Nat->Nat
 |0,i=>i
 |u+1,i=>match ps[i]? with
  |some p=>if Pg.isSuffix p.kd then sufE ps u (i+1) else i
  |none=>i
def pieceE (ps:List Pt):Nat:=sufE ps (ps.length+1) (atomE ps 0 0)
theorem y1Z (ps:List Pt):∀op i,atomE ps op i<=i+ps.length:=by
 induction ps with
 |nil=>intro op i;simp[atomE]
 |cons p ps ih=>
  intro op i;rw[atomE];split
  ·simp
  have:=ih (op+Pg.opn p.kd) (i+1);simp only[List.length_cons];omega
theorem q7d (ad:Option Addr) (cap:Nat) (ps:List Pt) (w:World) (hn:ps.length<=100) (hP:PS ad ps w):
  Calls Tryz.prog 209 #[.slice ad ps.length cap] w λe w'=>e=.returned (.int .i64 (pieceE ps:Nat))/\Below w.heap.size w w':=by
 obtain⟨R,j⟩:∃R,R=pieceE ps:=⟨_,rfl⟩;rw[<-j];have n:Hid (R=sufE ps (ps.length+1) (atomE ps 0 0)):=j;have v:=y1Z ps 0 0;have s:Hid (∀w',Below w.heap.size w w'->PS ad ps w'):=λw' t=>hP.below t
 have m:=q8w ad cap ps w hn hP;have h:Hid (Calls Tryz.prog 218 #[.slice ad ps.length cap] w λe w'=>e=.returned (.int .i64 (atomE ps 0 0:Nat))/\Below w.heap.size w w'):=m;clear j m hP;generalize atomE ps 0 0=a0 at *;go_enter Tryz.func209,Tryz.ntmps209;go_wp2_with fail;refine h.out.mono ?_;rintro e w1 ⟨rfl,c⟩;go_wp2_with fail
 go_loopw [3] (λx w'=>∃(u i:Nat),x=.int .i64 i/\i<=ps.length/\ps.length<u+i/\Below w.heap.size w w'/\Hid (R=sufE ps u i)) (λx _=>101-(intOf x).toNat)
 ·exact⟨ps.length+1,a0,rfl,by omega,by omega,c,n⟩
 clear n c;obtain⟨u,i,rfl,z,A,f,d⟩:=hrel;by_cases k:i<ps.length
 ·have q:(i:Int)<(ps.length:Int):=by omega
  obtain⟨p,l⟩:∃p,ps[i]?=some p:=⟨ps[i],List.getElem?_eq_getElem k⟩;obtain⟨g,o,e,r⟩:=s.out wr f i p l;subst e;have c0:wr.cell? ⟨g,o+i*261,none⟩=some (.int .i64 p.kd):=r 0 _ rfl;rcases u with _|u
  ·omega
  have b:Hid (R=if Pg.isSuffix p.kd then sufE ps u (i+1) else i):=by show _=_;rw[d.out,sufE,l]
  have HS:Hid (∀W,Calls Tryz.prog 204 #[.int .i64 p.kd] W λe w'=>e=.returned (.bool (Pg.isSuffix p.kd))/\w'=W):=λW=>q2y p.kd W
  clear d r l;cases hs:Pg.isSuffix p.kd
  ·have a:Hid (R=i):=by show _=_;rw[b.out,hs];rfl
   rw[hs]at HS;clear b hs;go_wp2_with fail;refine(HS.out _).mono ?_;rintro e w2 ⟨rfl,rfl⟩;go_wp2_with fail;go_ret;exact⟨q0l (by have:=a.out;omega),f⟩
  have a:Hid (R=sufE ps u (i+1)):=by show _=_;rw[b.out,hs];rfl
  rw[hs]at HS;clear b hs;go_wp2_with fail;refine(HS.out _).mono ?_;rintro e w2 ⟨rfl,rfl⟩;go_wp2_with fail;go_roundw
  ·exact⟨u,i+1,by go_num,by omega,by omega,f,a⟩
  simp[intOf];omega
 have y:¬(i:Int)<(ps.length:Int):=by omega
 rcases u with _|u
 ·omega
 have a:Hid (R=i):=by show _=_;rw[d.out,sufE,List.getElem?_eq_none (by omega)]
 clear d;go_wp2_with fail;go_ret;exact⟨q0l (by have:=a.out;omega),f⟩
theorem y1V (c:Pg.C) (p:Pt) (h:0<=c.ah/\0<=c.la/\∀y∈c.st,0<=y) (hp:0<=p.mo):0<=(Pg.cStep c p).ah/\0<=(Pg.cStep c p).la/\∀y∈(Pg.cStep c p).st,0<=y:=by
 obtain⟨f,g,a⟩:=h;have b:=Pg.capped_le (c.ah+c.la) (by omega);have i:=Pg.capped_le (c.la*p.mo) (Int.mul_nonneg g hp);unfold Pg.cStep;split
 ·exact⟨b.1,by simp,a⟩
 split
 ·refine⟨by simp,by simp,?_⟩;intro y e;rcases List.mem_cons.1 e with h|h
  ·subst h;exact b.1
  exact a y h
 split
 ·split
  ·exact⟨by simp,b.1,by simp⟩
  rename_i x r d;refine⟨a x (by rw[d];simp),b.1,λy e=>a y (by rw[d];simp[e])⟩
 split
 ·exact⟨b.1,by simp,a⟩
 split
 ·exact⟨f,i.1,a⟩
 exact⟨f,g,a⟩
theorem y2Z (ps:List Pt):∀(c:Pg.C),(0<=c.ah/\0<=c.la/\∀y∈c.st,0<=y)->(∀p∈ps,0<=p.mo)->0<=(Pg.cRun ps c).ah/\0<=(Pg.cRun ps c).la:=by
 induction ps with
 |nil=>intro c h _;exact⟨h.1,h.2.1⟩
 |cons p r ih=>intro c h a;exact ih _ (y1V c p h (a p (by simp))) (λq b=>a q (by simp[b]))
theorem q5c (ps:List Pt) (hp:∀p∈ps,0<=p.mo):0<=Pg.countPlaces ps/\Pg.countPlaces ps<=97:=by
 have:=y2Z ps ⟨0,0,[]⟩ ⟨by simp,by simp,by simp⟩ hp;exact Pg.capped_le _ (by omega)
def placesP (s:ByteArray):Int:=Pg.countPlaces (Pg.readParts (bat s) s.size).ps
theorem q3J (s:ByteArray):0<=placesP s/\placesP s<=97:=q5c _ (λp a=>(Pg.readParts_mo _ _ p a).1)
def PCheckIs (f:Nat->ByteArray) (n:Nat) (e r a:Int):Prop:=
 (∃i:Nat,i<n/\(∀j,j<i->(Pg.wrong (bat (f j)) (f j).size).1=0)/\Pg.wrong (bat (f i)) (f i).size=(e,a)/\e≠0/\r=i) \/
 ((∀j,j<n->(Pg.wrong (bat (f j)) (f j).size).1=0)/\r=0/\a=0/\e=if 96<sumTo (λj=>placesP (f j)) n then 7 else 0)
theorem q7e (ad:Option Addr) (len cap:Nat) (w:World) (hl:len<=maxLen) (h:len=0\/8<len):
  Calls Tryz.prog 124 #[.slice ad len cap] w λe' w'=>e'=.returned (.tuple #[.int .i64 1,.int .i64 0,.int .i64 0])/\w'=w:=by
 unfold maxLen at hl;rcases h with h|h
 ·subst h;go_enter Tryz.func124,Tryz.ntmps124;go_wp2_with fail;go_ret3;exact⟨rfl,rfl⟩
 have a:((len:Int)==0)=false:=by simp;omega
 go_enter Tryz.func124,Tryz.ntmps124;go_wp2_with fail;go_ret3;exact⟨rfl,rfl⟩
theorem q4z (b off cap n:Nat) (f:Nat->ByteArray) (e r a:Int) (w:World) (h1:1<=n) (h8:n<=8) (hb:b<w.heap.size) (hm:∀i,i<n->(f i).size<=maxLen) (hr:SRow b off f n w) (h:PCheckIs f n e r a):
  Calls Tryz.prog 124 #[.slice (some ⟨b,off,none⟩) n cap] w λe' w'=>e'=.returned (.tuple #[.int .i64 e,.int .i64 r,.int .i64 a])/\Below w.heap.size w w':=by
 have X:((n:Int)==0)=false:=beq_eq_false_iff_ne.2 (by omega);have O:=hyd hm;have P:=hyd hr;have t:Hid (∀k,k<=n->0<=sumTo (λj=>placesP (f j)) k/\sumTo (λj=>placesP (f j)) k<=97*k):=by
  show ∀k,k<=n->0<=sumTo (λj=>placesP (f j)) k/\sumTo (λj=>placesP (f j)) k<=97*k;intro k
  induction k with
  |zero=>intro _;simp[sumTo]
  |succ k ih=>
   intro E;have:=ih (by omega);have R:=q3J (f k);simp only[sumTo];omega
 clear hm hr;have y:Hid (∀k,k<n->(Pg.wrong (bat (f k)) (f k).size).1=0->∀W,Calls Tryz.prog 125 #[.string (f k)] W λe w'=>∃v ps,e=.returned (.tuple #[v,.int .i64 0,.int .i64 (Pg.wrong (bat (f k)) (f k).size).2])/\Below W.heap.size W w'/\(∀m,m=w'->Calls Tryz.prog 168 #[v] m λe2 w2=>e2=.returned (.int .i64 (placesP (f k)))/\Below m.heap.size m w2)/\ps=([]:List Pt)):=by
  show ∀k,k<n->(Pg.wrong (bat (f k)) (f k).size).1=0->∀W,Calls Tryz.prog 125 #[.string (f k)] W λe w'=>∃v ps,e=.returned (.tuple #[v,.int .i64 0,.int .i64 (Pg.wrong (bat (f k)) (f k).size).2])/\Below W.heap.size W w'/\(∀m,m=w'->Calls Tryz.prog 168 #[v] m λe2 w2=>e2=.returned (.int .i64 (placesP (f k)))/\Below m.heap.size m w2)/\ps=([]:List Pt)
  intro k E Q W;refine(q4Z (f k) W (O.out k E)).mono ?_;rintro e' w' ⟨v,ps,rfl,d,c⟩;obtain⟨U,C,V,_⟩:=c Q;refine⟨v,[],by rw[Q],d,?_,rfl⟩;rintro m rfl;refine(q4R v ps _ _ V U ?_).mono ?_
  ·intro p Z;have:=Pg.readParts_mo (bat (f k)) (f k).size p.strip (by rw[<-C];exact List.mem_map.2 ⟨p,Z,rfl⟩);exact this
  rintro e2 w2 ⟨rfl,R⟩;refine⟨q0l ?_,R⟩;rw[placesP,<-C,Pg.countPlaces_strip]
 rcases h with ⟨N,I,c,D,S,rfl⟩|⟨c,rfl,rfl,rfl⟩
 ·have o:=hyd c;have G:=hyd D;have Y:(e==0)=false:=by simpa using S
  clear c D S;go_enter Tryz.func124,Tryz.ntmps124;go_wp2_with fail
  go_loopw [5,21] (λx i w'=>∃k:Nat,k<=N/\i=.int .i64 k/\x=.int .i64 (sumTo (λj=>placesP (f j)) k)/\Below w.heap.size w w') (λ_ i _=>9-(intOf i).toNat)
  ·exact⟨0,by omega,rfl,rfl,Below.refl _ _⟩
  obtain⟨k,E,rfl,rfl,d⟩:=hrel;have s:=P.out.below hb d k (by omega);have L:(k:Int)<n:=by omega
  by_cases B:k=N
  ·subst B;go_wp2_with fail;refine(q4Z (f k) _ (O.out k I)).mono ?_;rintro e' w1 ⟨v,ps,rfl,g,_⟩;rw[G.out];go_wp2_with fail;go_ret3;exact⟨rfl,d.trans (g.mono d.size)⟩
  have J:k<N:=by omega
  clear B;have H:=t.out k (by omega);have M:=q3J (f k);go_wp2_with fail;refine(y.out k (by omega) (o.out k J) _).mono ?_;rintro e' w1 ⟨v,ps,rfl,g,A,_⟩;have u:=A w1 rfl;clear A;have F:Hid (Calls Tryz.prog 168 #[v] w1 λe2 w2=>e2=.returned (.int .i64 (placesP (f k)))/\Below w1.heap.size w1 w2):=u;clear u;go_wp2_with fail;refine F.out.mono ?_;rintro e' w2 ⟨rfl,q⟩;go_wp2_with fail;go_roundw
  ·have z:=d.trans (g.mono d.size);exact⟨k+1,by omega,by go_num,rfl,z.trans (q.mono z.size)⟩
  simp[intOf];omega
 have o:=hyd c;clear c;go_enter Tryz.func124,Tryz.ntmps124;go_wp2_with fail
 go_loopw [5,21] (λx i w'=>∃k:Nat,k<=n/\i=.int .i64 k/\x=.int .i64 (sumTo (λj=>placesP (f j)) k)/\Below w.heap.size w w') (λ_ i _=>9-(intOf i).toNat)
 ·exact⟨0,by omega,rfl,rfl,Below.refl _ _⟩
 obtain⟨k,E,rfl,rfl,d⟩:=hrel;have H:=t.out k (by omega);by_cases l:k<n
 ·have s:=P.out.below hb d k l;have L:(k:Int)<n:=by omega
  have M:=q3J (f k);go_wp2_with fail;refine(y.out k l (o.out k l) _).mono ?_;rintro e' w1 ⟨v,ps,rfl,g,A,_⟩;have u:=A w1 rfl;clear A;have F:Hid (Calls Tryz.prog 168 #[v] w1 λe2 w2=>e2=.returned (.int .i64 (placesP (f k)))/\Below w1.heap.size w1 w2):=u;clear u;go_wp2_with fail;refine F.out.mono ?_;rintro e' w2 ⟨rfl,q⟩;go_wp2_with fail;go_roundw
  ·have z:=d.trans (g.mono d.size);exact⟨k+1,by omega,by go_num,rfl,z.trans (q.mono z.size)⟩
  simp[intOf];omega
 have K:k=n:=by omega
 subst K;by_cases T:96<sumTo (λj=>placesP (f j)) k
 ·go_wp2_with fail;go_ret3;exact⟨by first|rfl|rw[if_pos (by omega)],d⟩
 go_wp2_with fail;go_ret3;exact⟨by first|rfl|rw[if_neg (by omega)],d⟩
end Go.Proofs.YtoaaklhpmhjhkaaGreat
namespace Go.Proofs.YtoaaklhpmhjhkaaGreat
open Go.RowKit
def Agree:Prop:=∀(f:Nat->ByteArray) (n:Nat),∃e r a,PCheckIs f n e r a/\CheckIs f n e r a
variable {B g m n : Nat}{w w' : World}
theorem WRow.below {f:Nat->ByteArray} (h:WRow g f n w) (hg:g<B) (hW:Below B w w'):WRow g f n w':=λi a=>by
 rw[hW.cell (p:=⟨g,i,none⟩) hg,hW.frozen (p:=⟨g,i,none⟩) hg];exact h i a
theorem WRow.srow {f:Nat->ByteArray} (h:WRow g f n w) (hm:m<=n):SRow g 0 f m w:=λi a=>by
 rw[Nat.zero_add];exact(h i (by omega)).1
end Go.Proofs.YtoaaklhpmhjhkaaGreat
