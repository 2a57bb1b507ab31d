import Derived.Test.YtoaaklhpmhjhkabGreatC19
set_option maxRecDepth 100000
set_option maxHeartbeats 4000000
set_option linter.all false
namespace Go.Proofs.YtoaaklhpmhjhkabGreat
open Go.RowKit
open Pg (Pt)
def PS (ad:Option Addr) (ps:List Pt) (w:World):Prop:=∀(k:Nat) (p:Pt),ps[k]?=some p->∃g o,ad=some ⟨g,o,none⟩/\w.rangeAt g (o+k*261) (Pt.cells p)
variable {ps:List Pt}{cap:Nat}{ad:Option Addr}{w w':World}
theorem PS.keep (h:PS ad ps w) (hk:∀g o,ad=some ⟨g,o,none⟩->w'.heap[g]?=w.heap[g]?):PS ad ps w':=fun k p hp=>by
 obtain⟨g,o,e,hr⟩:=h k p hp;refine⟨g,o,e,fun j v hv=>?_⟩;rw[World.cell?_of_block (w:=w) (a:=⟨g,o+k*261+j,none⟩) (hk g o e)];exact hr j v hv
theorem PS.below (h:PS ad ps w) (hW:Below w.heap.size w w'):PS ad ps w':=fun k p hp=>by
 obtain⟨g,o,e,hr⟩:=h k p hp;refine⟨g,o,e,fun j v hv=>?_⟩;have:=hr j v hv;rw[hW.cell (p:=⟨g,o+k*261+j,none⟩) (World.block_lt_of_cell? w _ this)];exact this
def RL (ad:Option Addr) (cap l:Nat):Option Addr:=if cap=l then ad else ad.map (·.add (l*261))
theorem PS.sub (h:PS ad ps w) (l n:Nat) (hn:l+n<=ps.length) (hc:ps.length<=cap):PS (RL ad cap l) ((ps.drop l).take n) w:=fun k p hp=>by
 have hk:k<n:=by
  have:=(List.getElem?_eq_some_iff.1 hp).1;simp at this;omega
 rw[List.getElem?_take,if_pos hk,List.getElem?_drop]at hp;obtain⟨g,o,e,hr⟩:=h (l+k) p hp;refine⟨g,o+l*261,?_,?_⟩
 ·rw[RL,if_neg (by omega),e,Option.map_some,Addr.add_mid]
 ·rw[show o+l*261+k*261=o+(l+k)*261 by rw[Nat.add_mul];omega];exact hr
theorem WR {ops : Array Oper} {rest : List Oper} {op : Oper} {a : Act} {w : World} {Q : Exit -> Act -> World -> Prop} (hgd : op.guard = none) (x : Operand) (lo hi : Option Operand) (ho : op.op = .slice 103 x lo hi none)
  (ad : Option Addr) (len cap : Nat) (hx : a.eval x = .slice ad len cap) (l h : Nat) (hl : (lo = none /\ l = 0) \/ ∃y, lo = some y /\ a.eval y = .int .i64 l) (hh : (hi = none /\ h = len) \/ ∃y, hi = some y /\ a.eval y = .int .i64 h) (h1 : l <= h) (h2 : h <= cap)
  (hk : wpList Tryz.prog ops Q rest (a.put op.dst (.slice (RL ad cap l) (h-l) (cap-l))) w) : wpList Tryz.prog ops Q (op::rest) a w :=
 wpList_plain hgd fun _ hK => by
  have hs : (sizeOf 156).run Tryz.prog w = .ok 261 w := by kernel_rfl
  have hr : (Instr.slice 103 (.slice ad len cap) (lo.map a.eval) (hi.map a.eval) none).run Tryz.prog w = .ok (.slice (RL ad cap l) (h-l) (cap-l)) w := by
   have e1 : ∀c, (Instr.sliceBound (.int .i64 (h : Int)) cap c).run Tryz.prog w = .ok h w := fun c => by simp [Instr.sliceBound, asIntOf, Sem.run_ite]; omega
   have e2 : ∀c, (Instr.sliceBound (.int .i64 (l : Int)) h c).run Tryz.prog w = .ok l w := fun c => by simp [Instr.sliceBound, asIntOf, Sem.run_ite]; omega
   have e3 : (Instr.sliceBounds true len cap (lo.map a.eval) (hi.map a.eval) none).run Tryz.prog w = .ok (l, h, cap) w := by
    rcases hl with ⟨rfl, rfl⟩|⟨y, rfl, hy⟩<;>rcases hh with ⟨rfl, rfl⟩|⟨z, rfl, hz⟩<;>simp [Instr.sliceBounds, Sem.run_bind, *]
   simp only [Instr.slice, Sem.run_bind, run_underlying u_k, Result.andThen_ok, e3, hs, Sem.run_pure];rfl
  have hr2 : (Instr.sliceAt 103 (.slice ad len cap) (lo.map a.eval) (hi.map a.eval) none).run Tryz.prog w = .ok (.slice (RL ad cap l) (h-l) (cap-l)) w := by
   simp only [Instr.sliceAt, Sem.run_bind, run_underlying u_k, Result.andThen_ok];exact hr
  unfold Oper.wp execOp;simp only [ho, hx, Sem.run_bind, Option.map_none, hr2, Result.andThen_ok, Sem.run_pure];exact hK _ _ hk
theorem OC (ad:Option Addr) (cap:Nat) (ps:List Pt) (w:World) (hn:ps.length<=100) (hP:PS ad ps w) (hmo:∀p∈ps,0<=p.mo/\p.mo<=9):
  Calls Tryz.prog 63 #[.slice ad ps.length cap] w fun e w'=>e=.returned (.int .i64 (Pg.countPlaces ps))/\Below w.heap.size w w':=by
 rcases ps with _|⟨p0,ps0⟩
 ·go_enter Tryz.func63,Tryz.ntmps63;go_wp2_with fail
  go_loop [4,5,11] (fun xa xl x=>xa=.int .i64 0/\xl=.int .i64 0/\x=.int .i64 0) (fun _ _ _=>0)
  case atStart=>exact⟨rfl,rfl,rfl⟩
  case round=>
   obtain⟨rfl,rfl,rfl⟩:=hrel;go_wp2_with fail;refine(YD _ _).mono ?_;rintro e W ⟨rfl,rfl⟩;go_wp2_with fail;go_ret;exact⟨rfl,Below.refl _ _⟩
 ·obtain⟨g,o,rfl,hr0⟩:=hP 0 p0 rfl;have hgw:g<w.heap.size:=World.block_lt_of_cell? w ⟨g,o+0*261+0,none⟩ (hr0 0 _ rfl);have HP:Hid (∀w',Below w.heap.size w w'->∀(k:Nat) (p:Pt),(p0::ps0)[k]?=some p->w'.rangeAt g (o+k*261) (Y0 p.kd p.pl p.f p.le p.mo p.fa)):=fun w' hW k p hp=>by
   obtain⟨g',o',e,h⟩:=hP k p hp;cases e;exact fun j v hv=>by rw[hW.cell (p:=⟨g,o+k*261+j,none⟩) hgw];exact h j v hv
  obtain⟨ps,hps⟩:=nam (p0::ps0);rw[<-hps]at HP hn hmo ⊢;clear hP hr0 hps;have Hmo:=hyd hmo;clear hmo;go_enter Tryz.func63,Tryz.ntmps63;go_wp2_with fail
  go_loopw [3,4,5,11] (fun vo xa xl x w'=>∃(k:Nat) (ah la:Int) (l:List Int),x=.int .i64 k/\xa=.int .i64 ah/\xl=.int .i64 la/\k<=ps.length/\0<=ah/\ah<=97/\0<=la/\la<=97/\l.length<=k/\(∀y∈l,0<=y/\y<=97)/\w'.ownsRow w.heap.size 3 1 vo l.length (RJ l)/\Below w.heap.size w w'/\Hid (Pg.cRun ps ⟨0,0,[]⟩=Pg.cRun (ps.drop k) ⟨ah,la,l.reverse⟩)) (fun _ _ _ x _=>101-(intOf x).toNat)
  case atStart=>exact⟨0,0,0,[],rfl,rfl,rfl,by omega,by omega,by omega,by omega,by omega,by simp,by simp,⟨rfl,Or.inl ⟨rfl,rfl⟩⟩,Below.refl _ _,rfl⟩
  case round=>
   obtain⟨k,ah,la,l,rfl,rfl,rfl,hk,ha0,ha1,hl0,hl1,hll,hly,hV,hB,HL⟩:=hrel;have Hly:=hyd hly;clear hly;have hcb:=Ui (ah+la) (by omega);by_cases hlt:k<ps.length
   ·obtain⟨p,hp⟩:∃p,ps[k]?=some p:=⟨ps[k],List.getElem?_eq_getElem hlt⟩;have hdr:ps.drop k=p::ps.drop (k+1):=by
     rw[List.drop_eq_getElem_cons hlt];congr 1;rw[List.getElem?_eq_getElem hlt]at hp;exact Option.some.inj hp
    have hr:=HP.out wr hB k p hp;have hz:=X5 wr;have hN:=YF.boxed wr 0 0 (fun _=>false) 0 0 0 156;have hNf:=hN.free;have hM:=hN.put p.kd p.pl p.f p.le p.mo p.fa;have hW3:Below wr.heap.size wr ((wr.alloc (Obj.cells (Y0 0 0 (fun _=>false) 0 0 0).toArray 156)).setCells wr.heap.size 0 (Y0 p.kd p.pl p.f p.le p.mo p.fa)):=((Below.refl _ _).alloc (Nat.le_refl _) _).trans (Y4 wr.heap.size wr.heap.size 0 (Nat.le_refl _) _ _ 0);have hB3:=hB.trans (hW3.mono hB.size);have hlti:(k:Int)<(ps.length:Int):=by omega
    have hV3:=Yw hV hW3;have HL1:Hid (Pg.cRun ps ⟨0,0,[]⟩=Pg.cRun (ps.drop (k+1)) (Pg.cStep ⟨ah,la,l.reverse⟩ p)):=by show _=_;rw[HL.out,hdr,Pg.cRun]
    have hpm:=Hmo.out p (by have:=List.mem_of_getElem? hp;exact this);clear HL hdr hp;obtain⟨kd,pl,f,le,mo,fa⟩:=p;simp only at *;have c0:=hM.c0;have c4:=hM.c4;by_cases h1:kd=1
    ·subst h1;have HL2:Hid (Pg.cRun ps ⟨0,0,[]⟩=Pg.cRun (ps.drop (k+1)) ⟨Pg.capped (ah+la),1,l.reverse⟩):=HL1;clear HL1;go_wp2_with (first|(with_reducible refine gld 156 ?_;refine wpList_load_mid rfl 156 _ rfl _ _ rfl _ _ hr u_a rfl (by rw[Y9];exact Y8) ?_)|(with_reducible refine gst 156 ?_;refine wpList_store_mid rfl 156 _ _ rfl _ _ _ rfl rfl (by simpa[Y9]using hNf) (by simpa[Y9]using Y8) (all_oneCell_toArray (YZ _ _ _ _ _ _)) ?_));refine(YD _ _).mono ?_;rintro e W ⟨rfl,rfl⟩;go_wp2_with fail;go_roundw
     case rel=>exact⟨k+1,_,1,l,by go_num,rfl,rfl,by omega,hcb.1,hcb.2,by omega,by omega,by omega,Hly.out,hV3,hB3,HL2⟩
     case measure=>simp[intOf];omega
    have b1:(kd==1)=false:=by simpa using h1
    by_cases h2:kd=2
    ·subst h2;have HL2:Hid (Pg.cRun ps ⟨0,0,[]⟩=Pg.cRun (ps.drop (k+1)) ⟨0,0,(l++[Pg.capped (ah+la)]).reverse⟩):=by show _=_;rw[HL1.out,List.reverse_append];rfl
     have hly2:∀y∈l++[Pg.capped (ah+la)],0<=y/\y<=97:=by
      intro y hy;rcases List.mem_append.1 hy with h|h
      ·exact Hly.out y h
      ·simp only[List.mem_singleton]at h;subst h;exact hcb
     have Hly2:=hyd hly2;clear HL1 hly2;go_wp2_with (first|(with_reducible refine gld 156 ?_;refine wpList_load_mid rfl 156 _ rfl _ _ rfl _ _ hr u_a rfl (by rw[Y9];exact Y8) ?_)|(with_reducible refine gst 156 ?_;refine wpList_store_mid rfl 156 _ _ rfl _ _ _ rfl rfl (by simpa[Y9]using hNf) (by simpa[Y9]using Y8) (all_oneCell_toArray (YZ _ _ _ _ _ _)) ?_));refine(YD _ _).mono ?_;rintro e W ⟨rfl,rfl⟩;generalize Pg.capped (ah+la)=cc at *;generalize hWW:(wr.alloc (Obj.cells (Y0 0 0 (fun _=>false) 0 0 0).toArray 156)).setCells wr.heap.size 0 (Y0 2 pl f le mo fa)=W at *;clear hWW hr hz hN hNf hM c0 c4 hW3;have hV4:=Yw hV3 ((Below.refl _ _).alloc (Nat.le_refl _) (.cells #[.int .i64 cc] 3));have hB4:=hB3.alloc hB3.size (.cells #[.int .i64 cc] 3);have hnew:(W.alloc (.cells #[.int .i64 cc] 3)).cell? ⟨W.heap.size,0,none⟩=some (.int .i64 cc):=by rw[World.cell?_alloc_new];rfl
     go_wp2_with (first|(at_builtin;refine wpList_append_int (by rfl) _ _ (by rfl) w.heap.size u3 l (by rfl) hV4 (by omega) W.heap.size cc (by rfl) hnew hB4.size ?_;intro g2 cap2 w5 hV5 hgrow));go_roundw
     case rel=>exact⟨k+1,0,0,l++[cc],by go_num,rfl,rfl,by omega,by omega,by omega,by omega,by omega,by simp;omega,Hly2.out,by simpa using hV5,hB4.grown hgrow hB4.size (RE hV4),HL2⟩
     case measure=>simp[intOf];omega
    have b2:(kd==2)=false:=by simpa using h2
    by_cases h3:kd=3
    ·subst h3;rcases List.eq_nil_or_concat l with hl|⟨l',x,hl⟩
     ·subst hl;have HL2:Hid (Pg.cRun ps ⟨0,0,[]⟩=Pg.cRun (ps.drop (k+1)) ⟨0,Pg.capped (ah+la),([]:List Int).reverse⟩):=HL1;clear HL1;rcases hV3.2 with ⟨hv3,_⟩|⟨g3,cap3,cur3,hv3,_⟩
      ·subst hv3;go_wp2_with (first|(with_reducible refine gld 156 ?_;refine wpList_load_mid rfl 156 _ rfl _ _ rfl _ _ hr u_a rfl (by rw[Y9];exact Y8) ?_)|(with_reducible refine gst 156 ?_;refine wpList_store_mid rfl 156 _ _ rfl _ _ _ rfl rfl (by simpa[Y9]using hNf) (by simpa[Y9]using Y8) (all_oneCell_toArray (YZ _ _ _ _ _ _)) ?_));refine(YD _ _).mono ?_;rintro e W ⟨rfl,rfl⟩;go_wp2_with fail;go_roundw
       case rel=>exact⟨k+1,0,_,[],by go_num,rfl,rfl,by omega,by omega,by omega,hcb.1,hcb.2,by simp,by simp,hV3,hB3,HL2⟩
       case measure=>simp[intOf];omega
      ·subst hv3;go_wp2_with (first|(with_reducible refine gld 156 ?_;refine wpList_load_mid rfl 156 _ rfl _ _ rfl _ _ hr u_a rfl (by rw[Y9];exact Y8) ?_)|(with_reducible refine gst 156 ?_;refine wpList_store_mid rfl 156 _ _ rfl _ _ _ rfl rfl (by simpa[Y9]using hNf) (by simpa[Y9]using Y8) (all_oneCell_toArray (YZ _ _ _ _ _ _)) ?_));refine(YD _ _).mono ?_;rintro e W ⟨rfl,rfl⟩;go_wp2_with fail;go_roundw
       case rel=>exact⟨k+1,0,_,[],by go_num,rfl,rfl,by omega,by omega,by omega,hcb.1,hcb.2,by simp,by simp,hV3,hB3,HL2⟩
       case measure=>simp[intOf];omega
     ·subst hl;have HL2:Hid (Pg.cRun ps ⟨0,0,[]⟩=Pg.cRun (ps.drop (k+1)) ⟨x,Pg.capped (ah+la),l'.reverse⟩):=by show _=_;rw[HL1.out,List.concat_eq_append,List.reverse_append];rfl
      clear HL1;have hx:=Hly.out x (by simp);have Hly2:Hid (∀y∈l',0<=y/\y<=97):=fun y hy=>Hly.out y (by simp[hy])
      have hlen:(l'.concat x).length=l'.length+1:=by simp
      rw[hlen,List.concat_eq_append]at hV3;have hll2:l'.length+1<=k:=by omega
      clear hll hlen Hly;rcases hV3.2 with ⟨_,h0⟩|⟨g3,cap3,cur3,hv3,hge3,hh3,hle3,_⟩
      ·omega
      subst hv3;have hla:=PE hV3 rfl;have hpop:=Sb hV3;have i1:(0:Int)<(l'.length:Int)+1:=by omega
      have i2:(0:Int)<=(l'.length:Int)/\(l'.length:Int)<(l'.length:Int)+1:=by omega
      go_wp2_with (first|(with_reducible refine gld 156 ?_;refine wpList_load_mid rfl 156 _ rfl _ _ rfl _ _ hr u_a rfl (by rw[Y9];exact Y8) ?_)|(with_reducible refine gst 156 ?_;refine wpList_store_mid rfl 156 _ _ rfl _ _ _ rfl rfl (by simpa[Y9]using hNf) (by simpa[Y9]using Y8) (all_oneCell_toArray (YZ _ _ _ _ _ _)) ?_));refine(YD _ _).mono ?_;rintro e W ⟨rfl,rfl⟩;go_wp2_with fail;go_roundw
      case rel=>exact⟨k+1,x,_,l',by go_num,rfl,rfl,by omega,hx.1,hx.2,hcb.1,hcb.2,by omega,Hly2.out,hpop,hB3,HL2⟩
      case measure=>simp[intOf];omega
    have b3:(kd==3)=false:=by simpa using h3
    by_cases h4:kd=4
    ·subst h4;have HL2:Hid (Pg.cRun ps ⟨0,0,[]⟩=Pg.cRun (ps.drop (k+1)) ⟨Pg.capped (ah+la),0,l.reverse⟩):=HL1;clear HL1;go_wp2_with (first|(with_reducible refine gld 156 ?_;refine wpList_load_mid rfl 156 _ rfl _ _ rfl _ _ hr u_a rfl (by rw[Y9];exact Y8) ?_)|(with_reducible refine gst 156 ?_;refine wpList_store_mid rfl 156 _ _ rfl _ _ _ rfl rfl (by simpa[Y9]using hNf) (by simpa[Y9]using Y8) (all_oneCell_toArray (YZ _ _ _ _ _ _)) ?_));refine(YD _ _).mono ?_;rintro e W ⟨rfl,rfl⟩;go_wp2_with fail;go_roundw
     case rel=>exact⟨k+1,_,0,l,by go_num,rfl,rfl,by omega,hcb.1,hcb.2,by omega,by omega,by omega,Hly.out,hV3,hB3,HL2⟩
     case measure=>simp[intOf];omega
    have b4:(kd==4)=false:=by simpa using h4
    by_cases h8:kd=8
    ·subst h8;have hm0:=Int.mul_nonneg hl0 hpm.1;have hm1:la*mo<=97*9:=Int.mul_le_mul hl1 hpm.2 hpm.1 (by omega);have hcm:=Ui (la*mo) hm0;have HL2:Hid (Pg.cRun ps ⟨0,0,[]⟩=Pg.cRun (ps.drop (k+1)) ⟨ah,Pg.capped (la*mo),l.reverse⟩):=HL1;clear HL1;go_wp2_with (first|(with_reducible refine gld 156 ?_;refine wpList_load_mid rfl 156 _ rfl _ _ rfl _ _ hr u_a rfl (by rw[Y9];exact Y8) ?_)|(with_reducible refine gst 156 ?_;refine wpList_store_mid rfl 156 _ _ rfl _ _ _ rfl rfl (by simpa[Y9]using hNf) (by simpa[Y9]using Y8) (all_oneCell_toArray (YZ _ _ _ _ _ _)) ?_));refine(YD _ _).mono ?_;rintro e W ⟨rfl,rfl⟩;go_wp2_with fail;go_roundw
     case rel=>exact⟨k+1,ah,_,l,by go_num,rfl,rfl,by omega,ha0,ha1,hcm.1,hcm.2,by omega,Hly.out,hV3,hB3,HL2⟩
     case measure=>simp[intOf];omega
    ·have b8:(kd==8)=false:=by simpa using h8
     have HL2:Hid (Pg.cRun ps ⟨0,0,[]⟩=Pg.cRun (ps.drop (k+1)) ⟨ah,la,l.reverse⟩):=by
      show _=_;rw[HL1.out];simp only[Pg.cStep,if_neg h1,if_neg h2,if_neg h3,if_neg h4,if_neg h8]
     clear HL1 h1 h2 h3 h4 h8;go_wp2_with (first|(with_reducible refine gld 156 ?_;refine wpList_load_mid rfl 156 _ rfl _ _ rfl _ _ hr u_a rfl (by rw[Y9];exact Y8) ?_)|(with_reducible refine gst 156 ?_;refine wpList_store_mid rfl 156 _ _ rfl _ _ _ rfl rfl (by simpa[Y9]using hNf) (by simpa[Y9]using Y8) (all_oneCell_toArray (YZ _ _ _ _ _ _)) ?_));go_roundw
     case rel=>exact⟨k+1,ah,la,l,by go_num,rfl,rfl,by omega,ha0,ha1,hl0,hl1,by omega,Hly.out,hV3,hB3,HL2⟩
     case measure=>simp[intOf];omega
   ·have hge:¬(k:Int)<(ps.length:Int):=by omega
    have HL2:Hid (Pg.cRun ps ⟨0,0,[]⟩=⟨ah,la,l.reverse⟩):=by show _=_;rw[HL.out,List.drop_eq_nil_of_le (by omega)];rfl
    clear HL;go_wp2_with fail;refine(YD _ _).mono ?_;rintro e W ⟨rfl,rfl⟩;go_wp2_with fail;go_ret;exact⟨YS (by rw[Pg.countPlaces,HL2.out]),hB⟩
def Tm:List Pt->Int->Nat->Nat
 |[],_,i=>i
 |p::ps,op,i=>if p.kd=4/\op=0 then i else Tm ps (op+Pg.opn p.kd) (i+1)
def Xk:List Pt->Int->Nat->Nat
 |[],_,i=>i
 |p::ps,op,i=>if op+Pg.opn p.kd=0 then i+1 else Xk ps (op+Pg.opn p.kd) (i+1)
theorem MH (ad:Option Addr) (cap:Nat) (ps:List Pt) (w:World) (hn:ps.length<=100) (hP:PS ad ps w):
  Calls Tryz.prog 84 #[.slice ad ps.length cap] w fun e w'=>e=.returned (.int .i64 (Tm ps 0 0:Nat))/\Below w.heap.size w w':=by
 rcases ps with _|⟨p0,ps0⟩
 ·go_enter Tryz.func84,Tryz.ntmps84;go_wp2_with fail
  go_loop [8] (fun x=>x=.int .i64 0) (fun _=>0)
  case atStart=>rfl
  case round=>
   subst hrel;go_wp2_with fail;go_ret;exact⟨rfl,Below.refl _ _⟩
 ·obtain⟨g,o,rfl,hr0⟩:=hP 0 p0 rfl;have hgw:g<w.heap.size:=World.block_lt_of_cell? w ⟨g,o+0*261+0,none⟩ (hr0 0 _ rfl);have HP:Hid (∀w',Below w.heap.size w w'->∀(k:Nat) (p:Pt),(p0::ps0)[k]?=some p->w'.rangeAt g (o+k*261) (Y0 p.kd p.pl p.f p.le p.mo p.fa)):=fun w' hW k p hp=>by
   obtain⟨g',o',e,h⟩:=hP k p hp;cases e;exact fun j v hv=>by rw[hW.cell (p:=⟨g,o+k*261+j,none⟩) hgw];exact h j v hv
  obtain⟨ps,hps⟩:=nam (p0::ps0);rw[<-hps]at HP hn ⊢;clear hP hr0 hps;obtain⟨R,hR⟩:=nam (Tm ps 0 0);rw[<-hR];have HR:=hyd hR;clear hR;go_enter Tryz.func84,Tryz.ntmps84;go_wp2_with fail
  go_loopw [3,8] (fun oo x w'=>∃(k:Nat) (op:Int),x=.int .i64 k/\oo=.int .i64 op/\k<=ps.length/\-(k:Int)<=op/\op<=k/\Below w.heap.size w w'/\Hid (R=Tm (ps.drop k) op k)) (fun _ x _=>101-(intOf x).toNat)
  case atStart=>exact⟨0,0,rfl,rfl,by omega,by omega,by omega,Below.refl _ _,HR⟩
  case round=>
   clear HR;obtain⟨k,op,rfl,rfl,hk,ho0,ho1,hB,HL⟩:=hrel;by_cases hlt:k<ps.length
   ·obtain⟨p,hp⟩:∃p,ps[k]?=some p:=⟨ps[k],List.getElem?_eq_getElem hlt⟩;have hdr:ps.drop k=p::ps.drop (k+1):=by
     rw[List.drop_eq_getElem_cons hlt];congr 1;rw[List.getElem?_eq_getElem hlt]at hp;exact Option.some.inj hp
    have hr:=HP.out wr hB k p hp;have hz:=X5 wr;have hN:=YF.boxed wr 0 0 (fun _=>false) 0 0 0 156;have hNf:=hN.free;have hM:=hN.put p.kd p.pl p.f p.le p.mo p.fa;have hW3:Below wr.heap.size wr ((wr.alloc (Obj.cells (Y0 0 0 (fun _=>false) 0 0 0).toArray 156)).setCells wr.heap.size 0 (Y0 p.kd p.pl p.f p.le p.mo p.fa)):=((Below.refl _ _).alloc (Nat.le_refl _) _).trans (Y4 wr.heap.size wr.heap.size 0 (Nat.le_refl _) _ _ 0);obtain⟨W3,hW3e⟩:=nam (((wr.alloc (Obj.cells (Y0 0 0 (fun _=>false) 0 0 0).toArray 156)).setCells wr.heap.size 0 (Y0 p.kd p.pl p.f p.le p.mo p.fa)));rw[<-hW3e]at hM hW3;have HW3:=hyd hW3e;clear hW3e;have hB3:=hB.trans (hW3.mono hB.size);have hlti:(k:Int)<(ps.length:Int):=by omega
    have HL1:Hid (R=Tm (p::ps.drop (k+1)) op k):=by show _=_;rw[HL.out,hdr]
    clear HL hdr hp;obtain⟨kd,pl,f,le,mo,fa⟩:=p;simp only at *;have c0:=hM.c0;have hon:=Pg.opn_bd kd;have HO:Hid (∀W,Calls Tryz.prog 82 #[.int .i64 kd] W fun e w'=>e=.returned (.int .i64 (Pg.opn kd))/\w'=W):=fun W=>Uo kd W
    by_cases h4:kd=4
    ·subst h4;by_cases h0:op=0
     ·subst h0;have HL3:Hid (R=k):=by show _=_;rw[HL1.out,Tm,if_pos (by exact⟨rfl,rfl⟩)]
      clear HL1;go_wp2_with (first|(with_reducible refine gld 156 ?_;refine wpList_load_mid rfl 156 _ rfl _ _ rfl _ _ hr u_a rfl (by rw[Y9];exact Y8) ?_)|(with_reducible refine gst 156 ?_;refine wpList_store_mid rfl 156 _ _ rfl _ _ _ rfl rfl (by simpa[Y9]using hNf) (by simpa[Y9]using Y8) (all_oneCell_toArray (YZ _ _ _ _ _ _)) ?_;rw[List.toList_toArray,<-HW3.out]));go_ret;exact⟨YS (by have:=HL3.out;omega),hB3⟩
     ·have q0:(op==0)=false:=by simpa using h0
      have HL3:Hid (R=Tm (ps.drop (k+1)) (op+Pg.opn 4) (k+1)):=by show _=_;rw[HL1.out,Tm,if_neg (by rintro ⟨_,h⟩;exact h0 h)]
      clear HL1 h0;generalize Pg.opn 4=d at *;go_wp2_with (first|(with_reducible refine gld 156 ?_;refine wpList_load_mid rfl 156 _ rfl _ _ rfl _ _ hr u_a rfl (by rw[Y9];exact Y8) ?_)|(with_reducible refine gst 156 ?_;refine wpList_store_mid rfl 156 _ _ rfl _ _ _ rfl rfl (by simpa[Y9]using hNf) (by simpa[Y9]using Y8) (all_oneCell_toArray (YZ _ _ _ _ _ _)) ?_;rw[List.toList_toArray,<-HW3.out]));refine(HO.out _).mono ?_;rintro e w' ⟨rfl,rfl⟩;go_wp2_with fail;go_roundw
      case rel=>exact⟨k+1,op+d,by go_num,rfl,by omega,by omega,by omega,hB3,HL3⟩
      case measure=>simp[intOf];omega
    ·have q4:(kd==4)=false:=by simpa using h4
     have HL3:Hid (R=Tm (ps.drop (k+1)) (op+Pg.opn kd) (k+1)):=by show _=_;rw[HL1.out,Tm,if_neg (by rintro ⟨h,_⟩;exact h4 h)]
     clear HL1 h4;generalize Pg.opn kd=d at *;go_wp2_with (first|(with_reducible refine gld 156 ?_;refine wpList_load_mid rfl 156 _ rfl _ _ rfl _ _ hr u_a rfl (by rw[Y9];exact Y8) ?_)|(with_reducible refine gst 156 ?_;refine wpList_store_mid rfl 156 _ _ rfl _ _ _ rfl rfl (by simpa[Y9]using hNf) (by simpa[Y9]using Y8) (all_oneCell_toArray (YZ _ _ _ _ _ _)) ?_;rw[List.toList_toArray,<-HW3.out]));refine(HO.out _).mono ?_;rintro e w' ⟨rfl,rfl⟩;go_wp2_with fail;go_roundw
     case rel=>exact⟨k+1,op+d,by go_num,rfl,by omega,by omega,by omega,hB3,HL3⟩
     case measure=>simp[intOf];omega
   ·have hge:¬(k:Int)<(ps.length:Int):=by omega
    have hkn:k=ps.length:=by omega
    subst hkn;have HL2:Hid (R=ps.length):=by show _=_;rw[HL.out,List.drop_eq_nil_of_le (by omega)];rfl
    clear HL;go_wp2_with fail;go_ret;exact⟨YS (by have:=HL2.out;omega),hB⟩
theorem M3 (ad:Option Addr) (cap:Nat) (ps:List Pt) (w:World) (hn:ps.length<=100) (hP:PS ad ps w):
  Calls Tryz.prog 102 #[.slice ad ps.length cap] w fun e w'=>e=.returned (.int .i64 (Xk ps 0 0:Nat))/\Below w.heap.size w w':=by
 rcases ps with _|⟨p0,ps0⟩
 ·go_enter Tryz.func102,Tryz.ntmps102;go_wp2_with fail
  go_loop [8] (fun x=>x=.int .i64 0) (fun _=>0)
  case atStart=>rfl
  case round=>
   subst hrel;go_wp2_with fail;go_ret;exact⟨rfl,Below.refl _ _⟩
 ·obtain⟨g,o,rfl,hr0⟩:=hP 0 p0 rfl;have hgw:g<w.heap.size:=World.block_lt_of_cell? w ⟨g,o+0*261+0,none⟩ (hr0 0 _ rfl);have HP:Hid (∀w',Below w.heap.size w w'->∀(k:Nat) (p:Pt),(p0::ps0)[k]?=some p->w'.rangeAt g (o+k*261) (Y0 p.kd p.pl p.f p.le p.mo p.fa)):=fun w' hW k p hp=>by
   obtain⟨g',o',e,h⟩:=hP k p hp;cases e;exact fun j v hv=>by rw[hW.cell (p:=⟨g,o+k*261+j,none⟩) hgw];exact h j v hv
  obtain⟨ps,hps⟩:=nam (p0::ps0);rw[<-hps]at HP hn ⊢;clear hP hr0 hps;obtain⟨R,hR⟩:=nam (Xk ps 0 0);rw[<-hR];have HR:=hyd hR;clear hR;go_enter Tryz.func102,Tryz.ntmps102;go_wp2_with fail
  go_loopw [3,8] (fun oo x w'=>∃(k:Nat) (op:Int),x=.int .i64 k/\oo=.int .i64 op/\k<=ps.length/\-(k:Int)<=op/\op<=k/\Below w.heap.size w w'/\Hid (R=Xk (ps.drop k) op k)) (fun _ x _=>101-(intOf x).toNat)
  case atStart=>exact⟨0,0,rfl,rfl,by omega,by omega,by omega,Below.refl _ _,HR⟩
  case round=>
   clear HR;obtain⟨k,op,rfl,rfl,hk,ho0,ho1,hB,HL⟩:=hrel;by_cases hlt:k<ps.length
   ·obtain⟨p,hp⟩:∃p,ps[k]?=some p:=⟨ps[k],List.getElem?_eq_getElem hlt⟩;have hdr:ps.drop k=p::ps.drop (k+1):=by
     rw[List.drop_eq_getElem_cons hlt];congr 1;rw[List.getElem?_eq_getElem hlt]at hp;exact Option.some.inj hp
    have hr:=HP.out wr hB k p hp;have hz:=X5 wr;have hN:=YF.boxed wr 0 0 (fun _=>false) 0 0 0 156;have hNf:=hN.free;have hM:=hN.put p.kd p.pl p.f p.le p.mo p.fa;have hW3:Below wr.heap.size wr ((wr.alloc (Obj.cells (Y0 0 0 (fun _=>false) 0 0 0).toArray 156)).setCells wr.heap.size 0 (Y0 p.kd p.pl p.f p.le p.mo p.fa)):=((Below.refl _ _).alloc (Nat.le_refl _) _).trans (Y4 wr.heap.size wr.heap.size 0 (Nat.le_refl _) _ _ 0);obtain⟨W3,hW3e⟩:=nam (((wr.alloc (Obj.cells (Y0 0 0 (fun _=>false) 0 0 0).toArray 156)).setCells wr.heap.size 0 (Y0 p.kd p.pl p.f p.le p.mo p.fa)));rw[<-hW3e]at hM hW3;have HW3:=hyd hW3e;clear hW3e;have hB3:=hB.trans (hW3.mono hB.size);have hlti:(k:Int)<(ps.length:Int):=by omega
    have HL1:Hid (R=Xk (p::ps.drop (k+1)) op k):=by show _=_;rw[HL.out,hdr]
    clear HL hdr hp;obtain⟨kd,pl,f,le,mo,fa⟩:=p;simp only at *;have c0:=hM.c0;have hon:=Pg.opn_bd kd;have HO:Hid (∀W,Calls Tryz.prog 82 #[.int .i64 kd] W fun e w'=>e=.returned (.int .i64 (Pg.opn kd))/\w'=W):=fun W=>Uo kd W
    have HA1:Hid (op+Pg.opn kd=0->Xk ((⟨kd,pl,f,le,mo,fa⟩:Pt)::ps.drop (k+1)) op k=k+1):=fun h=>by rw[Xk,if_pos h]
    have HA2:Hid (¬op+Pg.opn kd=0->Xk ((⟨kd,pl,f,le,mo,fa⟩:Pt)::ps.drop (k+1)) op k=Xk (ps.drop (k+1)) (op+Pg.opn kd) (k+1)):=fun h=>by rw[Xk,if_neg h]
    generalize Pg.opn kd=d at *;by_cases h0:op+d=0
    ·have q0:(op+d==0)=true:=by simpa using h0
     have HL3:Hid (R=k+1):=by show _=_;rw[HL1.out];exact HA1.out h0
     clear HL1 h0;go_wp2_with (first|(with_reducible refine gld 156 ?_;refine wpList_load_mid rfl 156 _ rfl _ _ rfl _ _ hr u_a rfl (by rw[Y9];exact Y8) ?_)|(with_reducible refine gst 156 ?_;refine wpList_store_mid rfl 156 _ _ rfl _ _ _ rfl rfl (by simpa[Y9]using hNf) (by simpa[Y9]using Y8) (all_oneCell_toArray (YZ _ _ _ _ _ _)) ?_;rw[List.toList_toArray,<-HW3.out]));refine(HO.out _).mono ?_;rintro e w' ⟨rfl,rfl⟩;go_wp2_with fail;go_ret;exact⟨YS (by have:=HL3.out;omega),hB3⟩
    ·have q0:(op+d==0)=false:=by simpa using h0
     have HL3:Hid (R=Xk (ps.drop (k+1)) (op+d) (k+1)):=by show _=_;rw[HL1.out];exact HA2.out h0
     clear HL1 h0;go_wp2_with (first|(with_reducible refine gld 156 ?_;refine wpList_load_mid rfl 156 _ rfl _ _ rfl _ _ hr u_a rfl (by rw[Y9];exact Y8) ?_)|(with_reducible refine gst 156 ?_;refine wpList_store_mid rfl 156 _ _ rfl _ _ _ rfl rfl (by simpa[Y9]using hNf) (by simpa[Y9]using Y8) (all_oneCell_toArray (YZ _ _ _ _ _ _)) ?_;rw[List.toList_toArray,<-HW3.out]));refine(HO.out _).mono ?_;rintro e w' ⟨rfl,rfl⟩;go_wp2_with fail;go_roundw
     case rel=>exact⟨k+1,op+d,by go_num,rfl,by omega,by omega,by omega,hB3,HL3⟩
     case measure=>simp[intOf];omega
   ·have hge:¬(k:Int)<(ps.length:Int):=by omega
    have hkn:k=ps.length:=by omega
    subst hkn;have HL2:Hid (R=ps.length):=by show _=_;rw[HL.out,List.drop_eq_nil_of_le (by omega)];rfl
    clear HL;go_wp2_with fail;go_ret;exact⟨YS (by have:=HL2.out;omega),hB⟩
def Qd (ps:List Pt):Nat->Nat->Nat
 |0,i=>i
 |u+1,i=>match ps[i]? with
  |some p=>if Pg.isSuffix p.kd then Qd ps u (i+1) else i
  |none=>i
def Q6 (ps:List Pt):Nat:=Qd ps (ps.length+1) (Xk ps 0 0)
theorem IM (ps:List Pt):∀op i,Xk ps op i<=i+ps.length:=by
 induction ps with
 |nil=>intro op i;simp[Xk]
 |cons p ps ih=>
  intro op i;rw[Xk];split
  ·simp
  ·have:=ih (op+Pg.opn p.kd) (i+1);simp only[List.length_cons];omega
theorem OQ (ad:Option Addr) (cap:Nat) (ps:List Pt) (w:World) (hn:ps.length<=100) (hP:PS ad ps w):
  Calls Tryz.prog 93 #[.slice ad ps.length cap] w fun e w'=>e=.returned (.int .i64 (Q6 ps:Nat))/\Below w.heap.size w w':=by
 obtain⟨R,hR⟩:∃R,R=Q6 ps:=⟨_,rfl⟩;rw[<-hR];have HR:Hid (R=Qd ps (ps.length+1) (Xk ps 0 0)):=hR;have hal:=IM ps 0 0;have HP:Hid (∀w',Below w.heap.size w w'->PS ad ps w'):=fun w' hW=>hP.below hW
 have HC:=M3 ad cap ps w hn hP;have HC1:Hid (Calls Tryz.prog 102 #[.slice ad ps.length cap] w fun e w'=>e=.returned (.int .i64 (Xk ps 0 0:Nat))/\Below w.heap.size w w'):=HC;clear hR HC hP;generalize Xk ps 0 0=a0 at *;go_enter Tryz.func93,Tryz.ntmps93;go_wp2_with fail;refine HC1.out.mono ?_;rintro e w1 ⟨rfl,hB1⟩;go_wp2_with fail
 go_loopw [3] (fun x w'=>∃(u i:Nat),x=.int .i64 i/\i<=ps.length/\ps.length<u+i/\Below w.heap.size w w'/\Hid (R=Qd ps u i)) (fun x _=>101-(intOf x).toNat)
 case atStart=>exact⟨ps.length+1,a0,rfl,by omega,by omega,hB1,HR⟩
 case round=>
  clear HR hB1;obtain⟨u,i,rfl,hi,hu,hB,HL⟩:=hrel;by_cases hlt:i<ps.length
  ·have hlt':(i:Int)<(ps.length:Int):=by omega
   obtain⟨p,hp⟩:∃p,ps[i]?=some p:=⟨ps[i],List.getElem?_eq_getElem hlt⟩;obtain⟨g,o,e,hr⟩:=HP.out wr hB i p hp;subst e;have c0:wr.cell? ⟨g,o+i*261,none⟩=some (.int .i64 p.kd):=hr 0 _ rfl;rcases u with _|u
   ·omega
   have HL1:Hid (R=if Pg.isSuffix p.kd then Qd ps u (i+1) else i):=by show _=_;rw[HL.out,Qd,hp]
   have HS:Hid (∀W,Calls Tryz.prog 88 #[.int .i64 p.kd] W fun e w'=>e=.returned (.bool (Pg.isSuffix p.kd))/\w'=W):=fun W=>Vc p.kd W
   clear HL hr hp;cases hs:Pg.isSuffix p.kd
   ·have HL2:Hid (R=i):=by show _=_;rw[HL1.out,hs];rfl
    rw[hs]at HS;clear HL1 hs;go_wp2_with fail;refine(HS.out _).mono ?_;rintro e w2 ⟨rfl,rfl⟩;go_wp2_with fail;go_ret;exact⟨YS (by have:=HL2.out;omega),hB⟩
   ·have HL2:Hid (R=Qd ps u (i+1)):=by show _=_;rw[HL1.out,hs];rfl
    rw[hs]at HS;clear HL1 hs;go_wp2_with fail;refine(HS.out _).mono ?_;rintro e w2 ⟨rfl,rfl⟩;go_wp2_with fail;go_roundw
    case rel=>exact⟨u,i+1,by go_num,by omega,by omega,hB,HL2⟩
    case measure=>simp[intOf];omega
  ·have hge:¬(i:Int)<(ps.length:Int):=by omega
   rcases u with _|u
   ·omega
   have HL2:Hid (R=i):=by show _=_;rw[HL.out,Qd,List.getElem?_eq_none (by omega)]
   clear HL;go_wp2_with fail;go_ret;exact⟨YS (by have:=HL2.out;omega),hB⟩
theorem IO (c:Pg.C) (p:Pt) (h:0<=c.ah/\0<=c.la/\∀y∈c.st,0<=y) (hp:0<=p.mo):0<=(Pg.cStep c p).ah/\0<=(Pg.cStep c p).la/\∀y∈(Pg.cStep c p).st,0<=y:=by
 obtain⟨h1,h2,h3⟩:=h;have hc:=Pg.capped_le (c.ah+c.la) (by omega);have hm:=Pg.capped_le (c.la*p.mo) (Int.mul_nonneg h2 hp);unfold Pg.cStep;split
 ·exact⟨hc.1,by simp,h3⟩
 split
 ·refine⟨by simp,by simp,?_⟩;intro y hy;rcases List.mem_cons.1 hy with h|h
  ·subst h;exact hc.1
  ·exact h3 y h
 split
 ·split
  ·exact⟨by simp,hc.1,by simp⟩
  ·rename_i x r hst;refine⟨h3 x (by rw[hst];simp),hc.1,fun y hy=>h3 y (by rw[hst];simp[hy])⟩
 split
 ·exact⟨hc.1,by simp,h3⟩
 split
 ·exact⟨h1,hm.1,h3⟩
 ·exact⟨h1,h2,h3⟩
theorem GV (ps:List Pt):∀(c:Pg.C),(0<=c.ah/\0<=c.la/\∀y∈c.st,0<=y)->(∀p∈ps,0<=p.mo)->0<=(Pg.cRun ps c).ah/\0<=(Pg.cRun ps c).la:=by
 induction ps with
 |nil=>intro c h _;exact⟨h.1,h.2.1⟩
 |cons p r ih=>intro c h hp;exact ih _ (IO c p h (hp p (by simp))) (fun q hq=>hp q (by simp[hq]))
theorem QE (ps:List Pt) (hp:∀p∈ps,0<=p.mo):0<=Pg.countPlaces ps/\Pg.countPlaces ps<=97:=by
 have:=GV ps ⟨0,0,[]⟩ ⟨by simp,by simp,by simp⟩ hp;exact Pg.capped_le _ (by omega)
def Yt (s:ByteArray):Int:=Pg.countPlaces (Pg.readParts (Y5 s) s.size).ps
theorem TP (s:ByteArray):0<=Yt s/\Yt s<=97:=QE _ (fun p hp=>(Pg.readParts_mo _ _ p hp).1)
def ID (f:Nat->ByteArray) (n:Nat) (e r a:Int):Prop:=
 (∃i:Nat,i<n/\(∀j,j<i->(Pg.wrong (Y5 (f j)) (f j).size).1=0)/\Pg.wrong (Y5 (f i)) (f i).size=(e,a)/\e≠0/\r=i) \/
 ((∀j,j<n->(Pg.wrong (Y5 (f j)) (f j).size).1=0)/\r=0/\a=0/\e=if 96<X8 (fun j=>Yt (f j)) n then 7 else 0)
theorem OP (ad:Option Addr) (len cap:Nat) (w:World) (hl:len<=maxLen) (h:len=0\/8<len):
  Calls Tryz.prog 37 #[.slice ad len cap] w fun e' w'=>e'=.returned (.tuple #[.int .i64 1,.int .i64 0,.int .i64 0])/\w'=w:=by
 unfold maxLen at hl;rcases h with h|h
 ·subst h;go_enter Tryz.func37,Tryz.ntmps37;go_wp2_with fail;go_ret3;exact⟨rfl,rfl⟩
 ·have h0:((len:Int)==0)=false:=by simp;omega
  go_enter Tryz.func37,Tryz.ntmps37;go_wp2_with fail;go_ret3;exact⟨rfl,rfl⟩
theorem NN (b off cap n:Nat) (f:Nat->ByteArray) (e r a:Int) (w:World) (h1:1<=n) (h8:n<=8) (hb:b<w.heap.size) (hm:∀i,i<n->(f i).size<=maxLen) (hr:PK b off f n w) (h:ID f n e r a):
  Calls Tryz.prog 37 #[.slice (some ⟨b,off,none⟩) n cap] w fun e' w'=>e'=.returned (.tuple #[.int .i64 e,.int .i64 r,.int .i64 a])/\Below w.heap.size w w':=by
 have hl0:((n:Int)==0)=false:=beq_eq_false_iff_ne.2 (by omega);have Hm:=hyd hm;have Hr:=hyd hr;have Hbd:Hid (∀k,k<=n->0<=X8 (fun j=>Yt (f j)) k/\X8 (fun j=>Yt (f j)) k<=97*k):=by
  show ∀k,k<=n->0<=X8 (fun j=>Yt (f j)) k/\X8 (fun j=>Yt (f j)) k<=97*k;intro k
  induction k with
  |zero=>intro _;simp[X8]
  |succ k ih=>
   intro hk;have:=ih (by omega);have h2:=TP (f k);simp only[X8];omega
 clear hm hr;have Hgo:Hid (∀k,k<n->(Pg.wrong (Y5 (f k)) (f k).size).1=0->∀W,Calls Tryz.prog 38 #[.string (f k)] W fun e w'=>∃v ps,e=.returned (.tuple #[v,.int .i64 0,.int .i64 (Pg.wrong (Y5 (f k)) (f k).size).2])/\Below W.heap.size W w'/\(∀W2,W2=w'->Calls Tryz.prog 63 #[v] W2 fun e2 w2=>e2=.returned (.int .i64 (Yt (f k)))/\Below W2.heap.size W2 w2)/\ps=([]:List Pt)):=by
  show ∀k,k<n->(Pg.wrong (Y5 (f k)) (f k).size).1=0->∀W,Calls Tryz.prog 38 #[.string (f k)] W fun e w'=>∃v ps,e=.returned (.tuple #[v,.int .i64 0,.int .i64 (Pg.wrong (Y5 (f k)) (f k).size).2])/\Below W.heap.size W w'/\(∀W2,W2=w'->Calls Tryz.prog 63 #[v] W2 fun e2 w2=>e2=.returned (.int .i64 (Yt (f k)))/\Below W2.heap.size W2 w2)/\ps=([]:List Pt)
  intro k hk h0 W;refine(Sl (f k) W (Hm.out k hk)).mono ?_;rintro e' w' ⟨v,ps,rfl,hW,hok⟩;obtain⟨hO,hst,hl,_⟩:=hok h0;refine⟨v,[],by rw[h0],hW,?_,rfl⟩;rintro W2 rfl;refine(RI v ps _ _ hl hO ?_).mono ?_
  ·intro p hp;have:=Pg.readParts_mo (Y5 (f k)) (f k).size p.strip (by rw[<-hst];exact List.mem_map.2 ⟨p,hp,rfl⟩);exact this
  ·rintro e2 w2 ⟨rfl,h2⟩;refine⟨YS ?_,h2⟩;rw[Yt,<-hst,Pg.countPlaces_strip]
 rcases h with ⟨i0,hi0,hok,hwr,he,rfl⟩|⟨hok,rfl,rfl,rfl⟩
 ·have Hok:=hyd hok;have Hwr:=hyd hwr;have hne:(e==0)=false:=by simpa using he
  clear hok hwr he;go_enter Tryz.func37,Tryz.ntmps37;go_wp2_with fail
  go_loopw [5,21] (fun x i w'=>∃k:Nat,k<=i0/\i=.int .i64 k/\x=.int .i64 (X8 (fun j=>Yt (f j)) k)/\Below w.heap.size w w') (fun _ i _=>9-(intOf i).toNat)
  case atStart=>exact⟨0,by omega,rfl,rfl,Below.refl _ _⟩
  case round=>
   obtain⟨k,hk,rfl,rfl,hW⟩:=hrel;have hcell:=Hr.out.below hb hW k (by omega);have hkn:(k:Int)<n:=by omega
   by_cases hki:k=i0
   ·subst hki;go_wp2_with fail;refine(Sl (f k) _ (Hm.out k hi0)).mono ?_;rintro e' w1 ⟨v,ps,rfl,hW1,_⟩;rw[Hwr.out];go_wp2_with fail;go_ret3;exact⟨rfl,hW.trans (hW1.mono hW.size)⟩
   ·have hk':k<i0:=by omega
    clear hki;have hb0:=Hbd.out k (by omega);have hpb:=TP (f k);go_wp2_with fail;refine(Hgo.out k (by omega) (Hok.out k hk') _).mono ?_;rintro e' w1 ⟨v,ps,rfl,hW1,hc,_⟩;have Hc:=hc w1 rfl;clear hc;have HC:Hid (Calls Tryz.prog 63 #[v] w1 fun e2 w2=>e2=.returned (.int .i64 (Yt (f k)))/\Below w1.heap.size w1 w2):=Hc;clear Hc;go_wp2_with fail;refine HC.out.mono ?_;rintro e' w2 ⟨rfl,hW2⟩;go_wp2_with fail;go_roundw
    case rel=>
     have hX:=hW.trans (hW1.mono hW.size);exact⟨k+1,by omega,by go_num,rfl,hX.trans (hW2.mono hX.size)⟩
    case measure=>simp[intOf];omega
 ·have Hok:=hyd hok;clear hok;go_enter Tryz.func37,Tryz.ntmps37;go_wp2_with fail
  go_loopw [5,21] (fun x i w'=>∃k:Nat,k<=n/\i=.int .i64 k/\x=.int .i64 (X8 (fun j=>Yt (f j)) k)/\Below w.heap.size w w') (fun _ i _=>9-(intOf i).toNat)
  case atStart=>exact⟨0,by omega,rfl,rfl,Below.refl _ _⟩
  case round=>
   obtain⟨k,hk,rfl,rfl,hW⟩:=hrel;have hb0:=Hbd.out k (by omega);by_cases hkn0:k<n
   ·have hcell:=Hr.out.below hb hW k hkn0;have hkn:(k:Int)<n:=by omega
    have hpb:=TP (f k);go_wp2_with fail;refine(Hgo.out k hkn0 (Hok.out k hkn0) _).mono ?_;rintro e' w1 ⟨v,ps,rfl,hW1,hc,_⟩;have Hc:=hc w1 rfl;clear hc;have HC:Hid (Calls Tryz.prog 63 #[v] w1 fun e2 w2=>e2=.returned (.int .i64 (Yt (f k)))/\Below w1.heap.size w1 w2):=Hc;clear Hc;go_wp2_with fail;refine HC.out.mono ?_;rintro e' w2 ⟨rfl,hW2⟩;go_wp2_with fail;go_roundw
    case rel=>
     have hX:=hW.trans (hW1.mono hW.size);exact⟨k+1,by omega,by go_num,rfl,hX.trans (hW2.mono hX.size)⟩
    case measure=>simp[intOf];omega
   ·have hkk:k=n:=by omega
    subst hkk;by_cases h96:96<X8 (fun j=>Yt (f j)) k
    ·go_wp2_with fail;go_ret3;exact⟨by first|rfl|rw[if_pos (by omega)],hW⟩
    ·go_wp2_with fail;go_ret3;exact⟨by first|rfl|rw[if_neg (by omega)],hW⟩
end Go.Proofs.YtoaaklhpmhjhkabGreat
