import Derived.Deep.AppendLies
import Derived.Test.YtoaaklhpmhjhkabGreatC18
set_option maxRecDepth 100000
set_option maxHeartbeats 4000000
set_option linter.all false
namespace Go.Proofs.YtoaaklhpmhjhkabGreat
open Go.RowKit
open Pg (Pt)
def Pt.cells (p:Pt):List Value:=Y0 p.kd p.pl p.f p.le p.mo p.fa
def Wt (ps:List Pt):List Value:=ps.flatMap Pt.cells
theorem Nm (a b:List Pt):Wt (a++b)=Wt a++Wt b:=by simp[Wt]
theorem I3 (p:Pt):Wt [p]=Pt.cells p:=by simp[Wt]
theorem I2 (ps:List Pt) (k:Nat) (p:Pt) (h:ps[k]?=some p) (j:Nat) (v:Value) (hv:(Pt.cells p)[j]?=some v):(Wt ps)[k*261+j]?=some v:=by
 induction ps generalizing k with
 |nil=>simp at h
 |cons q r ih=>
  have hj:j<261:=by have:=(List.getElem?_eq_some_iff.1 hv).1;simpa[Pt.cells,Y9]using this
  rcases k with _|k
  ·simp only[List.getElem?_cons_zero,Option.some.injEq]at h;subst h;rw[Nat.zero_mul,Nat.zero_add,Wt,List.flatMap_cons,List.getElem?_append_left (by simp[Pt.cells,Y9,hj])];exact hv
  ·simp only[List.getElem?_cons_succ]at h;rw[Wt,List.flatMap_cons,List.getElem?_append_right (by simp[Pt.cells,Y9];omega)];have:(k+1)*261+j-(Pt.cells q).length=k*261+j:=by simp[Pt.cells,Y9];omega
   rw[this];exact ih k h
variable {a:Act}{ops:Array Oper}{Q:Exit->Act->World->Prop}{rest:List Oper}{ps:List Pt}{xs:List Value}{base base' cap g n sz:Nat}{o op:Oper}{v v':Value}{w w':World}
theorem V6 {e:TypeId} (h:w.ownsRow base e 261 (.slice (some ⟨g,0,none⟩) n cap) n (Wt ps)) (k:Nat) (p:Pt) (hp:ps[k]?=some p):
  w.rangeAt g (k*261) (Pt.cells p):=fun j v hv=>by
 have h1:=I2 ps k p hp j v hv;rcases h.2 with ⟨h0,_⟩|⟨g',cap',cur,hv',hb,hg,hle,hm,hsz,htake⟩
 ·cases h0
 ·cases hv';rw[cell_of_row w g (k*261+j) cur e (0,0) hg,<-h1,<-htake];have:k*261+j<n*261:=by
   have:=(List.getElem?_eq_some_iff.1 h1).1;rw[h.1]at this;exact this
  simp[this]
theorem Yw {e:TypeId} (h:w.ownsRow base e sz v n xs) (hW:Below w.heap.size w w'):w'.ownsRow base e sz v n xs:=by
 refine⟨h.1,?_⟩;rcases h.2 with h0|⟨g',cap',cur,hv',hb,hg,hrest⟩
 ·exact Or.inl h0
 ·refine Or.inr ⟨g',cap',cur,hv',hb,?_,hrest⟩;rw[hW.block g' ?_];exact hg;rcases Nat.lt_or_ge g' w.heap.size with hlt|hge
  ·exact hlt
  ·rw[Array.getElem?_eq_none hge]at hg;cases hg
theorem O8 (w:World) (p:Pt):(Instr.buildSlice 103 1 #[(0,.agg (Pt.cells p).toArray)]).run Tryz.prog w=.ok (.slice (some ⟨w.heap.size,0,none⟩) 1 1) (w.alloc (.cells (Pt.cells p).toArray 156)):=by kernel_rfl
theorem QM:∃i,Tryz.prog.info? 156=some i/\i.zero=some (.agg (Y0 0 0 (fun _=>false) 0 0 0).toArray)/\i.size=261/\i.bytes=296:=by
 have h1:(Tryz.prog.info? 156).isSome=true:=by kernel_rfl
 obtain⟨i,hi⟩:=Option.isSome_iff_exists.1 h1;refine⟨i,hi,?_,?_,?_⟩
 ·have:((Tryz.prog.info? 156).bind (·.zero))=some (.agg (Y0 0 0 (fun _=>false) 0 0 0).toArray):=by kernel_rfl
  rw[hi]at this;exact this
 ·have:((Tryz.prog.info? 156).map (·.size))=some 261:=by kernel_rfl
  rw[hi]at this;simpa using this
 ·have:((Tryz.prog.info? 156).map (·.bytes))=some 296:=by kernel_rfl
  rw[hi]at this;simpa using this
theorem Qi (hgd:op.guard=none) (x:Operand) (ho:op.op=.buildSlice 103 1 #[(0,x)])
  (p:Pt) (hx:a.eval x=.agg (Pt.cells p).toArray) (H:Nat) (hH:w.heap.size=H)
  (h:wpList Tryz.prog ops Q rest (a.put op.dst (.slice (some ⟨H,0,none⟩) 1 1)) (w.alloc (.cells (Pt.cells p).toArray 156))):wpList Tryz.prog ops Q (op::rest) a w:=
 wpList_plain hgd fun _ hK=>by
  subst hH;have hr:(Instr.buildSlice 103 1 (#[(0,x)].map fun(i,o)=>(i,a.eval o))).run Tryz.prog w=.ok (.slice (some ⟨w.heap.size,0,none⟩) 1 1) (w.alloc (.cells (Pt.cells p).toArray 156)):=by
   rw[show(#[((0:Nat),x)].map fun(i,o)=>(i,a.eval o))=#[(0,a.eval x)] by simp,hx];exact O8 w p
  unfold Oper.wp execOp;simp only[ho,Sem.run_bind,Sem.run_pure,Result.andThen_ok,hr];exact hK _ _ h
theorem RE {e:TypeId} (h:w.ownsRow base e sz v n xs):∀k,v.ownBlock=some k->base<=k:=by
 intro k hk;rcases h.2 with ⟨rfl,_⟩|⟨g',cap',cur,rfl,hb,_⟩
 ·cases hk
 ·cases hk;exact hb
theorem Vz (b:Nat):∀(vs:List Value) (o:Nat) (w:World),(w.setCells b o vs).heap.size=w.heap.size
 |[],_,_=>rfl
 |v::r,o,w=>by rw[World.setCells,Vz b r];simp[World.setCell]
theorem My (w:World) (H:Nat) (hH:w.heap.size=H) (p:Pt) (t:TypeId):∀j u,(Pt.cells p)[j]?=some u->(w.alloc (.cells (Pt.cells p).toArray t)).cell? ((⟨H,0,none⟩:Addr).add j)=some u:=by
 intro j u hu;subst hH;rw[Addr.add_mid,Nat.zero_add,World.cell?_alloc_new];simpa using hu
theorem TX (hgd:o.guard=none) (s x:Operand)
  (ho:o.op=.call { callee:=.builtin .append,args:=#[s,x],argTypes:=#[103,103] }) (base:Nat)
  (v:Value) (ps:List Pt) (hs:a.eval s=v) (hown:w.ownsRow base 156 261 v ps.length (Wt ps)) (hn:ps.length<=1000)
  (B:Nat) (p:Pt) (hx:a.eval x=.slice (some ⟨B,0,none⟩) 1 1) (hnews:∀j u,(Pt.cells p)[j]?=some u->w.cell? ((⟨B,0,none⟩:Addr).add j)=some u) (hbase:base<=w.heap.size)
  (h:∀g cap w',w'.ownsRow base 156 261 (.slice (some ⟨g,0,none⟩) (ps.length+1) cap) (ps.length+1) (Wt (ps++[p]))->w.grownBy w' v.ownBlock->wpList Tryz.prog ops Q rest (a.put o.dst (.slice (some ⟨g,0,none⟩) (ps.length+1) cap)) w'):wpList Tryz.prog ops Q (o::rest) a w:=by
 obtain⟨i,hi,hz0,hz1,hz2⟩:=QM;refine wpList_append_lies w hgd s x 103 ho base 156 i (.agg (Y0 0 0 (fun _=>false) 0 0 0).toArray) 261 296 u_k hi hz0 hz1 hz2 (by simp[Value.cells,Y9]) (by omega) v ps.length (Wt ps) hs hown ⟨B,0,none⟩ 1 1 (Pt.cells p) hx (by simp[Pt.cells,Y9]) hnews (YZ _ _ _ _ _ _) (by omega) (by unfold maxLen;omega) (by omega) hbase w.heap.size rfl ?_;intro g cap w' h1 h2 h3 h4;refine h g cap w' ?_ h2;rw[Nm,I3];exact h1
def LZ (s:ByteArray) (ps:List Pt):Prop:=∀p∈ps,p.kd=8->p.le=Fn s p.pl
def FC (s:ByteArray) (w:World) (r:Pg.PR) (e:Ending) (w':World):Prop:=
 ∃(v:Value) (ps:List Pt),e=.returned (.tuple #[v,.int .i64 r.n,.bool r.ok])/\Below w.heap.size w w'/\(r.ok=true->w'.ownsRow w.heap.size 156 261 v ps.length (Wt ps)/\ps.map Pt.strip=r.ps/\ps.length<=100/\LZ s ps)
theorem PX (s:ByteArray) (w:World) (hs:s.size<=40):
  Calls Tryz.prog 64 #[.string s] w (FC s w (Pg.readParts (Y5 s) s.size)):=by
 obtain⟨R,hR⟩:=nam (Pg.readParts (Y5 s) s.size);rw[<-hR];have HL0:=hyd hR;clear hR;go_enter Tryz.func64,Tryz.ntmps64;go_wp2_with fail
 go_loopw [5,6,7,8] (fun v b o x w'=>∃(u k:Nat) (bf op:Int) (ps:List Pt),x=.int .i64 k/\b=.int .i64 bf/\o=.int .i64 op/\s.size<u+k/\1<=u/\k<=100/\-(k:Int)<=op/\op<=k/\ps.length<=k/\w'.ownsRow w.heap.size 156 261 v ps.length (Wt ps)/\Below w.heap.size w w'/\Hid (LZ s ps)/\Hid (R=Pg.partsFrom (Y5 s) s.size u bf op k (ps.map Pt.strip))) (fun _ _ _ x _=>101-(intOf x).toNat)
 case atStart=>exact⟨s.size+1,0,0,0,[],rfl,rfl,rfl,by omega,by omega,by omega,by omega,by omega,by simp,⟨rfl,Or.inl ⟨rfl,rfl⟩⟩,Below.refl _ _,(fun p hp=>by cases hp),HL0⟩
 case round=>
  clear HL0;obtain⟨u,k,bf,op,ps,rfl,rfl,rfl,huk,hu1,hk,ho0,ho1,hpl,hown,hB,HLe,HL⟩:=hrel;by_cases hlt:k<s.size
  ·rcases u with _|u
   ·omega
   have hlti:(k:Int)<(s.size:Int):=by omega
   have hbd:=Pg.readPart_bd (Y5 s) s.size k (Pg.kindOf (Y5 s k)) (Qx s) (by omega);have hI:=HL.out;rw[Pg.partsFrom,if_pos hlti]at hI;clear HL;obtain⟨t,ht⟩:=nam (Pg.readPart (Y5 s) s.size k (Pg.kindOf (Y5 s k)));obtain⟨kd,hkd⟩:=nam (Pg.kindOf (Y5 s k));rw[<-hkd]at ht hI hbd;rw[<-ht]at hI hbd;have Ht:=hyd ht;have Hkd:=hyd hkd;have HI:=hyd hI;have Hbd:=hyd hbd;clear hI ht hkd hbd;go_wp2_with fail;refine(YU s (k:Int) _).mono ?_;rintro e W ⟨rfl,rfl⟩;go_wp2_with fail;refine(Mp _ _).mono ?_;rintro e W ⟨rfl,rfl⟩;rw[<-Hkd.out];go_wp2_with fail;refine(Oz kd bf op _).mono ?_;rintro e W ⟨rfl,rfl⟩;cases hcs:Pg.canStand kd bf op
   ·have HR:Hid (R=⟨k,false,[]⟩):=by show _=_;rw[HI.out,hcs];rfl
    clear HI hcs;go_wp2_with fail;go_ret3;rw[HR.out];exact⟨_,[],rfl,hB,fun h=>by cases h⟩
   have HI2:Hid (R=if t.ok then Pg.partsFrom (Y5 s) s.size u kd (Pg.opens kd op) t.n (ps.map Pt.strip++[⟨kd,k,t.f,0,t.mo,t.fa⟩]) else ⟨t.n,false,[]⟩):=by show _=_;rw[HI.out,hcs];rfl
   clear HI hcs;go_wp2_with fail;refine(OZ s k kd _ hs (by omega)).mono ?_;rw[<-Ht.out];rintro e W2 ⟨kd',pl',f',le',mo',fa',rfl,hW2,hok⟩;have Hok:Hid _:=hok;clear hok;have hz:=X5 W2;have hN:=YF.boxed W2 0 0 (fun _=>false) 0 0 0 156;have hst:=hN.store kd' pl' f' le' mo' fa';have hM:=hN.put kd' pl' f' le' mo' fa';have hW3:Below W2.heap.size W2 ((W2.alloc (Obj.cells (Y0 0 0 (fun _=>false) 0 0 0).toArray 156)).setCells W2.heap.size 0 (Y0 kd' pl' f' le' mo' fa')):=((Below.refl _ _).alloc (Nat.le_refl _) _).trans (Y4 W2.heap.size W2.heap.size 0 (Nat.le_refl _) _ _ 0);have hBW2:=hB.trans (hW2.mono hB.size);have hBW3:=hBW2.trans (hW3.mono hBW2.size);cases htok:t.ok
   ·have HR:Hid (R=⟨t.n,false,[]⟩):=by show _=_;rw[HI2.out,htok];rfl
    clear HI2;go_wp2_with fail;go_ret3;rw[HR.out];exact⟨_,[],rfl,hBW3,fun h=>by cases h⟩
   obtain⟨e1,e2,e3,e4,e5,e6⟩:=Hok.out htok;have He6:=hyd e6;clear e6;have hbd:=Hbd.out htok;have HR:Hid (R=Pg.partsFrom (Y5 s) s.size u kd (Pg.opens kd op) t.n (ps.map Pt.strip++[⟨kd,k,t.f,0,t.mo,t.fa⟩])):=by show _=_;rw[HI2.out,htok];rfl
   clear HI2 Hok Hbd;subst e1 e2 e3 e4 e5;obtain⟨nn,hnn⟩:=Int.eq_ofNat_of_zero_le (show 0<=t.n by omega);have Hnn:=hyd hnn;have hnk:k<nn/\nn<=k+45:=by omega
   clear hnn hbd;have hs3:((W2.alloc (Obj.cells (Y0 0 0 (fun _=>false) 0 0 0).toArray 156)).setCells W2.heap.size 0 (Y0 kd' k t.f le' t.mo t.fa)).heap.size=W2.heap.size+1:=by rw[Vz];simp
   have hown3:=Yw (Yw hown hW2) hW3;have hown4:=Yw hown3 ((Below.refl _ _).alloc (Nat.le_refl _) (.cells (Pt.cells ⟨kd',k,t.f,le',t.mo,t.fa⟩).toArray 156));have hBW4:=hBW3.alloc hBW3.size (.cells (Pt.cells ⟨kd',k,t.f,le',t.mo,t.fa⟩).toArray 156);have hnew:=My _ _ hs3 ⟨kd',k,t.f,le',t.mo,t.fa⟩ 156;obtain⟨i,hi,hz0,hz1,hz2⟩:=QM;clear hi hz0 hz1 hz2;have Hs3:Hid _:=hs3;have Hnew:Hid _:=hnew;clear hs3 hnew hown3;have hNf:=hN.free;have hgo:=RE hown4;have HE:∀x,Pg.opens kd' op=x->Hid (R=Pg.partsFrom (Y5 s) s.size u kd' x (nn:Int) ((ps++[(⟨kd',k,t.f,le',t.mo,t.fa⟩:Pt)]).map Pt.strip)):=by
    intro x hx;show _=_;rw[HR.out,hx,Hnn.out,List.map_append];rfl
   have hlen:(ps++[(⟨kd',k,t.f,le',t.mo,t.fa⟩:Pt)]).length=ps.length+1:=by simp
   have Hlen:=hyd hlen;clear hst hlen;have HF:=HE _ (Pg.opens_opn kd' op);have HLe2:Hid (LZ s (ps++[(⟨kd',k,t.f,le',t.mo,t.fa⟩:Pt)])):=fun p hp h8=>by
    rcases List.mem_append.1 hp with h|h
    ·exact HLe.out p h h8
    ·rw[List.mem_singleton.1 h]at h8 ⊢;exact He6.out h8
   have hon:=Pg.opn_bd kd';have HO:Hid (∀W,Calls Tryz.prog 82 #[.int .i64 kd'] W fun e w'=>e=.returned (.int .i64 (Pg.opn kd'))/\w'=W):=fun W=>Uo kd' W
   clear HE HR;generalize Pg.opn kd'=d at *;go_wp2_with (first|(with_reducible refine gst 156 ?_;refine wpList_store_mid rfl 156 _ _ rfl _ _ _ rfl rfl (by simpa[Y9]using hNf) (by simpa[Y9]using Y8) (all_oneCell_toArray (YZ _ _ _ _ _ _)) ?_)|(with_reducible refine gld 156 ?_;refine wpList_load_mid rfl 156 _ rfl _ _ rfl _ _ hM.at_ u_a rfl (by rw[Y9];exact Y8) ?_)|(with_reducible show wpList _ _ _ (⟨_,Op.buildSlice 103 _ _,_,_,_,_⟩::_) _ _;refine Qi rfl _ rfl ⟨kd',k,t.f,le',t.mo,t.fa⟩ rfl (W2.heap.size+1) Hs3.out ?_)|(at_builtin;refine TX (by rfl) _ _ (by rfl) w.heap.size u5 ps (by rfl) hown4 (by omega) (W2.heap.size+1) ⟨kd',k,t.f,le',t.mo,t.fa⟩ (by rfl) Hnew.out hBW4.size ?_;intro g cap w5 hown5 hgrow));refine(HO.out _).mono ?_;rintro e w' ⟨rfl,rfl⟩;go_wp2_with fail;rw[Hnn.out];go_roundw
   case rel=>exact⟨u,nn,kd',op+d,ps++[⟨kd',k,t.f,le',t.mo,t.fa⟩],rfl,rfl,rfl,by omega,by omega,by omega,by omega,by omega,by rw[Hlen.out];omega,by rw[Hlen.out];exact hown5,hBW4.grown hgrow hBW4.size hgo,HLe2,HF⟩
   case measure=>simp[intOf];omega
  ·have hge:¬(k:Int)<(s.size:Int):=by omega
   rcases u with _|u
   ·omega
   by_cases ho:op=0
   ·have HR:Hid (R=⟨k,true,ps.map Pt.strip⟩):=by show _=_;rw[HL.out,Pg.partsFrom,if_neg hge,ho];rfl
    have hob:(op==0)=true:=by simpa using ho
    clear HL ho;go_wp2_with fail;go_ret3;rw[HR.out];exact⟨u5,ps,rfl,hB,fun _=>⟨hown,rfl,by omega,HLe.out⟩⟩
   ·have hob:(op==0)=false:=by simpa using ho
    have HR:Hid (R=⟨k,false,ps.map Pt.strip⟩):=by show _=_;rw[HL.out,Pg.partsFrom,if_neg hge,hob]
    clear HL ho;go_wp2_with fail;go_ret3;rw[HR.out];exact⟨u5,ps,rfl,hB,fun h=>by cases h⟩
variable {P:Program}
theorem Ty (hw:Region.wanted op (yielded ops a.tmps)=true) (ty:TypeId) (x:Operand) (ho:op.op=.load ty x)
  (b o:Nat) (hx:a.eval x=.pointer (some ⟨b,o,none⟩)) (cs:List Value) (d:TypeDesc) (hc:w.rangeAt b o cs)
  (hu:P.underlying ty=some d) (hd:d.isRow=true) (hi:(P.info? ty).map (·.size)=some cs.length)
  (h:wpList P ops Q rest (a.put op.dst (.agg cs.toArray)) w):wpList P ops Q (op::rest) a w:=
 wpList_step fun K hK=>by rw[if_pos hw];exact wp_load_mid ty x ho b o hx cs d hc hu hd hi (hK _ _ h)
theorem Oj (v:Value) (ps:List Pt) (base:Nat) (w:World) (hn:ps.length<=100) (hown:w.ownsRow base 156 261 v ps.length (Wt ps)):
  Calls Tryz.prog 65 #[v] w fun e w'=>e=.returned (.int .i64 (Pg.tooDeep ps 0))/\Below w.heap.size w w':=by
 rcases hown.2 with ⟨rfl,h0⟩|⟨g,cap,cur,rfl,hbg,_⟩
 ·have:ps=[]:=List.eq_nil_of_length_eq_zero h0;subst this;go_enter Tryz.func65,Tryz.ntmps65;go_wp2_with fail
  go_loop [8] (fun x=>x=.int .i64 0) (fun _=>0)
  case atStart=>rfl
  case round=>
   subst hrel;go_wp2_with fail;go_ret;exact⟨rfl,Below.refl _ _⟩
 ·go_enter Tryz.func65,Tryz.ntmps65;go_wp2_with fail
  go_loopw [3,8] (fun o x w'=>∃(k:Nat) (op:Int),x=.int .i64 k/\o=.int .i64 op/\k<=ps.length/\-(k:Int)<=op/\op<=k/\w'.ownsRow base 156 261 (.slice (some ⟨g,0,none⟩) ps.length cap) ps.length (Wt ps)/\Below w.heap.size w w'/\Hid (Pg.tooDeep ps 0=Pg.tooDeep (ps.drop k) op)) (fun _ x _=>101-(intOf x).toNat)
  case atStart=>exact⟨0,0,rfl,rfl,by omega,by omega,by omega,hown,Below.refl _ _,rfl⟩
  case round=>
   obtain⟨k,op,rfl,rfl,hk,ho0,ho1,hO,hB,HL⟩:=hrel;by_cases hlt:k<ps.length
   ·obtain⟨p,hp⟩:∃p,ps[k]?=some p:=⟨ps[k],List.getElem?_eq_getElem hlt⟩;have hdr:ps.drop k=p::ps.drop (k+1):=by
     rw[List.drop_eq_getElem_cons hlt];congr 1;rw[List.getElem?_eq_getElem hlt]at hp;exact Option.some.inj hp
    have hr:wr.rangeAt g (k*261) (Y0 p.kd p.pl p.f p.le p.mo p.fa):=V6 hO k p hp;have hz:=X5 wr;have hN:=YF.boxed wr 0 0 (fun _=>false) 0 0 0 156;have hNf:=hN.free;have hM:=hN.put p.kd p.pl p.f p.le p.mo p.fa;have hW3:Below wr.heap.size wr ((wr.alloc (Obj.cells (Y0 0 0 (fun _=>false) 0 0 0).toArray 156)).setCells wr.heap.size 0 (Y0 p.kd p.pl p.f p.le p.mo p.fa)):=((Below.refl _ _).alloc (Nat.le_refl _) _).trans (Y4 wr.heap.size wr.heap.size 0 (Nat.le_refl _) _ _ 0);obtain⟨W3,hW3e⟩:∃W,W=((wr.alloc (Obj.cells (Y0 0 0 (fun _=>false) 0 0 0).toArray 156)).setCells wr.heap.size 0 (Y0 p.kd p.pl p.f p.le p.mo p.fa)):=⟨_,rfl⟩;rw[<-hW3e]at hM hW3;have HW3:Hid (W3=((wr.alloc (Obj.cells (Y0 0 0 (fun _=>false) 0 0 0).toArray 156)).setCells wr.heap.size 0 (Y0 p.kd p.pl p.f p.le p.mo p.fa))):=hW3e;clear hW3e;have hO3:=Yw hO hW3;have hB3:=hB.trans (hW3.mono hB.size);have hlti:(k:Int)<(ps.length:Int):=by omega
    have HL1:Hid (Pg.tooDeep ps 0=if 6<Pg.opens p.kd op then p.pl else Pg.tooDeep (ps.drop (k+1)) (Pg.opens p.kd op)):=by show _=_;rw[HL.out,hdr,Pg.tooDeep]
    clear HL hdr hp;obtain⟨kd,pl,f,le,mo,fa⟩:=p;simp only at *;have c0:=hM.c0;have c1:=hM.c1;have hon:=Pg.opn_bd kd;have HO:Hid (∀W,Calls Tryz.prog 82 #[.int .i64 kd] W fun e w'=>e=.returned (.int .i64 (Pg.opn kd))/\w'=W):=fun W=>Uo kd W
    rw[Pg.opens_opn]at HL1;generalize Pg.opn kd=d at *;by_cases h6:6<op+d
    ·have HL3:Hid (Pg.tooDeep ps 0=pl):=by show _=_;rw[HL1.out,if_pos h6]
     clear HL1;go_wp2_with (first|(with_reducible refine gld 156 ?_;refine wpList_load_mid rfl 156 _ rfl _ _ rfl _ _ hr u_a rfl (by rw[Y9];exact Y8) ?_)|(with_reducible refine gst 156 ?_;refine wpList_store_mid rfl 156 _ _ rfl _ _ _ rfl rfl (by simpa[Y9]using hNf) (by simpa[Y9]using Y8) (all_oneCell_toArray (YZ _ _ _ _ _ _)) ?_;rw[List.toList_toArray,<-HW3.out]));refine(HO.out _).mono ?_;rintro e w' ⟨rfl,rfl⟩;go_wp2_with fail;go_ret;exact⟨YS HL3.out.symm,hB3⟩
    ·have HL3:Hid (Pg.tooDeep ps 0=Pg.tooDeep (ps.drop (k+1)) (op+d)):=by show _=_;rw[HL1.out,if_neg h6]
     clear HL1;go_wp2_with (first|(with_reducible refine gld 156 ?_;refine wpList_load_mid rfl 156 _ rfl _ _ rfl _ _ hr u_a rfl (by rw[Y9];exact Y8) ?_)|(with_reducible refine gst 156 ?_;refine wpList_store_mid rfl 156 _ _ rfl _ _ _ rfl rfl (by simpa[Y9]using hNf) (by simpa[Y9]using Y8) (all_oneCell_toArray (YZ _ _ _ _ _ _)) ?_;rw[List.toList_toArray,<-HW3.out]));refine(HO.out _).mono ?_;rintro e w' ⟨rfl,rfl⟩;go_wp2_with fail;go_roundw
     case rel=>exact⟨k+1,op+d,by go_num,rfl,by omega,by omega,by omega,hO3,hB3,HL3⟩
     case measure=>simp[intOf];omega
   ·have hge:¬(k:Int)<(ps.length:Int):=by omega
    have HL2:Hid (Pg.tooDeep ps 0=-1):=by show _=_;rw[HL.out,List.drop_eq_nil_of_le (by omega)];rfl
    clear HL;go_wp2_with fail;go_ret;exact⟨YS HL2.out.symm,hB⟩
theorem Jb:∃i,Tryz.prog.info? 3=some i/\i.zero=some (.int .i64 0)/\i.size=1/\i.bytes=8:=by
 have h1:(Tryz.prog.info? 3).isSome=true:=by kernel_rfl
 obtain⟨i,hi⟩:=Option.isSome_iff_exists.1 h1;refine⟨i,hi,?_,?_,?_⟩
 ·have:((Tryz.prog.info? 3).bind (·.zero))=some (.int .i64 0):=by kernel_rfl
  rw[hi]at this;exact this
 ·have:((Tryz.prog.info? 3).map (·.size))=some 1:=by kernel_rfl
  rw[hi]at this;simpa using this
 ·have:((Tryz.prog.info? 3).map (·.bytes))=some 8:=by kernel_rfl
  rw[hi]at this;simpa using this
def RJ (l:List Int):List Value:=l.map fun x=>.int .i64 x
theorem wpList_append_int (hgd:o.guard=none) (s x:Operand)
  (ho:o.op=.call { callee:=.builtin .append,args:=#[s,x],argTypes:=#[39,39] }) (base:Nat)
  (v:Value) (l:List Int) (hs:a.eval s=v) (hown:w.ownsRow base 3 1 v l.length (RJ l)) (hn:l.length<=1000)
  (B:Nat) (y:Int) (hx:a.eval x=.slice (some ⟨B,0,none⟩) 1 1) (hnews:w.cell? ⟨B,0,none⟩=some (.int .i64 y)) (hbase:base<=w.heap.size)
  (h:∀g cap w',w'.ownsRow base 3 1 (.slice (some ⟨g,0,none⟩) (l.length+1) cap) (l.length+1) (RJ (l++[y]))->w.grownBy w' v.ownBlock->wpList Tryz.prog ops Q rest (a.put o.dst (.slice (some ⟨g,0,none⟩) (l.length+1) cap)) w'):wpList Tryz.prog ops Q (o::rest) a w:=by
 obtain⟨i,hi,hz0,hz1,hz2⟩:=Jb;refine wpList_append_lies w hgd s x 39 ho base 3 i (.int .i64 0) 1 8 u_f hi hz0 hz1 hz2 rfl (by omega) v l.length (RJ l) hs hown ⟨B,0,none⟩ 1 1 [.int .i64 y] hx rfl ?_ (by simp[Value.oneCell']) (by omega) (by unfold maxLen;omega) (by omega) hbase w.heap.size rfl ?_
 ·intro j u hu;rcases j with _|j
  ·simp at hu;subst hu;simpa[Addr.add_mid]using hnews
  ·simp at hu
 ·intro g cap w' h1 h2 h3 h4;refine h g cap w' ?_ h2;simpa[RJ]using h1
theorem PE {e:TypeId}{l:List Int}{x:Int} (h:w.ownsRow base e 1 (.slice (some ⟨g,0,none⟩) (l.length+1) cap) (l.length+1) (RJ (l++[x]))) (hn:n=l.length):w.cell? ⟨g,n,none⟩=some (.int .i64 x):=by
 subst hn;rw[h.cellAt l.length (by omega)];simp[RJ]
theorem Sb {e:TypeId}{l:List Int}{x:Int} (h:w.ownsRow base e 1 (.slice (some ⟨g,0,none⟩) (l.length+1) cap) (l.length+1) (RJ (l++[x]))):w.ownsRow base e 1 (.slice (some ⟨g,0,none⟩) l.length cap) l.length (RJ l):=
 ownsRow_pop (last:=[.int .i64 x]) (by simp[RJ]) (by simpa[RJ]using h)
theorem Mz {e e':TypeId}{sz' n':Nat}{xs':List Value} (h:w.ownsRow base e sz v n xs) (_h':w.ownsRow base' e' sz' v' n' xs') (hg:w.grownBy w' v'.ownBlock) (hne:∀k,v.ownBlock=some k->v'.ownBlock≠some k):w'.ownsRow base e sz v n xs:=by
 refine⟨h.1,?_⟩;rcases h.2 with h0|⟨g,cap,cur,hv,hb,hg',hrest⟩
 ·exact Or.inl h0
 ·refine Or.inr ⟨g,cap,cur,hv,hb,?_,hrest⟩;have hlt:g<w.heap.size:=by
   rcases Nat.lt_or_ge g w.heap.size with hlt|hge
   ·exact hlt
   ·rw[Array.getElem?_eq_none hge]at hg';cases hg'
  rw[hg.block g hlt (fun e=>hne g (by rw[hv];rfl) e.symm)];exact hg'
theorem Ui (n:Int) (h:0<=n):0<=Pg.capped n/\Pg.capped n<=97:=by unfold Pg.capped;split<;>omega
theorem RI (v:Value) (ps:List Pt) (base:Nat) (w:World) (hn:ps.length<=100) (hown:w.ownsRow base 156 261 v ps.length (Wt ps)) (hmo:∀p∈ps,0<=p.mo/\p.mo<=9):
  Calls Tryz.prog 63 #[v] w fun e w'=>e=.returned (.int .i64 (Pg.countPlaces ps))/\Below w.heap.size w w':=by
 rcases hown.2 with ⟨rfl,h0⟩|⟨g,cap,cur,rfl,hbg,hgc,_⟩
 ·have:ps=[]:=List.eq_nil_of_length_eq_zero h0;subst this;go_enter Tryz.func63,Tryz.ntmps63;go_wp2_with fail
  go_loop [4,5,11] (fun xa xl x=>xa=.int .i64 0/\xl=.int .i64 0/\x=.int .i64 0) (fun _ _ _=>0)
  case atStart=>exact⟨rfl,rfl,rfl⟩
  case round=>
   obtain⟨rfl,rfl,rfl⟩:=hrel;go_wp2_with fail;refine(YD _ _).mono ?_;rintro e W ⟨rfl,rfl⟩;go_wp2_with fail;go_ret;exact⟨rfl,Below.refl _ _⟩
 ·have hgw:g<w.heap.size:=by
   rcases Nat.lt_or_ge g w.heap.size with hlt|hge
   ·exact hlt
   ·rw[Array.getElem?_eq_none hge]at hgc;cases hgc
  clear hgc;have Hmo:Hid (∀p∈ps,0<=p.mo/\p.mo<=9):=hmo;clear hmo;go_enter Tryz.func63,Tryz.ntmps63;go_wp2_with fail
  go_loopw [3,4,5,11] (fun vo xa xl x w'=>∃(k:Nat) (ah la:Int) (l:List Int),x=.int .i64 k/\xa=.int .i64 ah/\xl=.int .i64 la/\k<=ps.length/\0<=ah/\ah<=97/\0<=la/\la<=97/\l.length<=k/\(∀y∈l,0<=y/\y<=97)/\w'.ownsRow w.heap.size 3 1 vo l.length (RJ l)/\w'.ownsRow base 156 261 (.slice (some ⟨g,0,none⟩) ps.length cap) ps.length (Wt ps)/\Below w.heap.size w w'/\Hid (Pg.cRun ps ⟨0,0,[]⟩=Pg.cRun (ps.drop k) ⟨ah,la,l.reverse⟩)) (fun _ _ _ x _=>101-(intOf x).toNat)
  case atStart=>exact⟨0,0,0,[],rfl,rfl,rfl,by omega,by omega,by omega,by omega,by omega,by simp,by simp,⟨rfl,Or.inl ⟨rfl,rfl⟩⟩,hown,Below.refl _ _,rfl⟩
  case round=>
   obtain⟨k,ah,la,l,rfl,rfl,rfl,hk,ha0,ha1,hl0,hl1,hll,hly,hV,hO,hB,HL⟩:=hrel;have Hly:Hid (∀y∈l,0<=y/\y<=97):=hly;clear hly;have hcb:=Ui (ah+la) (by omega);by_cases hlt:k<ps.length
   ·obtain⟨p,hp⟩:∃p,ps[k]?=some p:=⟨ps[k],List.getElem?_eq_getElem hlt⟩;have hdr:ps.drop k=p::ps.drop (k+1):=by
     rw[List.drop_eq_getElem_cons hlt];congr 1;rw[List.getElem?_eq_getElem hlt]at hp;exact Option.some.inj hp
    have hr:wr.rangeAt g (k*261) (Y0 p.kd p.pl p.f p.le p.mo p.fa):=V6 hO k p hp;have hz:=X5 wr;have hN:=YF.boxed wr 0 0 (fun _=>false) 0 0 0 156;have hNf:=hN.free;have hM:=hN.put p.kd p.pl p.f p.le p.mo p.fa;have hW3:Below wr.heap.size wr ((wr.alloc (Obj.cells (Y0 0 0 (fun _=>false) 0 0 0).toArray 156)).setCells wr.heap.size 0 (Y0 p.kd p.pl p.f p.le p.mo p.fa)):=((Below.refl _ _).alloc (Nat.le_refl _) _).trans (Y4 wr.heap.size wr.heap.size 0 (Nat.le_refl _) _ _ 0);have hO3:=Yw hO hW3;have hB3:=hB.trans (hW3.mono hB.size);have hlti:(k:Int)<(ps.length:Int):=by omega
    have hV3:=Yw hV hW3;have HL1:Hid (Pg.cRun ps ⟨0,0,[]⟩=Pg.cRun (ps.drop (k+1)) (Pg.cStep ⟨ah,la,l.reverse⟩ p)):=by show _=_;rw[HL.out,hdr,Pg.cRun]
    have hpm:=Hmo.out p (by have:=List.mem_of_getElem? hp;exact this);clear HL hdr hp;obtain⟨kd,pl,f,le,mo,fa⟩:=p;simp only at *;have c0:=hM.c0;have c4:=hM.c4;by_cases h1:kd=1
    ·subst h1;have HL2:Hid (Pg.cRun ps ⟨0,0,[]⟩=Pg.cRun (ps.drop (k+1)) ⟨Pg.capped (ah+la),1,l.reverse⟩):=HL1;clear HL1;go_wp2_with (first|(with_reducible refine gld 156 ?_;refine wpList_load_mid rfl 156 _ rfl _ _ rfl _ _ hr u_a rfl (by rw[Y9];exact Y8) ?_)|(with_reducible refine gst 156 ?_;refine wpList_store_mid rfl 156 _ _ rfl _ _ _ rfl rfl (by simpa[Y9]using hNf) (by simpa[Y9]using Y8) (all_oneCell_toArray (YZ _ _ _ _ _ _)) ?_));refine(YD _ _).mono ?_;rintro e W ⟨rfl,rfl⟩;go_wp2_with fail;go_roundw
     case rel=>exact⟨k+1,_,1,l,by go_num,rfl,rfl,by omega,hcb.1,hcb.2,by omega,by omega,by omega,Hly.out,hV3,hO3,hB3,HL2⟩
     case measure=>simp[intOf];omega
    have b1:(kd==1)=false:=by simpa using h1
    by_cases h2:kd=2
    ·subst h2;have HL2:Hid (Pg.cRun ps ⟨0,0,[]⟩=Pg.cRun (ps.drop (k+1)) ⟨0,0,(l++[Pg.capped (ah+la)]).reverse⟩):=by show _=_;rw[HL1.out,List.reverse_append];rfl
     have hly2:∀y∈l++[Pg.capped (ah+la)],0<=y/\y<=97:=by
      intro y hy;rcases List.mem_append.1 hy with h|h
      ·exact Hly.out y h
      ·simp only[List.mem_singleton]at h;subst h;exact hcb
     have Hly2:Hid (∀y∈l++[Pg.capped (ah+la)],0<=y/\y<=97):=hly2;clear HL1 hly2;go_wp2_with (first|(with_reducible refine gld 156 ?_;refine wpList_load_mid rfl 156 _ rfl _ _ rfl _ _ hr u_a rfl (by rw[Y9];exact Y8) ?_)|(with_reducible refine gst 156 ?_;refine wpList_store_mid rfl 156 _ _ rfl _ _ _ rfl rfl (by simpa[Y9]using hNf) (by simpa[Y9]using Y8) (all_oneCell_toArray (YZ _ _ _ _ _ _)) ?_));refine(YD _ _).mono ?_;rintro e W ⟨rfl,rfl⟩;generalize Pg.capped (ah+la)=cc at *;generalize hWW:(wr.alloc (Obj.cells (Y0 0 0 (fun _=>false) 0 0 0).toArray 156)).setCells wr.heap.size 0 (Y0 2 pl f le mo fa)=W at *;clear hWW hr hz hN hNf hM c0 c4 hW3;have hV4:=Yw hV3 ((Below.refl _ _).alloc (Nat.le_refl _) (.cells #[.int .i64 cc] 3));have hO4:=Yw hO3 ((Below.refl _ _).alloc (Nat.le_refl _) (.cells #[.int .i64 cc] 3));have hB4:=hB3.alloc hB3.size (.cells #[.int .i64 cc] 3);have hnew:(W.alloc (.cells #[.int .i64 cc] 3)).cell? ⟨W.heap.size,0,none⟩=some (.int .i64 cc):=by rw[World.cell?_alloc_new];rfl
     go_wp2_with (first|(at_builtin;refine wpList_append_int (by rfl) _ _ (by rfl) w.heap.size u3 l (by rfl) hV4 (by omega) W.heap.size cc (by rfl) hnew hB4.size ?_;intro g2 cap2 w5 hV5 hgrow));have hO5:=Mz hO4 hV4 hgrow (fun q hq=>by cases hq;intro hq2;have:=RE hV4 g hq2;omega);go_roundw
     case rel=>exact⟨k+1,0,0,l++[cc],by go_num,rfl,rfl,by omega,by omega,by omega,by omega,by omega,by simp;omega,Hly2.out,by simpa using hV5,hO5,hB4.grown hgrow hB4.size (RE hV4),HL2⟩
     case measure=>simp[intOf];omega
    have b2:(kd==2)=false:=by simpa using h2
    by_cases h3:kd=3
    ·subst h3;rcases List.eq_nil_or_concat l with hl|⟨l',x,hl⟩
     ·subst hl;have HL2:Hid (Pg.cRun ps ⟨0,0,[]⟩=Pg.cRun (ps.drop (k+1)) ⟨0,Pg.capped (ah+la),([]:List Int).reverse⟩):=HL1;clear HL1;rcases hV3.2 with ⟨hv3,_⟩|⟨g3,cap3,cur3,hv3,_⟩
      ·subst hv3;go_wp2_with (first|(with_reducible refine gld 156 ?_;refine wpList_load_mid rfl 156 _ rfl _ _ rfl _ _ hr u_a rfl (by rw[Y9];exact Y8) ?_)|(with_reducible refine gst 156 ?_;refine wpList_store_mid rfl 156 _ _ rfl _ _ _ rfl rfl (by simpa[Y9]using hNf) (by simpa[Y9]using Y8) (all_oneCell_toArray (YZ _ _ _ _ _ _)) ?_));refine(YD _ _).mono ?_;rintro e W ⟨rfl,rfl⟩;go_wp2_with fail;go_roundw
       case rel=>exact⟨k+1,0,_,[],by go_num,rfl,rfl,by omega,by omega,by omega,hcb.1,hcb.2,by simp,by simp,hV3,hO3,hB3,HL2⟩
       case measure=>simp[intOf];omega
      ·subst hv3;go_wp2_with (first|(with_reducible refine gld 156 ?_;refine wpList_load_mid rfl 156 _ rfl _ _ rfl _ _ hr u_a rfl (by rw[Y9];exact Y8) ?_)|(with_reducible refine gst 156 ?_;refine wpList_store_mid rfl 156 _ _ rfl _ _ _ rfl rfl (by simpa[Y9]using hNf) (by simpa[Y9]using Y8) (all_oneCell_toArray (YZ _ _ _ _ _ _)) ?_));refine(YD _ _).mono ?_;rintro e W ⟨rfl,rfl⟩;go_wp2_with fail;go_roundw
       case rel=>exact⟨k+1,0,_,[],by go_num,rfl,rfl,by omega,by omega,by omega,hcb.1,hcb.2,by simp,by simp,hV3,hO3,hB3,HL2⟩
       case measure=>simp[intOf];omega
     ·subst hl;have HL2:Hid (Pg.cRun ps ⟨0,0,[]⟩=Pg.cRun (ps.drop (k+1)) ⟨x,Pg.capped (ah+la),l'.reverse⟩):=by show _=_;rw[HL1.out,List.concat_eq_append,List.reverse_append];rfl
      clear HL1;have hx:=Hly.out x (by simp);have Hly2:Hid (∀y∈l',0<=y/\y<=97):=fun y hy=>Hly.out y (by simp[hy])
      have hlen:(l'.concat x).length=l'.length+1:=by simp
      rw[hlen,List.concat_eq_append]at hV3;have hll2:l'.length+1<=k:=by omega
      clear hll hlen Hly;rcases hV3.2 with ⟨_,h0⟩|⟨g3,cap3,cur3,hv3,hge3,hh3,hle3,_⟩
      ·omega
      subst hv3;have hla:=PE hV3 rfl;have hpop:=Sb hV3;have i1:(0:Int)<(l'.length:Int)+1:=by omega
      have i2:(0:Int)<=(l'.length:Int)/\(l'.length:Int)<(l'.length:Int)+1:=by omega
      go_wp2_with (first|(with_reducible refine gld 156 ?_;refine wpList_load_mid rfl 156 _ rfl _ _ rfl _ _ hr u_a rfl (by rw[Y9];exact Y8) ?_)|(with_reducible refine gst 156 ?_;refine wpList_store_mid rfl 156 _ _ rfl _ _ _ rfl rfl (by simpa[Y9]using hNf) (by simpa[Y9]using Y8) (all_oneCell_toArray (YZ _ _ _ _ _ _)) ?_));refine(YD _ _).mono ?_;rintro e W ⟨rfl,rfl⟩;go_wp2_with fail;go_roundw
      case rel=>exact⟨k+1,x,_,l',by go_num,rfl,rfl,by omega,hx.1,hx.2,hcb.1,hcb.2,by omega,Hly2.out,hpop,hO3,hB3,HL2⟩
      case measure=>simp[intOf];omega
    have b3:(kd==3)=false:=by simpa using h3
    by_cases h4:kd=4
    ·subst h4;have HL2:Hid (Pg.cRun ps ⟨0,0,[]⟩=Pg.cRun (ps.drop (k+1)) ⟨Pg.capped (ah+la),0,l.reverse⟩):=HL1;clear HL1;go_wp2_with (first|(with_reducible refine gld 156 ?_;refine wpList_load_mid rfl 156 _ rfl _ _ rfl _ _ hr u_a rfl (by rw[Y9];exact Y8) ?_)|(with_reducible refine gst 156 ?_;refine wpList_store_mid rfl 156 _ _ rfl _ _ _ rfl rfl (by simpa[Y9]using hNf) (by simpa[Y9]using Y8) (all_oneCell_toArray (YZ _ _ _ _ _ _)) ?_));refine(YD _ _).mono ?_;rintro e W ⟨rfl,rfl⟩;go_wp2_with fail;go_roundw
     case rel=>exact⟨k+1,_,0,l,by go_num,rfl,rfl,by omega,hcb.1,hcb.2,by omega,by omega,by omega,Hly.out,hV3,hO3,hB3,HL2⟩
     case measure=>simp[intOf];omega
    have b4:(kd==4)=false:=by simpa using h4
    by_cases h8:kd=8
    ·subst h8;have hm0:0<=la*mo:=Int.mul_nonneg hl0 hpm.1;have hm1:la*mo<=97*9:=Int.mul_le_mul hl1 hpm.2 hpm.1 (by omega);have hcm:=Ui (la*mo) hm0;have HL2:Hid (Pg.cRun ps ⟨0,0,[]⟩=Pg.cRun (ps.drop (k+1)) ⟨ah,Pg.capped (la*mo),l.reverse⟩):=HL1;clear HL1;go_wp2_with (first|(with_reducible refine gld 156 ?_;refine wpList_load_mid rfl 156 _ rfl _ _ rfl _ _ hr u_a rfl (by rw[Y9];exact Y8) ?_)|(with_reducible refine gst 156 ?_;refine wpList_store_mid rfl 156 _ _ rfl _ _ _ rfl rfl (by simpa[Y9]using hNf) (by simpa[Y9]using Y8) (all_oneCell_toArray (YZ _ _ _ _ _ _)) ?_));refine(YD _ _).mono ?_;rintro e W ⟨rfl,rfl⟩;go_wp2_with fail;go_roundw
     case rel=>exact⟨k+1,ah,_,l,by go_num,rfl,rfl,by omega,ha0,ha1,hcm.1,hcm.2,by omega,Hly.out,hV3,hO3,hB3,HL2⟩
     case measure=>simp[intOf];omega
    ·have b8:(kd==8)=false:=by simpa using h8
     have HL2:Hid (Pg.cRun ps ⟨0,0,[]⟩=Pg.cRun (ps.drop (k+1)) ⟨ah,la,l.reverse⟩):=by
      show _=_;rw[HL1.out];simp only[Pg.cStep,if_neg h1,if_neg h2,if_neg h3,if_neg h4,if_neg h8]
     clear HL1 h1 h2 h3 h4 h8;go_wp2_with (first|(with_reducible refine gld 156 ?_;refine wpList_load_mid rfl 156 _ rfl _ _ rfl _ _ hr u_a rfl (by rw[Y9];exact Y8) ?_)|(with_reducible refine gst 156 ?_;refine wpList_store_mid rfl 156 _ _ rfl _ _ _ rfl rfl (by simpa[Y9]using hNf) (by simpa[Y9]using Y8) (all_oneCell_toArray (YZ _ _ _ _ _ _)) ?_));go_roundw
     case rel=>exact⟨k+1,ah,la,l,by go_num,rfl,rfl,by omega,ha0,ha1,hl0,hl1,by omega,Hly.out,hV3,hO3,hB3,HL2⟩
     case measure=>simp[intOf];omega
   ·have hge:¬(k:Int)<(ps.length:Int):=by omega
    have HL2:Hid (Pg.cRun ps ⟨0,0,[]⟩=⟨ah,la,l.reverse⟩):=by show _=_;rw[HL.out,List.drop_eq_nil_of_le (by omega)];rfl
    clear HL;go_wp2_with fail;refine(YD _ _).mono ?_;rintro e W ⟨rfl,rfl⟩;go_wp2_with fail;go_ret;exact⟨YS (by rw[Pg.countPlaces,HL2.out]),hB⟩
theorem Nj (v:Value) (ps:List Pt) (base:Nat) (w:World) (hn:ps.length<=100) (hown:w.ownsRow base 156 261 v ps.length (Wt ps)):
  Calls Tryz.prog 66 #[v] w fun e w'=>e=.returned (.int .i64 (Pg.falling ps))/\Below w.heap.size w w':=by
 rcases hown.2 with ⟨rfl,h0⟩|⟨g,cap,cur,rfl,hbg,_⟩
 ·have:ps=[]:=List.eq_nil_of_length_eq_zero h0;subst this;go_enter Tryz.func66,Tryz.ntmps66;go_wp2_with fail
  go_loop [7] (fun x=>x=.int .i64 0) (fun _=>0)
  case atStart=>rfl
  case round=>
   subst hrel;go_wp2_with fail;go_ret;exact⟨rfl,Below.refl _ _⟩
 ·go_enter Tryz.func66,Tryz.ntmps66;go_wp2_with fail
  go_loopw [7] (fun x w'=>∃(k:Nat),x=.int .i64 k/\k<=ps.length/\w'.ownsRow base 156 261 (.slice (some ⟨g,0,none⟩) ps.length cap) ps.length (Wt ps)/\Below w.heap.size w w'/\Hid (Pg.falling ps=Pg.falling (ps.drop k))) (fun x _=>101-(intOf x).toNat)
  case atStart=>exact⟨0,rfl,by omega,hown,Below.refl _ _,rfl⟩
  case round=>
   obtain⟨k,rfl,hk,hO,hB,HL⟩:=hrel;by_cases hlt:k<ps.length
   ·obtain⟨p,hp⟩:∃p,ps[k]?=some p:=⟨ps[k],List.getElem?_eq_getElem hlt⟩;have hdr:ps.drop k=p::ps.drop (k+1):=by
     rw[List.drop_eq_getElem_cons hlt];congr 1;rw[List.getElem?_eq_getElem hlt]at hp;exact Option.some.inj hp
    have hr:wr.rangeAt g (k*261) (Y0 p.kd p.pl p.f p.le p.mo p.fa):=V6 hO k p hp;have hz:=X5 wr;have hN:=YF.boxed wr 0 0 (fun _=>false) 0 0 0 156;have hNf:=hN.free;have hM:=hN.put p.kd p.pl p.f p.le p.mo p.fa;have hW3:Below wr.heap.size wr ((wr.alloc (Obj.cells (Y0 0 0 (fun _=>false) 0 0 0).toArray 156)).setCells wr.heap.size 0 (Y0 p.kd p.pl p.f p.le p.mo p.fa)):=((Below.refl _ _).alloc (Nat.le_refl _) _).trans (Y4 wr.heap.size wr.heap.size 0 (Nat.le_refl _) _ _ 0);have hO3:=Yw hO hW3;have hB3:=hB.trans (hW3.mono hB.size);have hlti:(k:Int)<(ps.length:Int):=by omega
    have HL1:Hid (Pg.falling ps=if p.fa=-1 then Pg.falling (ps.drop (k+1)) else p.fa):=by show _=_;rw[HL.out,hdr,Pg.falling]
    clear HL hdr hp;obtain⟨kd,pl,f,le,mo,fa⟩:=p;simp only at *;have c5:=hM.c5;by_cases h6:fa=-1
    ·subst h6;have HL3:Hid (Pg.falling ps=Pg.falling (ps.drop (k+1))):=by show _=_;rw[HL1.out,if_pos rfl]
     clear HL1;go_wp2_with (first|(with_reducible refine gld 156 ?_;refine wpList_load_mid rfl 156 _ rfl _ _ rfl _ _ hr u_a rfl (by rw[Y9];exact Y8) ?_)|(with_reducible refine gst 156 ?_;refine wpList_store_mid rfl 156 _ _ rfl _ _ _ rfl rfl (by simpa[Y9]using hNf) (by simpa[Y9]using Y8) (all_oneCell_toArray (YZ _ _ _ _ _ _)) ?_));go_roundw
     case rel=>exact⟨k+1,by go_num,by omega,hO3,hB3,HL3⟩
     case measure=>simp[intOf];omega
    ·have HL3:Hid (Pg.falling ps=fa):=by show _=_;rw[HL1.out,if_neg h6]
     have hb2:(fa != -1)=true:=by simpa using h6
     clear HL1 h6;go_wp2_with (first|(with_reducible refine gld 156 ?_;refine wpList_load_mid rfl 156 _ rfl _ _ rfl _ _ hr u_a rfl (by rw[Y9];exact Y8) ?_)|(with_reducible refine gst 156 ?_;refine wpList_store_mid rfl 156 _ _ rfl _ _ _ rfl rfl (by simpa[Y9]using hNf) (by simpa[Y9]using Y8) (all_oneCell_toArray (YZ _ _ _ _ _ _)) ?_));go_ret;exact⟨YS HL3.out.symm,hB3⟩
   ·have hge:¬(k:Int)<(ps.length:Int):=by omega
    have HL2:Hid (Pg.falling ps=-1):=by show _=_;rw[HL.out,List.drop_eq_nil_of_le (by omega)];rfl
    clear HL;go_wp2_with fail;go_ret;exact⟨YS HL2.out.symm,hB⟩
theorem PU (v:Value) (ps:List Pt) (base:Nat) (w:World) (hn:ps.length<=100) (hown:w.ownsRow base 156 261 v ps.length (Wt ps)):
  Calls Tryz.prog 67 #[v] w fun e w'=>e=.returned (.int .i64 (Pg.matchless ps))/\Below w.heap.size w w':=by
 rcases hown.2 with ⟨rfl,h0⟩|⟨g,cap,cur,rfl,hbg,_⟩
 ·have:ps=[]:=List.eq_nil_of_length_eq_zero h0;subst this;go_enter Tryz.func67,Tryz.ntmps67;go_wp2_with fail
  go_loop [7] (fun x=>x=.int .i64 0) (fun _=>0)
  case atStart=>rfl
  case round=>
   subst hrel;go_wp2_with fail;go_ret;exact⟨rfl,Below.refl _ _⟩
 ·go_enter Tryz.func67,Tryz.ntmps67;go_wp2_with fail
  go_loopw [7] (fun x w'=>∃(k:Nat),x=.int .i64 k/\k<=ps.length/\w'.ownsRow base 156 261 (.slice (some ⟨g,0,none⟩) ps.length cap) ps.length (Wt ps)/\Below w.heap.size w w'/\Hid (Pg.matchless ps=Pg.matchless (ps.drop k))) (fun x _=>101-(intOf x).toNat)
  case atStart=>exact⟨0,rfl,by omega,hown,Below.refl _ _,rfl⟩
  case round=>
   obtain⟨k,rfl,hk,hO,hB,HL⟩:=hrel;by_cases hlt:k<ps.length
   ·obtain⟨p,hp⟩:∃p,ps[k]?=some p:=⟨ps[k],List.getElem?_eq_getElem hlt⟩;have hdr:ps.drop k=p::ps.drop (k+1):=by
     rw[List.drop_eq_getElem_cons hlt];congr 1;rw[List.getElem?_eq_getElem hlt]at hp;exact Option.some.inj hp
    have hr:wr.rangeAt g (k*261) (Y0 p.kd p.pl p.f p.le p.mo p.fa):=V6 hO k p hp;have hz:=X5 wr;have hN:=YF.boxed wr 0 0 (fun _=>false) 0 0 0 156;have hNf:=hN.free;have hM:=hN.put p.kd p.pl p.f p.le p.mo p.fa;have hW3:Below wr.heap.size wr ((wr.alloc (Obj.cells (Y0 0 0 (fun _=>false) 0 0 0).toArray 156)).setCells wr.heap.size 0 (Y0 p.kd p.pl p.f p.le p.mo p.fa)):=((Below.refl _ _).alloc (Nat.le_refl _) _).trans (Y4 wr.heap.size wr.heap.size 0 (Nat.le_refl _) _ _ 0);have hO3:=Yw hO hW3;have hB3:=hB.trans (hW3.mono hB.size);have hlti:(k:Int)<(ps.length:Int):=by omega
    have HL1:Hid (Pg.matchless ps=if p.kd=1/\Rf.cntTo p.f 256=0 then p.pl else Pg.matchless (ps.drop (k+1))):=by show _=_;rw[HL.out,hdr,Pg.matchless]
    clear HL hdr hp;obtain⟨kd,pl,f,le,mo,fa⟩:=p;simp only at *;have c0:=hM.c0;by_cases h1:kd=1
    ·subst h1;go_wp2_with (first|(with_reducible refine gld 156 ?_;refine wpList_load_mid rfl 156 _ rfl _ _ rfl _ _ hr u_a rfl (by rw[Y9];exact Y8) ?_)|(with_reducible refine gst 156 ?_;refine wpList_store_mid rfl 156 _ _ rfl _ _ _ rfl rfl (by simpa[Y9]using hNf) (by simpa[Y9]using Y8) (all_oneCell_toArray (YZ _ _ _ _ _ _)) ?_)|(with_reducible refine gld 146 ?_;refine Ty (by kernel_rfl) 146 _ rfl _ _ rfl _ _ hM.set u_d rfl (by rw[YY];exact YL) ?_;simp only[psm]));refine(Nr f _).mono ?_;rintro e W4 ⟨rfl,hW4⟩;have hM4:=hM.below hM.lt hW4;have c1:=hM4.c1;have hO4:=Yw hO3 hW4;have hB4:=hB3.trans (hW4.mono hB3.size);by_cases hc:Rf.cntTo f 256=0
     ·have hcb:(Rf.cntTo f 256==0)=true:=by simpa using hc
      have HL3:Hid (Pg.matchless ps=pl):=by show _=_;rw[HL1.out];simp[hc]
      rw[hcb];clear HL1 hc hcb;go_wp2_with fail;go_ret;exact⟨YS HL3.out.symm,hB4⟩
     ·have hcb:(Rf.cntTo f 256==0)=false:=by simpa using hc
      have HL3:Hid (Pg.matchless ps=Pg.matchless (ps.drop (k+1))):=by show _=_;rw[HL1.out,if_neg (fun h=>hc h.2)]
      rw[hcb];clear HL1 hc hcb;go_wp2_with fail;go_roundw
      case rel=>exact⟨k+1,by go_num,by omega,hO4,hB4,HL3⟩
      case measure=>simp[intOf];omega
    ·have HL3:Hid (Pg.matchless ps=Pg.matchless (ps.drop (k+1))):=by show _=_;rw[HL1.out,if_neg (fun h=>h1 h.1)]
     have hb:(kd==1)=false:=by simpa using h1
     clear HL1 h1;go_wp2_with (first|(with_reducible refine gld 156 ?_;refine wpList_load_mid rfl 156 _ rfl _ _ rfl _ _ hr u_a rfl (by rw[Y9];exact Y8) ?_)|(with_reducible refine gst 156 ?_;refine wpList_store_mid rfl 156 _ _ rfl _ _ _ rfl rfl (by simpa[Y9]using hNf) (by simpa[Y9]using Y8) (all_oneCell_toArray (YZ _ _ _ _ _ _)) ?_));go_roundw
     case rel=>exact⟨k+1,by go_num,by omega,hO3,hB3,HL3⟩
     case measure=>simp[intOf];omega
   ·have hge:¬(k:Int)<(ps.length:Int):=by omega
    have HL2:Hid (Pg.matchless ps=-1):=by show _=_;rw[HL.out,List.drop_eq_nil_of_le (by omega)];rfl
    clear HL;go_wp2_with fail;go_ret;exact⟨YS HL2.out.symm,hB⟩
def FD (w:World) (s:ByteArray) (e:Ending) (w':World):Prop:=
 ∃(v:Value) (ps:List Pt),e=.returned (.tuple #[v,.int .i64 (Pg.wrong (Y5 s) s.size).1,.int .i64 (Pg.wrong (Y5 s) s.size).2])/\Below w.heap.size w w' /\
  ((Pg.wrong (Y5 s) s.size).1=0->w'.ownsRow w.heap.size 156 261 v ps.length (Wt ps)/\ps.map Pt.strip=(Pg.readParts (Y5 s) s.size).ps/\ps.length<=100/\LZ s ps)
theorem Sl (s:ByteArray) (w:World) (hm:s.size<=maxLen):Calls Tryz.prog 38 #[.string s] w (FD w s):=by
 unfold maxLen at hm;by_cases h40:40<s.size
 ·have HW:Hid (Pg.wrong (Y5 s) s.size=(2,0)):=by show _=_;rw[Pg.wrong,if_pos (by omega)]
  go_enter Tryz.func38,Tryz.ntmps38;go_wp2_with fail;go_ret3;refine⟨_,[],by rw[HW.out];rfl,Below.refl _ _,fun h=>?_⟩;rw[HW.out]at h;cases h
 have hs:s.size<=40:=by omega
 have HW0:Hid (Pg.wrong (Y5 s) s.size=if (Pg.readParts (Y5 s) s.size).ok then (if Pg.tooDeep (Pg.readParts (Y5 s) s.size).ps 0=-1 then (if Pg.falling (Pg.readParts (Y5 s) s.size).ps=-1 then (if Pg.matchless (Pg.readParts (Y5 s) s.size).ps=-1 then (0,0) else (6,Pg.matchless (Pg.readParts (Y5 s) s.size).ps)) else (5,Pg.falling (Pg.readParts (Y5 s) s.size).ps)) else (4,Pg.tooDeep (Pg.readParts (Y5 s) s.size).ps 0)) else (3,(Pg.readParts (Y5 s) s.size).n)):=by show _=_;rw[Pg.wrong,if_neg (by omega)]
 clear hm;go_enter Tryz.func38,Tryz.ntmps38;go_wp2_with fail;refine(PX s _ hs).mono ?_;rintro e w1 ⟨v,ps,rfl,hW1,hok⟩;generalize hRR:Pg.readParts (Y5 s) s.size=R at *;have HRR:Hid (Pg.readParts (Y5 s) s.size=R):=hRR;clear hRR;obtain⟨n,ok,rps⟩:=R;have Hok:Hid (ok=true->w1.ownsRow w.heap.size 156 261 v ps.length (Wt ps)/\ps.map Pt.strip=rps/\ps.length<=100/\LZ s ps):=hok;clear hok;cases ok
 ·have HW:Hid (Pg.wrong (Y5 s) s.size=(3,n)):=HW0;go_wp2_with fail;go_ret3;refine⟨_,[],by rw[HW.out];rfl,hW1,fun h=>?_⟩;rw[HW.out]at h;cases h
 obtain⟨hO,hst,hl,hle⟩:=Hok.out rfl;have HLe:Hid (LZ s ps):=hle;clear hle;have e1:Pg.tooDeep rps 0=Pg.tooDeep ps 0:=by rw[<-hst,Pg.tooDeep_strip]
 have e2:Pg.falling rps=Pg.falling ps:=by rw[<-hst,Pg.falling_strip]
 have e3:Pg.matchless rps=Pg.matchless ps:=by rw[<-hst,Pg.matchless_strip]
 have HW1:Hid (Pg.wrong (Y5 s) s.size=if Pg.tooDeep ps 0=-1 then (if Pg.falling ps=-1 then (if Pg.matchless ps=-1 then (0,0) else (6,Pg.matchless ps)) else (5,Pg.falling ps)) else (4,Pg.tooDeep ps 0)):=by
  show _=_;have:=HW0.out;simp only[if_true]at this;rw[e1,e2,e3]at this;exact this
 have Hst:=hyd hst;clear HW0 e1 e2 e3 Hok hst;go_wp2_with fail;refine(Oj v ps _ _ hl hO).mono ?_;rintro e w2 ⟨rfl,hW2⟩;have hO2:=Yw hO hW2;have hB2:=hW1.trans (hW2.mono hW1.size);generalize Pg.tooDeep ps 0=td at *;by_cases h1:td=-1
 ·subst h1;go_wp2_with fail;refine(Nj v ps _ _ hl hO2).mono ?_;rintro e w3 ⟨rfl,hW3⟩;have hO3:=Yw hO2 hW3;have hB3:=hB2.trans (hW3.mono hB2.size);generalize Pg.falling ps=fl at *;by_cases h2:fl=-1
  ·subst h2;go_wp2_with fail;refine(PU v ps _ _ hl hO3).mono ?_;rintro e w4 ⟨rfl,hW4⟩;have hO4:=Yw hO3 hW4;have hB4:=hB3.trans (hW4.mono hB3.size);generalize Pg.matchless ps=ml at *;by_cases h3:ml=-1
   ·subst h3;have HW:Hid (Pg.wrong (Y5 s) s.size=(0,0)):=HW1;go_wp2_with fail;go_ret3;exact⟨v,ps,by rw[HW.out];rfl,hB4,fun _=>⟨hO4,by rw[HRR.out];exact Hst.out,hl,HLe.out⟩⟩
   ·have HW:Hid (Pg.wrong (Y5 s) s.size=(6,ml)):=by show _=_;rw[HW1.out];simp[h3]
    have hb2:(ml != -1)=true:=by simpa using h3
    clear h3 HW1;go_wp2_with fail;go_ret3;refine⟨_,[],by rw[HW.out];rfl,hB4,fun h=>?_⟩;rw[HW.out]at h;cases h
  ·have HW:Hid (Pg.wrong (Y5 s) s.size=(5,fl)):=by show _=_;rw[HW1.out];simp[h2]
   have hb2:(fl != -1)=true:=by simpa using h2
   clear h2 HW1;go_wp2_with fail;go_ret3;refine⟨_,[],by rw[HW.out];rfl,hB3,fun h=>?_⟩;rw[HW.out]at h;cases h
 ·have HW:Hid (Pg.wrong (Y5 s) s.size=(4,td)):=by show _=_;rw[HW1.out];simp[h1]
  have hb2:(td != -1)=true:=by simpa using h1
  clear h1 HW1;go_wp2_with fail;go_ret3;refine⟨_,[],by rw[HW.out];rfl,hB2,fun h=>?_⟩;rw[HW.out]at h;cases h
end Go.Proofs.YtoaaklhpmhjhkabGreat
