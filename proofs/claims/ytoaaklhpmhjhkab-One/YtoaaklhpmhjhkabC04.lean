import Derived.Test.YtoaaklhpmhjhkabC03
set_option maxRecDepth 100000
set_option maxHeartbeats 4000000
set_option linter.all false
namespace Go.Proofs.Ytoaaklhpmhjhkab
open Go.RowKit
theorem GT:∀(f:Nat) (g:Bool) (ts:List Tk) (V:Int),Is f g ts V->∀t∈ts,WS t:=by
 intro f
 induction f with
 |zero=>intro g ts V h;exact absurd h (by simp[Is])
 |succ f ih=>
  intro g ts V h t ht;cases g
  ·unfold Is at h;rcases h with ⟨t',rfl,h2,_,_⟩|⟨a,inn,b,rfl,h2,_,h4,_,h6⟩|⟨q,t',A,rfl,h2,h3,_,_⟩
   ·rw[List.mem_singleton]at ht;subst ht;exact h2
   ·simp only[List.mem_cons,List.mem_append,List.not_mem_nil,or_false]at ht;rcases ht with rfl|ht|rfl
    ·exact h2
    ·exact ih _ _ _ h6 t ht
    ·exact h4
   ·simp only[List.mem_append,List.mem_singleton]at ht;rcases ht with ht|rfl
    ·exact ih _ _ _ h2 t ht
    ·exact h3
  ·unfold Is at h;rcases h with ⟨rfl,_⟩|⟨t',r,rfl,h2,_,h4⟩|⟨p,r,A,B,rfl,h2,h3,_,_⟩
   ·exact absurd ht (by simp)
   ·rcases List.mem_cons.1 ht with rfl|ht
    ·exact h2
    ·exact ih _ _ _ h4 t ht
   ·rcases List.mem_append.1 ht with ht|ht
    ·exact ih _ _ _ h2 t ht
    ·exact ih _ _ _ h3 t ht
def QJ (c:UInt8):Bool:=Rf.has Rf.suffixes c.toNat
theorem KG (c:UInt8):QJ c=true<->(c=42\/c=43\/c=63\/c=123):=by
 have h:∀d:UInt8,((d.toNat:Int)==(c.toNat:Int))=true<->c=d:=by
  intro d;rw[beq_iff_eq];constructor
  ·intro h;exact(UInt8.toNat_inj.1 (by omega))
  ·intro h;rw[h]
 simp only[QJ,Rf.has,Rf.suffixes,Bool.or_eq_true,h,Bool.false_eq_true,or_false]
theorem WB {t:Tk} (h:WS t):∃c w,t.w=c::w/\(QJ c=true<->Yr t)/\(c=124<->t.kd=4)/\(c=40<->t.kd=2)/\(c=123<->t.kd=8):=by
 have fin:∀(c:UInt8) (w:List UInt8) (k:Int),t.w=c::w->t.kd=k->(QJ c=true<->(k=5\/k=6\/k=7\/k=8))->(c=124<->k=4)->(c=40<->k=2)->(c=123<->k=8) ->
   ∃c w,t.w=c::w/\(QJ c=true<->Yr t)/\(c=124<->t.kd=4)/\(c=40<->t.kd=2)/\(c=123<->t.kd=8):=by
  intro c w k h1 h2 h3 h4 h5 h6;refine⟨c,w,h1,?_,?_,?_,?_⟩
  ·unfold Yr;rw[h2];exact h3
  ·rw[h2];exact h4
  ·rw[h2];exact h5
  ·rw[h2];exact h6
 rcases h with ⟨hk,h⟩|⟨hk,hw⟩|⟨hk,hw⟩|⟨hk,hw⟩|⟨hk,hw⟩|⟨hk,hw⟩|⟨hk,hw⟩|⟨hk,h⟩
 ·rcases h with ⟨c,hw,hs⟩|⟨e,v0,hw,_⟩|⟨e,hw,_⟩
  ·unfold XY at hs;refine fin c [] 1 hw hk ?_ ?_ ?_ ?_
   ·rw[KG];constructor
    ·intro h;exact absurd (by rcases h with h|h|h|h<;>simp[h]) hs
    ·intro h;omega
   ·constructor
    ·intro h;exact absurd (by simp[h]) hs
    ·intro h;omega
   ·constructor
    ·intro h;exact absurd (by simp[h]) hs
    ·intro h;omega
   ·constructor
    ·intro h;exact absurd (by simp[h]) hs
    ·intro h;omega
  ·exact fin 92 e 1 hw hk (by decide) (by decide) (by decide) (by decide)
  ·exact fin 91 e 1 hw hk (by decide) (by decide) (by decide) (by decide)
 ·exact fin 40 [] 2 hw hk (by decide) (by decide) (by decide) (by decide)
 ·exact fin 41 [] 3 hw hk (by decide) (by decide) (by decide) (by decide)
 ·exact fin 124 [] 4 hw hk (by decide) (by decide) (by decide) (by decide)
 ·exact fin 42 [] 5 hw hk (by decide) (by decide) (by decide) (by decide)
 ·exact fin 43 [] 6 hw hk (by decide) (by decide) (by decide) (by decide)
 ·exact fin 63 [] 7 hw hk (by decide) (by decide) (by decide) (by decide)
 ·rcases h with ⟨x,hw,_⟩|⟨x,z,hw,_⟩
  ·exact fin 123 _ 8 hw hk (by decide) (by decide) (by decide) (by decide)
  ·exact fin 123 _ 8 hw hk (by decide) (by decide) (by decide) (by decide)
variable {b' m' mo o' : Int}{p r x y : List UInt8}{V d i : Nat}{c : UInt8}
theorem WH {f:Nat} (hd:p.drop i=c::r) (h:c≠125):Rf.closeFrom p (f+1) i=Rf.closeFrom p f (i+1):=by
 rw[Rf.closeFrom,hd];simp only[if_neg h]
theorem Q1 {f:Nat} (hd:p.drop i=125::r):Rf.closeFrom p (f+1) i=some (i+1):=by
 rw[Rf.closeFrom,hd];simp only[if_true]
theorem SA {l:List UInt8} (hd:p.drop i=l):l.length=p.length-i:=by
 rw[<-hd];simp
theorem RJ {t:Tk} (h:WS t) (hs:Yr t) (p:List UInt8) (i:Nat) (r:List UInt8) (hd:p.drop i=t.w++r):Rf.suffixed p i=some (i+t.w.length):=by
 have one:∀c:UInt8,c≠123->t.w=[c]->Rf.suffixed p i=some (i+t.w.length):=by
  intro c hc hw;rw[hw]at hd ⊢;rw[Rf.suffixed,hd];simp only[List.cons_append,if_neg hc];rfl
 unfold Yr at hs;rcases h with ⟨hk,_⟩|⟨hk,_⟩|⟨hk,_⟩|⟨hk,_⟩|⟨hk,hw⟩|⟨hk,hw⟩|⟨hk,hw⟩|⟨hk,h⟩
 ·omega
 ·omega
 ·omega
 ·omega
 ·exact one 42 (by decide) hw
 ·exact one 43 (by decide) hw
 ·exact one 63 (by decide) hw
 ·have dig:∀x:UInt8,48<=(x.toNat:Int)->(x.toNat:Int)<=57->x≠125:=by
   intro x h1 h2 e;subst e;revert h1 h2;decide
  rcases h with ⟨x,hw,x1,x2,_⟩|⟨x,z,hw,x1,x2,z1,z2,_⟩
  ·rw[hw]at hd ⊢;have d1:p.drop (i+1)=x::125::r:=by rw[<-YT,hd];rfl
   have d2:p.drop (i+2)=125::r:=by rw[<-YT,hd];rfl
   have hl:=SA hd;simp at hl;obtain⟨v,hv⟩:∃v,p.length+1=v+1+1+1:=⟨p.length-2,by omega⟩;rw[Rf.suffixed,hd];simp only[List.cons_append,if_true];rw[hv,WH hd (by decide),WH d1 (dig x x1 x2),Q1 d2];rfl
  ·rw[hw]at hd ⊢;have d1:p.drop (i+1)=x::44::z::125::r:=by rw[<-YT,hd];rfl
   have d2:p.drop (i+2)=44::z::125::r:=by rw[<-YT,hd];rfl
   have d3:p.drop (i+3)=z::125::r:=by rw[<-YT,hd];rfl
   have d4:p.drop (i+4)=125::r:=by rw[<-YT,hd];rfl
   have hl:=SA hd;simp at hl;obtain⟨v,hv⟩:∃v,p.length+1=v+1+1+1+1+1:=⟨p.length-4,by omega⟩;rw[Rf.suffixed,hd];simp only[List.cons_append,if_true];rw[hv,WH hd (by decide),WH d1 (dig x x1 x2),WH d2 (by decide),WH d3 (dig z z1 z2),Q1 d4];rfl
def GV (ts:List Tk):Prop:=∀t∈ts,WS t/\Yr t
theorem MC {ts:List Tk} (h:∀t∈ts,WS t):ts.length<=(Yg ts).length:=by
 induction ts with
 |nil=>simp
 |cons t r ih=>
  obtain⟨c,w,hw,_⟩:=WB (h t (by simp));have:=ih (fun t' ht=>h t' (by simp[ht]));rw[Yp,List.length_append,hw];simp;omega
theorem Nf:∀(ts:List Tk),GV ts->∀(p:List UInt8) (i f:Nat) (r:List UInt8),p.drop i=Yg ts++r->(∀c r',r=c::r'->QJ c=false)->ts.length<f->Rf.pieceFrom p f i=some (i+(Yg ts).length):=by
 intro ts
 induction ts with
 |nil=>
  intro _ p i f r hd hr hf;obtain⟨f,rfl⟩:∃q,f=q+1:=⟨f-1,by omega⟩;simp only[Yg,List.flatMap_nil,List.nil_append,List.length_nil,Nat.add_zero]at hd ⊢;rw[Rf.pieceFrom,hd];rcases r with _|⟨c,r'⟩
  ·rfl
  ·have:=hr c r' rfl;unfold QJ at this;simp only[this];rfl
 |cons t ts ih=>
  intro hs p i f r hd hr hf;obtain⟨f,rfl⟩:∃q,f=q+1:=⟨f-1,by omega⟩;obtain⟨h1,h2⟩:=hs t (by simp);rw[Yp,List.append_assoc]at hd;obtain⟨c,w,hw,hc,_⟩:=WB h1;have hcs:=hc.2 h2;unfold QJ at hcs;have hstep:=RJ h1 h2 p i _ hd;have hd2:p.drop (i+t.w.length)=Yg ts++r:=by rw[<-YT,hd,List.drop_left]
  have hd':=hd;rw[hw,List.cons_append]at hd';rw[Rf.pieceFrom,hd'];simp only[hcs,if_true];rw[hstep];simp only;rw[ih (fun t' ht=>hs t' (by simp[ht])) p _ f r hd2 hr (by simp at hf;omega),Yp,List.length_append,Nat.add_assoc]
theorem Nv:∀(ts:List Tk),GV ts->∀(t:Tk),WS t->Yr t->∀(p:List UInt8) (i cut f:Nat),p.drop i=Yg ts++t.w->ts.length+1<f->Rf.splitFrom p f i cut=some (i+(Yg ts).length):=by
 intro ts
 induction ts with
 |nil=>
  intro _ t h1 h2 p i cut f hd hf;obtain⟨f,rfl⟩:∃q,f=q+1+1:=⟨f-2,by simp at hf;omega⟩;have hd0:p.drop i=t.w++[]:=by rw[hd];simp[Yg]
  have hstep:=RJ h1 h2 p i [] hd0;have hd2:p.drop (i+t.w.length)=[]:=by rw[<-YT,hd0,List.drop_left]
  obtain⟨c,w,hw,_⟩:=WB h1;rw[hw,List.cons_append]at hd0;rw[Rf.splitFrom,hd0];simp only[hstep];rw[Rf.splitFrom,hd2];rfl
 |cons t0 ts ih=>
  intro hs t h1 h2 p i cut f hd hf;obtain⟨f,rfl⟩:∃q,f=q+1:=⟨f-1,by omega⟩;obtain⟨g1,g2⟩:=hs t0 (by simp);rw[Yp,List.append_assoc]at hd;have hstep:=RJ g1 g2 p i _ hd;have hd2:p.drop (i+t0.w.length)=Yg ts++t.w:=by rw[<-YT,hd,List.drop_left]
  obtain⟨c,w,hw,_⟩:=WB g1;rw[hw,List.cons_append]at hd;rw[Rf.splitFrom,hd];simp only[hstep];rw[ih (fun t' ht=>hs t' (by simp[ht])) t h1 h2 p _ i f hd2 (by simp at hf;omega),Yp,List.length_append,Nat.add_assoc]
theorem U4:∀(f:Nat) (p:List Tk) (V:Int),Is f false p V->∃(base:List UInt8) (sufs:List Tk),Yg p=base++Yg sufs/\GV sufs/\(∃c w,base=c::w/\c≠124)/\∀r,Rf.atom (base++r)=some base.length:=by
 intro f
 induction f with
 |zero=>intro p V h;exact absurd h (by simp[Is])
 |succ f ih=>
  intro p V h;unfold Is at h;rcases h with ⟨t,rfl,h2,h3,rfl⟩|⟨a,inn,b,rfl,h2,h3,h4,h5,h6⟩|⟨q,t,A,rfl,h2,h3,h4,_⟩
  ·obtain⟨c,w,hw,_,hc,h40,_⟩:=WB h2;refine⟨t.w,[],by simp[Yg],(by intro t' ht;simp at ht),⟨c,w,hw,fun e=>by have:=hc.1 e;omega⟩,fun r=>?_⟩;have hp:UO t.w:=by
    rcases h2 with h|h|h|h|h|h|h|h
    all_goals first|(exact absurd h.1 (by omega))|exact h.2
   rcases hp with ⟨c,hw,hs⟩|⟨e,v0,hw,hone⟩|⟨e,hw,hset⟩
   ·unfold XY at hs;rw[hw,List.cons_append,Rf.atom]
    (try simp only)
    rw[if_neg (fun e=>hs (by simp[e])),if_neg (fun e=>hs (by simp[e])),if_neg (fun e=>hs (by simp[e]))];rfl
   ·rw[hw,List.cons_append,Rf.atom];simp only[if_true];rw[hone r];rfl
   ·obtain⟨fa,inn,hs⟩:=hset r 0;rw[hw,List.cons_append,Rf.atom];simp only;rw[if_neg (by decide),if_pos trivial,hs];simp
  ·have haw:a.w=[40]:=by
    rcases h2 with h|h|h|h|h|h|h|h
    all_goals first|(exact absurd h.1 (by omega))|exact h.2
   have hbw:b.w=[41]:=by
    rcases h4 with h|h|h|h|h|h|h|h
    all_goals first|(exact absurd h.1 (by omega))|exact h.2
   have ht:Yg (a::(inn++[b]))=40::(Yg inn++[41]):=by
    rw[Yp,Yy,haw];simp[Yg,hbw]
   refine⟨40::(Yg inn++[41]),[],by rw[ht];simp[Yg],(by intro t' ht;simp at ht),⟨40,_,rfl,by decide⟩,fun r=>?_⟩;obtain⟨C,c1,c2⟩:=Ge f true inn V h6;rw[List.cons_append,Rf.atom];simp only;rw[if_neg (by decide),if_neg (by decide),if_pos trivial,Rf.groupFrom,List.drop_zero];simp only;rw[if_neg (by decide),if_neg (by decide),if_pos trivial];have hlen:(Yg inn++[41]++r).length=(Yg inn).length+1+r.length:=by simp;omega
   obtain⟨v,hv⟩:∃v,(Yg inn++[41]++r).length+1=(v+1)+C:=⟨(Yg inn).length+1+r.length-C,by omega⟩;have hd1:(40::(Yg inn++[41]++r)).drop (0+1)=Yg inn++(41::r):=by simp
   have hd2:(40::(Yg inn++[41]++r)).drop (0+1+(Yg inn).length)=41::r:=by rw[<-YT,hd1,List.drop_left]
   rw[hv,c2 _ _ (v+1) (0+1) (41::r) (by omega) hd1,Rf.groupFrom,hd2];simp only;rw[if_neg (by decide),if_neg (by decide),if_neg (by decide),if_pos trivial,if_pos (by decide)];simp;omega
  ·obtain⟨base,sufs,e1,e2,e3,e4⟩:=ih q A h2;refine⟨base,sufs++[t],by rw[Yy,Yy,e1,List.append_assoc],?_,e3,e4⟩;intro t' ht;rcases List.mem_append.1 ht with ht|ht
   ·exact e2 t' ht
   ·rw[List.mem_singleton]at ht;subst ht;exact⟨h3,h4⟩
theorem JM {r:List Tk} (h:∀t∈r,WS t) (hn:∀t r',r=t::r'->¬Yr t):∀c r',Yg r=c::r'->QJ c=false:=by
 intro c r' he;rcases r with _|⟨t,r⟩
 ·simp[Yg]at he
 ·obtain⟨d,w,hw,hc,_⟩:=WB (h t (by simp));rw[Yp,hw,List.cons_append]at he;injection he with he1 he2;subst he1;cases hb:QJ d
  ·rfl
  ·exact absurd (hc.1 hb) (hn t r rfl)
theorem M4 {w:List UInt8} (h:V9 w mo):Rf.most w=some mo:=by
 have dig:∀x:UInt8,48<=(x.toNat:Int)->(x.toNat:Int)<=57->Rf.digit x.toNat=true:=by
  intro x h1 h2;simp[Rf.digit];omega
 rcases h with ⟨x,rfl,x1,x2,rfl⟩|⟨x,z,rfl,x1,x2,z1,z2,rfl⟩
 ·simp[Rf.most,dig x x1 x2]
 ·simp[Rf.most,dig x x1 x2,dig z z1 z2]
theorem Jy:∀(f:Nat) (g:Bool) (ts:List Tk) (V:Int),Is f g ts V->∃G,∀v,Rf.cnt (v+G) g (Yg ts)=some V:=by
 intro f
 induction f with
 |zero=>intro g ts V h;exact absurd h (by simp[Is])
 |succ f ih=>
  intro g ts V h;have hall:=GT _ _ _ _ h;cases g
  ·have h0:=h;unfold Is at h;rcases h with ⟨t,rfl,h2,h3,rfl⟩|⟨a,inn,b,rfl,h2,h3,h4,h5,h6⟩|⟨q,t,A,rfl,h2,h3,h4,rfl⟩
   ·refine⟨1,fun v=>?_⟩;obtain⟨base,sufs,e1,e2,e3,e4⟩:=U4 1 [t] 1 (Or.inl ⟨t,rfl,h2,h3,rfl⟩);obtain⟨c,w,hw,hsf,hc,h40,_⟩:=WB h2;have ht:Yg [t]=t.w:=by simp[Yg]
    have hp:UO t.w:=by
     rcases h2 with h|h|h|h|h|h|h|h
     all_goals first|(exact absurd h.1 (by omega))|exact h.2
    have hat:Rf.atom t.w=some t.w.length:=by
     rcases hp with ⟨c,hw,hs⟩|⟨e,v0,hw,hone⟩|⟨e,hw,hset⟩
     ·unfold XY at hs;rw[hw,Rf.atom]
      (try simp only)
      rw[if_neg (fun e=>hs (by simp[e])),if_neg (fun e=>hs (by simp[e])),if_neg (fun e=>hs (by simp[e]))];rfl
     ·have:=hone [];rw[List.append_nil]at this;rw[hw,Rf.atom];simp only[if_true];rw[this];rfl
     ·obtain⟨fa,inn,hs⟩:=hset [] 0;rw[List.append_nil]at hs;rw[hw,Rf.atom];simp only;rw[if_neg (by decide),if_pos trivial,hs];simp
    have hsp:Rf.split t.w=some t.w.length:=by
     rw[Rf.split,hat];simp only;rw[Rf.splitFrom,List.drop_length]
    rw[ht,Rf.cnt.eq_def];simp only[hsp,List.drop_length];rw[hw];simp only;rw[if_neg (fun e=>by have:=h40.1 e;omega)]
   ·obtain⟨G,hG⟩:=ih true inn V h6;have haw:a.w=[40]:=by
     rcases h2 with h|h|h|h|h|h|h|h
     all_goals first|(exact absurd h.1 (by omega))|exact h.2
    have hbw:b.w=[41]:=by
     rcases h4 with h|h|h|h|h|h|h|h
     all_goals first|(exact absurd h.1 (by omega))|exact h.2
    have ht:Yg (a::(inn++[b]))=40::(Yg inn++[41]):=by
     rw[Yp,Yy,haw];simp[Yg,hbw]
    refine⟨G+1,fun v=>?_⟩;obtain⟨C,c1,c2⟩:=Ge f true inn V h6;have hat:Rf.atom (40::(Yg inn++[41]))=some (40::(Yg inn++[41])).length:=by
     rw[Rf.atom];simp only;rw[if_neg (by decide),if_neg (by decide),if_pos trivial,Rf.groupFrom,List.drop_zero];simp only;rw[if_neg (by decide),if_neg (by decide),if_pos trivial];have hlen:(Yg inn++[41]).length=(Yg inn).length+1:=by simp
     obtain⟨v,hv⟩:∃v,(Yg inn++[41]).length+1=(v+1)+C:=⟨(Yg inn).length+1-C,by omega⟩;have hd1:(40::(Yg inn++[41])).drop (0+1)=Yg inn++[41]:=by simp
     have hd2:(40::(Yg inn++[41])).drop (0+1+(Yg inn).length)=[41]:=by rw[<-YT,hd1,List.drop_left]
     rw[hv,c2 _ _ (v+1) (0+1) [41] (by omega) hd1,Rf.groupFrom,hd2];simp only;rw[if_neg (by decide),if_neg (by decide),if_neg (by decide),if_pos trivial,if_pos (by decide)];simp;omega
    have hsp:Rf.split (40::(Yg inn++[41]))=some (40::(Yg inn++[41])).length:=by
     rw[Rf.split,hat];simp only;rw[Rf.splitFrom,List.drop_length]
    rw[ht,show v+(G+1)=(v+G)+1 by omega,Rf.cnt.eq_def];have hx:(Yg inn++[41]).length-1=(Yg inn).length:=by simp
    have hy:¬(Yg inn++[41]).length=0:=by simp
    simp only[hsp,List.drop_length,if_true,if_neg hy,hx,List.take_left];exact hG v
   ·obtain⟨G,hG⟩:=ih false q A h2;obtain⟨base,sufs,e1,e2,e3,e4⟩:=U4 f q A h2;obtain⟨c,w,hw,hsf,hc,h40,h123⟩:=WB h3;have ht:Yg (q++[t])=Yg q++t.w:=by rw[Yy];simp[Yg]
    have hl:=MC (fun t' ht'=>(e2 t' ht').1);have hsp:Rf.split (Yg q++t.w)=some (Yg q).length:=by
     have ha:Rf.atom (Yg q++t.w)=some base.length:=by rw[e1,List.append_assoc];exact e4 _
     rw[Rf.split,ha];simp only;rw[Nv sufs e2 t h3 h4 _ base.length base.length _ (by rw[e1,List.append_assoc,List.drop_left]) (by rw[List.length_append,hw,e1,List.length_append,List.length_cons];omega),e1,List.length_append]
    refine⟨G+1,fun v=>?_⟩;rw[ht,show v+(G+1)=(v+G)+1 by omega,Rf.cnt.eq_def];simp only[hsp,List.drop_left,List.take_left];rw[hw];simp only;rw[hG];simp only;by_cases h8:t.kd=8
    ·rw[if_pos (h123.2 h8),if_pos h8,<-hw,M4 (Qj h3 h8).2];rfl
    ·rw[if_neg (fun e=>h8 (h123.1 e)),if_neg h8]
  ·unfold Is at h;rcases h with ⟨rfl,rfl⟩|⟨t,r,rfl,h2,h3,h4⟩|⟨p,r,A,B,rfl,h2,h3,rfl,h5⟩
   ·exact⟨1,fun v=>rfl⟩
   ·obtain⟨G,hG⟩:=ih true r V h4;have htw:t.w=[124]:=by
     rcases h2 with h|h|h|h|h|h|h|h
     all_goals first|(exact absurd h.1 (by omega))|exact h.2
    refine⟨G+1,fun v=>?_⟩;rw[Yp,htw,show v+(G+1)=(v+G)+1 by omega,List.singleton_append,Rf.cnt];simp only[if_true];exact hG v
   ·obtain⟨Gp,hGp⟩:=ih false p A h2;obtain⟨Gr,hGr⟩:=ih true r B h3;obtain⟨base,sufs,e1,e2,⟨c,w,hb,hc⟩,e4⟩:=U4 f p A h2;have hl:=MC (fun t' ht'=>(e2 t' ht').1);have hpc:Rf.piece (Yg p++Yg r)=some (Yg p).length:=by
     have ha:Rf.atom (Yg p++Yg r)=some base.length:=by rw[e1,List.append_assoc];exact e4 _
     rw[Rf.piece,ha];simp only;rw[Nf sufs e2 _ base.length _ (Yg r) (by rw[e1,List.append_assoc,List.drop_left]) (JM (fun t ht=>hall t (by simp[ht])) h5) (by rw[List.length_append,e1,List.length_append];omega),e1,List.length_append]
    refine⟨Gp+Gr+1,fun v=>?_⟩;obtain⟨l',hl'⟩:∃l',Yg p++Yg r=c::l':=⟨_,by rw[e1,hb];rfl⟩;have htk:(c::l').take (Yg p).length=Yg p:=by rw[<-hl',List.take_left]
    have hdr:(c::l').drop (Yg p).length=Yg r:=by rw[<-hl',List.drop_left]
    rw[Yy,hl',show v+(Gp+Gr+1)=(v+Gp+Gr)+1 by omega,Rf.cnt]
    (try simp only)
    rw[if_neg hc,<-hl',hpc];simp only;rw[hl',htk,hdr,hGr (v+Gp),show v+Gp+Gr=(v+Gr)+Gp by omega,hGp]
theorem Ij (s:ByteArray) (k:Nat) (c:UInt8) (r:List UInt8) (hd:s.data.toList.drop k=c::r) (h0:Pg.kindOf (Y5 s k)≠0) (hok:(Pg.readPart (Y5 s) s.size k (Pg.kindOf (Y5 s k))).ok=true):
  ∃n:Nat,1<=n/\k+n<=s.size/\(Pg.readPart (Y5 s) s.size k (Pg.kindOf (Y5 s k))).n=((k+n:Nat):Int)/\WS ⟨(s.data.toList.drop k).take n,Pg.kindOf (Y5 s k),(Pg.readPart (Y5 s) s.size k (Pg.kindOf (Y5 s k))).mo⟩:=by
 have hb:Y5 s (k:Int)=c.toNat:=by rw[US hd];rfl
 have hlt:=XW hd;have hlen:r.length+1=s.size-k:=by
  have:(s.data.toList.drop k).length=s.size-k:=by simp
  rw[hd]at this;simpa using this
 by_cases e91:c=91
 ·subst e91;have hk:Pg.kindOf (Y5 s k)=1:=by rw[hb];rfl
  have hb':Y5 s (k:Int)=91:=hb;rw[hk]at hok ⊢;have hP:Pg.readPart (Y5 s) s.size k 1=⟨(Pg.readSet (Y5 s) s.size k).n,(Pg.readSet (Y5 s) s.size k).ok,(Pg.readSet (Y5 s) s.size k).f,0,(Pg.readSet (Y5 s) s.size k).fa⟩:=by
   rw[Pg.readPart,if_pos rfl,Pg.readPlace,if_pos hb']
  rw[hP]at hok ⊢;rcases Tm s k r 0 0 0 (Or.inl rfl) hd with ⟨n,F,FA,h1,h2,h3,h4,_⟩|⟨h1,_⟩
  ·refine⟨n-k,by omega,by omega,?_,Or.inl ⟨rfl,Or.inr (Or.inr ⟨r.take (n-k-1),?_,fun r' i'=>?_⟩)⟩⟩
   ·rw[h3,show k+(n-k)=n by omega]
   ·show(s.data.toList.drop k).take (n-k)=_;rw[hd,show n-k=(n-k-1)+1 by omega,List.take_succ_cons];rfl
   ·obtain⟨fa,h⟩:=Qs h4 r' i';refine⟨fa,F,?_⟩;rw[h,List.length_take,show i'+(n-k)=i'+(min (n-k-1) r.length+1) by omega]
  ·rw[h1]at hok;cases hok
 by_cases e92:c=92
 ·subst e92;have hk:Pg.kindOf (Y5 s k)=1:=by rw[hb];rfl
  have hb':Y5 s (k:Int)=92:=hb;rw[hk]at hok ⊢;have hP:Pg.readPart (Y5 s) s.size k 1=⟨(Pg.readEscape (Y5 s) k).n,(Pg.readEscape (Y5 s) k).ok,Pg.withF (fun _=>false) (Pg.readEscape (Y5 s) k).v (Pg.readEscape (Y5 s) k).v,0,-1⟩:=by
   rw[Pg.readPart,if_pos rfl,Pg.readPlace,if_neg (by rw[hb'];decide),if_neg (by rw[hb'];decide),if_pos hb']
  rw[hP]at hok ⊢;rcases Uz s k r hd with ⟨n,v,h1,h2,h3,_⟩|⟨n,h1,_⟩
  ·refine⟨n+1,by omega,by omega,by rw[h1],Or.inl ⟨rfl,Or.inr (Or.inl ⟨r.take n,v,?_,fun r'=>?_⟩)⟩⟩
   ·show(s.data.toList.drop k).take (n+1)=_;rw[hd,List.take_succ_cons]
   ·have:=VK h2 r';rw[List.take_succ_cons,List.cons_append]at this;rw[this,List.length_take,Nat.min_eq_left h3]
  ·rw[h1]at hok;cases hok
 by_cases e123:c=123
 ·subst e123;have hk:Pg.kindOf (Y5 s k)=8:=by rw[hb];rfl
  rw[hk]at hok ⊢;have hP:Pg.readPart (Y5 s) s.size k 8=⟨(Pg.readCount (Y5 s) k).n,(Pg.readCount (Y5 s) k).ok,fun _=>false,(Pg.readCount (Y5 s) k).v,Pg.countFalls (Y5 s) k⟩:=rfl;rw[hP]at hok ⊢;rcases Sw s k r 0 0 hd with ⟨n,mo,le,h1,_,h3,_⟩|⟨h1,_⟩
  ·rw[h1];have hC:V9 ((123::r).take n) mo:=by
    rcases h3 with ⟨x,r',rfl,rfl,x1,x2,rfl,_⟩|⟨x,z,r',rfl,rfl,x1,x2,z1,z2,rfl,_⟩
    ·exact Or.inl ⟨x,rfl,x1,x2,rfl⟩
    ·exact Or.inr ⟨x,z,rfl,x1,x2,z1,z2,rfl⟩
   have hn:1<=n/\n<=r.length+1:=by
    rcases h3 with ⟨x,r',rfl,rfl,_⟩|⟨x,z,r',rfl,rfl,_⟩<;>(simp)
   refine⟨n,hn.1,by omega,rfl,?_⟩;rw[hd];exact Or.inr (Or.inr (Or.inr (Or.inr (Or.inr (Or.inr (Or.inr ⟨rfl,hC⟩))))))
  ·rw[h1]at hok;cases hok
 have hother:∀kd:Int,kd≠1->kd≠8->Pg.readPart (Y5 s) s.size k kd=⟨(k:Int)+1,true,fun _=>false,0,-1⟩:=fun kd h1 h8=>by rw[Pg.readPart,if_neg h1,if_neg h8]
 have hone:(s.data.toList.drop k).take 1=[c]:=by rw[hd];rfl
 have fin:∀kd:Int,Pg.kindOf (Y5 s k)=kd->(Pg.readPart (Y5 s) s.size k kd).n=(k:Int)+1->WS ⟨[c],kd,(Pg.readPart (Y5 s) s.size k kd).mo⟩ ->
   ∃n:Nat,1<=n/\k+n<=s.size/\(Pg.readPart (Y5 s) s.size k (Pg.kindOf (Y5 s k))).n=((k+n:Nat):Int)/\WS ⟨(s.data.toList.drop k).take n,Pg.kindOf (Y5 s k),(Pg.readPart (Y5 s) s.size k (Pg.kindOf (Y5 s k))).mo⟩:=by
  intro kd h1 h2 h3;rw[h1];exact⟨1,by omega,by omega,by rw[h2];rfl,by rw[hone];exact h3⟩
 by_cases e40:c=40
 ·subst e40;exact fin 2 (by rw[hb];rfl) (by rw[hother 2 (by decide) (by decide)]) (Or.inr (Or.inl ⟨rfl,rfl⟩))
 by_cases e41:c=41
 ·subst e41;exact fin 3 (by rw[hb];rfl) (by rw[hother 3 (by decide) (by decide)]) (Or.inr (Or.inr (Or.inl ⟨rfl,rfl⟩)))
 by_cases e124:c=124
 ·subst e124;exact fin 4 (by rw[hb];rfl) (by rw[hother 4 (by decide) (by decide)]) (Or.inr (Or.inr (Or.inr (Or.inl ⟨rfl,rfl⟩))))
 by_cases e42:c=42
 ·subst e42;exact fin 5 (by rw[hb];rfl) (by rw[hother 5 (by decide) (by decide)]) (Or.inr (Or.inr (Or.inr (Or.inr (Or.inl ⟨rfl,rfl⟩)))))
 by_cases e43:c=43
 ·subst e43;exact fin 6 (by rw[hb];rfl) (by rw[hother 6 (by decide) (by decide)]) (Or.inr (Or.inr (Or.inr (Or.inr (Or.inr (Or.inl ⟨rfl,rfl⟩))))))
 by_cases e63:c=63
 ·subst e63;exact fin 7 (by rw[hb];rfl) (by rw[hother 7 (by decide) (by decide)]) (Or.inr (Or.inr (Or.inr (Or.inr (Or.inr (Or.inr (Or.inl ⟨rfl,rfl⟩)))))))
 by_cases e93:c=93
 ·subst e93;exact absurd (by rw[hb];rfl) h0
 by_cases e125:c=125
 ·subst e125;exact absurd (by rw[hb];rfl) h0
 have n91:(c.toNat:Int)≠91:=Yu e91;have n92:(c.toNat:Int)≠92:=Yu e92;have n123:(c.toNat:Int)≠123:=Yu e123;have n40:(c.toNat:Int)≠40:=Yu e40;have n41:(c.toNat:Int)≠41:=Yu e41;have n124:(c.toNat:Int)≠124:=Yu e124;have n42:(c.toNat:Int)≠42:=Yu e42;have n43:(c.toNat:Int)≠43:=Yu e43;have n63:(c.toNat:Int)≠63:=Yu e63;have n93:(c.toNat:Int)≠93:=Yu e93;have n125:(c.toNat:Int)≠125:=Yu e125;have hk1:Pg.kindOf (Y5 s k)=1:=by
  rw[hb];unfold Pg.kindOf;rw[if_neg (by omega),if_neg n40,if_neg n41,if_neg n124,if_neg n42,if_neg n43,if_neg n63,if_neg n123]
 refine fin 1 hk1 ?_ (Or.inl ⟨rfl,Or.inl ⟨c,rfl,?_⟩⟩)
 ·rw[Pg.readPart,if_pos rfl,Pg.readPlace,hb,if_neg n91];by_cases e46:(c.toNat:Int)=46
  ·rw[if_pos e46]
  ·rw[if_neg e46,if_neg n92]
 ·unfold XY;intro h;rcases h with h|h|h|h|h|h|h|h|h|h|h<;>contradiction
theorem Kh (s:ByteArray):∀(u k:Nat) (bf op:Int) (acc:List Pg.Pt),s.size<u+k->k<=s.size->(Pg.partsFrom (Y5 s) s.size u bf op k acc).ok=true ->
  ∃ps ts,(Pg.partsFrom (Y5 s) s.size u bf op k acc).ps=acc++ps/\Yg ts=s.data.toList.drop k/\Jm ts bf op/\ps.map (fun p=>(p.kd,p.mo))=ts.map (fun t=>(t.kd,t.mo)):=by
 intro u
 induction u with
 |zero=>intro k bf op acc h1 h2;omega
 |succ u ih=>
  intro k bf op acc hu hk hok;rcases hd:s.data.toList.drop k with _|⟨c,r⟩
  ·have hks:k=s.size:=by
    have:s.size<=k:=by simpa using hd
    omega
   have hge:¬(k:Int)<(s.size:Int):=by omega
   rw[Pg.partsFrom,if_neg hge]at hok ⊢;exact⟨[],[],by simp,rfl,by simpa[Jm]using hok,rfl⟩
  ·have hlt:=XW hd;have hlti:(k:Int)<(s.size:Int):=by omega
   rw[Pg.partsFrom,if_pos hlti]at hok ⊢;cases hc:Pg.canStand (Pg.kindOf (Y5 s k)) bf op
   ·rw[hc]at hok;cases hok
   rw[hc]at hok;simp only[if_true]at hok ⊢;cases hp:(Pg.readPart (Y5 s) s.size k (Pg.kindOf (Y5 s k))).ok
   ·rw[hp]at hok;cases hok
   rw[hp]at hok;simp only[if_true]at hok ⊢;have h0:Pg.kindOf (Y5 s k)≠0:=by
    intro e;rw[e]at hc;simp[Pg.canStand]at hc
   obtain⟨n,n1,n2,n3,n4⟩:=Ij s k c r hd h0 hp;rw[n3]at hok ⊢;obtain⟨ps,ts,g1,g2,g3,g4⟩:=ih (k+n) _ _ _ (by omega) n2 hok;refine⟨_::ps,⟨(s.data.toList.drop k).take n,Pg.kindOf (Y5 s k),(Pg.readPart (Y5 s) s.size k (Pg.kindOf (Y5 s k))).mo⟩::ts,by rw[g1,List.append_assoc];rfl,?_,⟨n4,hc,g3⟩,?_⟩
   ·rw[Yp,g2,<-hd,<-YT,List.take_append_drop]
   ·simp only[List.map_cons,g4]
theorem TY:∀(ps qs:List Pg.Pt),ps.map (fun p=>(p.kd,p.mo))=qs.map (fun p=>(p.kd,p.mo))->∀c,Pg.cRun ps c=Pg.cRun qs c:=by
 intro ps
 induction ps with
 |nil=>
  intro qs h c;rcases qs with _|⟨q,qs⟩
  ·rfl
  ·simp at h
 |cons p ps ih=>
  intro qs h c;rcases qs with _|⟨q,qs⟩
  ·simp at h
  ·simp only[List.map_cons,List.cons.injEq,Prod.mk.injEq]at h;obtain⟨⟨h1,h2⟩,h3⟩:=h;have hs:Pg.cStep c p=Pg.cStep c q:=by unfold Pg.cStep;rw[h1,h2]
   simp only[Pg.cRun];rw[hs];exact ih qs h3 _
theorem PF (s:ByteArray) (h:(Pg.readParts (Y5 s) s.size).ok=true):∃V g,Rf.cnt g true s.data.toList=some V/\0<=V/\Pg.countPlaces (Pg.readParts (Y5 s) s.size).ps=Pg.capped V:=by
 unfold Pg.readParts at h ⊢;obtain⟨ps,ts,h1,h2,h3,h4⟩:=Kh s ((s.size:Int).toNat+1) 0 0 0 [] (by omega) (by omega) h;have hns:∀t r,ts=t::r->¬Yr t:=by
  intro t r e hs;rw[e]at h3;have:=h3.2.1;unfold Yr at hs;simp[Pg.canStand,Pg.endsPiece,Pg.isSuffix]at this;rcases hs with h|h|h|h<;>simp[h]at this
 obtain⟨f,inn,rest,V,g1,g2,g3⟩:=Ih ts.length ts 0 0 (Nat.le_refl _) (Int.le_refl _) h3 hns;have hrest:rest=[]:=by
  rcases g3 with ⟨h,_⟩|⟨b,r,_,_,_,h,_⟩
  ·exact h
  ·omega
 rw[hrest,List.append_nil]at g1;subst g1;obtain⟨G,hG⟩:=Jy f true ts V g2;obtain⟨hV,_,hT⟩:=machine f true ts V g2;obtain⟨ah,la,e1,_,_,e4⟩:=hT rfl ⟨0,0,[]⟩ (by simp) (by simp);refine⟨V,G,?_,hV,?_⟩
 ·have:=hG 0;rw[h2,List.drop_zero,Nat.zero_add]at this;exact this
 ·have h1':(Pg.partsFrom (Y5 s) (s.size:Int) ((s.size:Int).toNat+1) 0 0 0 []).ps=ps:=by
   have:=h1;rw[List.nil_append]at this;exact this
  rw[h1',Pg.countPlaces,TY ps (ts.map Ws) (by rw[h4,List.map_map];rfl),e1];simp only;rw[e4];simp
theorem Xf (s:ByteArray):Rf.WrongIs s.data.toList (Pg.wrong (Y5 s) s.size).1 (Pg.wrong (Y5 s) s.size).2/\((Pg.wrong (Y5 s) s.size).1=0->(Pg.wrong (Y5 s) s.size).2=0/\s.size<=40/\(Pg.readParts (Y5 s) s.size).ok=true):=by
 have hl:s.data.toList.length=s.size:=by simp
 by_cases h40:40<s.size
 ·have:Pg.wrong (Y5 s) s.size=(2,0):=by rw[Pg.wrong,if_pos (by omega)]
  rw[this];exact⟨Or.inl ⟨by omega,rfl,rfl⟩,fun h=>by simp at h⟩
 have hw:Pg.wrong (Y5 s) s.size=if (Pg.readParts (Y5 s) s.size).ok then
  (if Pg.tooDeep (Pg.readParts (Y5 s) s.size).ps 0=-1 then
   (if Pg.falling (Pg.readParts (Y5 s) s.size).ps=-1 then
    (if Pg.matchless (Pg.readParts (Y5 s) s.size).ps=-1 then (0,0) else (6,Pg.matchless (Pg.readParts (Y5 s) s.size).ps))
   else (5,Pg.falling (Pg.readParts (Y5 s) s.size).ps))
  else (4,Pg.tooDeep (Pg.readParts (Y5 s) s.size).ps 0))
  else (3,(Pg.readParts (Y5 s) s.size).n):=by rw[Pg.wrong,if_neg (by omega)]
 rw[hw];have hc:=SE s ((s.size:Int).toNat+1) 0 0 0 0 [] (by omega) (by omega) (by omega);have hm0:XB 0=0:=rfl;rw[hm0,List.drop_zero]at hc;have hR:Pg.partsFrom (Y5 s) s.size ((s.size:Int).toNat+1) 0 0 ((0:Nat):Int) []=Pg.readParts (Y5 s) s.size:=rfl;rw[hR]at hc;rcases hc with ⟨h1,h2,h3⟩|⟨ps,h1,h2,h3,h4,⟨cv,h5⟩,⟨ce,h6⟩,h7⟩
 ·rw[h1];simp only[Bool.false_eq_true,if_false];have hf:Rf.form s.data.toList=(Pg.readParts (Y5 s) s.size).n:=h2;exact⟨Or.inr ⟨by omega,Or.inl ⟨by rw[hf];exact h3,rfl,hf.symm⟩⟩,fun h=>by simp at h⟩
 ·rw[List.nil_append]at h2;rw[h1,h2];simp only[if_true];have hf:Rf.form s.data.toList<0:=by
   have:Rf.form s.data.toList=-1:=h3;omega
  have hdp:Rf.deep s.data.toList=Pg.tooDeep ps 0:=h4 (by omega);have hbd:∀(ps:List Pg.Pt) (op:Int),(∀p∈ps,0<=p.pl/\-1<=p.fa)->(Pg.tooDeep ps op=-1\/0<=Pg.tooDeep ps op)/\(Pg.falling ps=-1\/0<=Pg.falling ps)/\(Pg.matchless ps=-1\/0<=Pg.matchless ps):=by
   intro ps
   induction ps with
   |nil=>intro op _;exact⟨Or.inl rfl,Or.inl rfl,Or.inl rfl⟩
   |cons p ps ih=>
    intro op hp;obtain⟨i1,i2,i3⟩:=ih (Pg.opens p.kd op) (fun q hq=>hp q (by simp[hq]));obtain⟨p1,p2⟩:=hp p (by simp);refine⟨?_,?_,?_⟩
    ·rw[Pg.tooDeep];split
     ·exact Or.inr p1
     ·exact i1
    ·rw[Pg.falling];split
     ·exact i2
     ·exact Or.inr (by omega)
    ·rw[Pg.matchless];split
     ·exact Or.inr p1
     ·exact i3
  obtain⟨b1,b2,b3⟩:=hbd ps 0 h7;by_cases hD:Pg.tooDeep ps 0=-1
  ·rw[if_pos hD];by_cases hF:Pg.falling ps=-1
   ·rw[if_pos hF];have hV:=h5 0;have hE:=h6 0;by_cases hM:Pg.matchless ps=-1
    ·rw[if_pos hM];exact⟨Or.inr ⟨by omega,Or.inr ⟨hf,Or.inr ⟨by rw[hdp,hD];decide,_,_,hV,Or.inr ⟨by rw[hF];decide,_,_,hE,Or.inr ⟨by rw[hM];decide,rfl,rfl⟩⟩⟩⟩⟩,fun _=>⟨rfl,by omega,trivial⟩⟩
    ·rw[if_neg hM];exact⟨Or.inr ⟨by omega,Or.inr ⟨hf,Or.inr ⟨by rw[hdp,hD];decide,_,_,hV,Or.inr ⟨by rw[hF];decide,_,_,hE,Or.inl ⟨by omega,rfl,rfl⟩⟩⟩⟩⟩,fun h=>by simp at h⟩
   ·rw[if_neg hF];exact⟨Or.inr ⟨by omega,Or.inr ⟨hf,Or.inr ⟨by rw[hdp,hD];decide,_,_,h5 0,Or.inl ⟨by omega,rfl,rfl⟩⟩⟩⟩,fun h=>by simp at h⟩
  ·rw[if_neg hD];exact⟨Or.inr ⟨by omega,Or.inr ⟨hf,Or.inl ⟨by omega,rfl,hdp.symm⟩⟩⟩,fun h=>by simp at h⟩
theorem RK {u:Nat->Int}:∀n,(∀i,i<n->0<=u i)->0<=XV u n
 |0,_=>Int.le_refl _
 |n+1,h=>by simp only[XV];have:=RK n (fun i hi=>h i (by omega));have:=h n (by omega);omega
theorem MB {u v:Nat->Int}:∀n,(∀i,i<n->0<=v i/\u i=Pg.capped (v i))->(96<XV u n<->96<XV v n)/\(¬96<XV v n->XV u n=XV v n)
 |0,_=>⟨Iff.rfl,fun _=>rfl⟩
 |n+1,h=>by
  obtain⟨h1,h2⟩:=MB n (fun i hi=>h i (by omega));obtain⟨v0,hu⟩:=h n (by omega);have s1:=RK n (fun i hi=>(h i (by omega)).1);have s2:0<=XV u n:=RK n (fun i hi=>by rw[(h i (by omega)).2];exact Wn (h i (by omega)).1);simp only[XV];rw[hu,WG];split
  ·constructor
   ·omega
   ·intro;omega
  ·by_cases hs:96<XV v n
   ·have:=h1.2 hs;constructor
    ·omega
    ·intro;omega
   ·have:=h2 hs;constructor
    ·omega
    ·intro;omega
structure Rt (x:List UInt8) (V:Nat) (d:Nat):Prop where
 run:∀(m b o:Int),(m=0\/m=1)->0<=o->∃b',∀(i:Nat) (r:List UInt8),Rf.formFrom m b o i (x++r)=Rf.formFrom 1 b' o (i+x.length) r/\(o+d<=6->Rf.deepFrom m b o i (x++r)=Rf.deepFrom 1 b' o (i+x.length) r)
 val:∀(p:List UInt8) (i:Nat) (r:List UInt8),p.drop i=x++r->∀f v,Rf.valueFrom p f i=some v->∃f',Rf.valueFrom p f' (i+x.length)=some v
 emp:∀(p:List UInt8) (i:Nat) (r:List UInt8),p.drop i=x++r->∀f v,Rf.emptyFrom p f i=some v->∃f',Rf.emptyFrom p f' (i+x.length)=some v
 tok:∃ts:List Tk,Yg ts=x/\(∃t r',ts=t::r'/\¬Yr t)/\∀G r W,Is G true r W->(∀t r',r=t::r'->¬Yr t)->∃F,Is F true (ts++r) (V+W)
theorem Rt.mono {e:Nat} (h:Rt x V d) (hd:d<=e):Rt x V e:=
 ⟨fun m b o hm ho=>by
  obtain⟨b',hb⟩:=h.run m b o hm ho;exact⟨b',fun i r=>⟨(hb i r).1,fun h6=>(hb i r).2 (by omega)⟩⟩,h.val,h.emp,h.tok⟩
theorem Yh {W:Nat} (h:Rt x V d) (k:Rt y W d):Rt (x++y) (V+W) d:=by
 refine⟨fun m b o hm ho=>?_,fun p i r hp f v hv=>?_,fun p i r hp f v hv=>?_,?_⟩
 ·obtain⟨b1,h1⟩:=h.run m b o hm ho;obtain⟨b2,h2⟩:=k.run 1 b1 o (Or.inr rfl) ho;refine⟨b2,fun i r=>?_⟩;rw[List.append_assoc,List.length_append,<-Nat.add_assoc];refine⟨by rw[(h1 i _).1,(h2 _ r).1],fun h6=>by rw[(h1 i _).2 h6,(h2 _ r).2 h6]⟩
 ·rw[List.append_assoc]at hp;obtain⟨f1,h1⟩:=h.val p i _ hp f v hv;have hp2:p.drop (i+x.length)=y++r:=by rw[<-List.drop_drop,hp,List.drop_left]
  obtain⟨f2,h2⟩:=k.val p _ r hp2 f1 v h1;exact⟨f2,by rw[List.length_append,<-Nat.add_assoc];exact h2⟩
 ·rw[List.append_assoc]at hp;obtain⟨f1,h1⟩:=h.emp p i _ hp f v hv;have hp2:p.drop (i+x.length)=y++r:=by rw[<-List.drop_drop,hp,List.drop_left]
  obtain⟨f2,h2⟩:=k.emp p _ r hp2 f1 v h1;exact⟨f2,by rw[List.length_append,<-Nat.add_assoc];exact h2⟩
 ·obtain⟨ts,t1,⟨t,r',t2,t3⟩,t4⟩:=h.tok;obtain⟨us,u1,⟨u,q',u2,u3⟩,u4⟩:=k.tok;refine⟨ts++us,by rw[Yy,t1,u1],⟨t,r'++us,by rw[t2];rfl,t3⟩,fun G r X hI hn=>?_⟩;obtain⟨F1,h1⟩:=u4 G r X hI hn;obtain⟨F2,h2⟩:=t4 F1 (us++r) _ h1 (fun a b e=>by rw[u2]at e;have:=(List.cons.inj e).1;rw[<-this];exact u3);exact⟨F2,by
    rw[List.append_assoc];have e:((V+W:Nat):Int)+X=V+(W+X):=by omega
    rw[e];exact h2⟩
theorem Ye (hp:p.drop i=c::r) (h1:c≠92) (h2:c≠91) (h3:c≠123) {f:Nat}{v:Int} (h:Rf.valueFrom p f i=some v):∃f',Rf.valueFrom p f' (i+1)=some v:=by
 cases f with
 |zero=>cases h
 |succ f=>rw[Rf.valueFrom,hp]at h;simp only[h1,h2,h3,if_false]at h;exact⟨f,h⟩
theorem Yi (hp:p.drop i=c::r) (h1:c≠92) (h2:c≠91) {f:Nat}{v:Int} (h:Rf.emptyFrom p f i=some v):∃f',Rf.emptyFrom p f' (i+1)=some v:=by
 cases f with
 |zero=>cases h
 |succ f=>rw[Rf.emptyFrom,hp]at h;simp only[h1,h2,if_false]at h;exact⟨f,h⟩
theorem R0 {m b o:Int} (h:Rf.read m b o c.toNat=⟨true,m',b',o'⟩):Rf.formFrom m b o i (c::r)=Rf.formFrom m' b' o' (i+1) r:=by
 rw[Rf.formFrom,h];rfl
theorem RZ {m b o:Int} (h:Rf.read m b o c.toNat=⟨true,m',b',o'⟩) (h6:o'<=6):Rf.deepFrom m b o i (c::r)=Rf.deepFrom m' b' o' (i+1) r:=by
 rw[Rf.deepFrom,h];simp only;rw[if_neg (by omega)]
theorem Mv {m:Int} (b o:Int) (hm:m=0\/m=1):Rf.read m b o 40=⟨true,0,b,o+1⟩:=by rw[U7 _ _ _ hm];simp[Rf.outside]
theorem PI {m:Int} (b o:Int) (hm:m=0\/m=1):Rf.read m b o 124=⟨true,0,b,o⟩:=by rw[U7 _ _ _ hm];simp[Rf.outside]
theorem Km {m:Int} (b o:Int) (hm:m=0\/m=1) (ho:1<=o):Rf.read m b o 41=⟨true,1,b,o-1⟩:=by rw[U7 _ _ _ hm];simp[Rf.outside,Rf.to,ho]
def KT:Tk:={ w:=[40],kd:=2,mo:=0 }
def KS:Tk:={ w:=[41],kd:=3,mo:=0 }
def GS:Tk:={ w:=[124],kd:=4,mo:=0 }
theorem Gi:WS KT:=Or.inr (Or.inl ⟨rfl,rfl⟩)
theorem Gh:WS KS:=Or.inr (Or.inr (Or.inl ⟨rfl,rfl⟩))
theorem Gg:WS GS:=Or.inr (Or.inr (Or.inr (Or.inl ⟨rfl,rfl⟩)))
theorem Re (t:Tk) (h:t.kd<5):¬Yr t:=by unfold Yr;omega
theorem Jf:Is 1 true [] 0:=Or.inl ⟨rfl,rfl⟩
structure WE (x:List UInt8) (V:Nat) (d:Nat):Prop where
 run:∀(b o:Int),0<=o->∃(m' b':Int),(m'=0\/m'=1)/\∀(i:Nat) (r:List UInt8),Rf.formFrom 0 b o i (x++r)=Rf.formFrom m' b' o (i+x.length) r/\(o+d<=6->Rf.deepFrom 0 b o i (x++r)=Rf.deepFrom m' b' o (i+x.length) r)
 val:∀(p:List UInt8) (i:Nat) (r:List UInt8),p.drop i=x++r->∀f v,Rf.valueFrom p f i=some v->∃f',Rf.valueFrom p f' (i+x.length)=some v
 emp:∀(p:List UInt8) (i:Nat) (r:List UInt8),p.drop i=x++r->∀f v,Rf.emptyFrom p f i=some v->∃f',Rf.emptyFrom p f' (i+x.length)=some v
 tok:∃(ts:List Tk) (F:Nat),Yg ts=x/\Is F true ts V
theorem YS (h:Rt x V d):WE x V d:=by
 refine⟨fun b o ho=>?_,h.val,h.emp,?_⟩
 ·obtain⟨b',hb⟩:=h.run 0 b o (Or.inl rfl) ho;exact⟨1,b',Or.inr rfl,hb⟩
 ·obtain⟨ts,t1,_,t4⟩:=h.tok;obtain⟨F,hF⟩:=t4 1 [] 0 Jf (fun t r e=>by cases e);rw[List.append_nil,Int.add_zero]at hF;exact⟨ts,F,t1,hF⟩
theorem Mk:WE [] 0 0:=
 ⟨fun b o _=>⟨0,b,Or.inl rfl,fun i r=>⟨rfl,fun _=>rfl⟩⟩,fun p i r hp f v hv=>⟨f,hv⟩,fun p i r hp f v hv=>⟨f,hv⟩,[],1,rfl,Jf⟩
theorem Vs {W:Nat} (h:Rt x V d) (k:WE y W d):WE (x++124::y) (V+W) d:=by
 refine⟨fun b o ho=>?_,fun p i r hp f v hv=>?_,fun p i r hp f v hv=>?_,?_⟩
 ·obtain⟨b1,h1⟩:=h.run 0 b o (Or.inl rfl) ho;obtain⟨m2,b2,hm2,h2⟩:=k.run b1 o ho;refine⟨m2,b2,hm2,fun i r=>?_⟩;have e:(x++124::y)++r=x++(124::(y++r)):=by simp
  have el:i+(x++124::y).length=i+x.length+1+y.length:=by simp;omega
  rw[e,el];refine⟨by rw[(h1 i _).1,R0 (PI b1 o (Or.inr rfl)),(h2 _ r).1],fun h6=>by rw[(h1 i _).2 h6,RZ (PI b1 o (Or.inr rfl)) (by omega),(h2 _ r).2 h6]⟩
 ·have e:(x++124::y)++r=x++(124::(y++r)):=by simp
  have el:i+(x++124::y).length=i+x.length+1+y.length:=by simp;omega
  rw[e]at hp;rw[el];obtain⟨f1,h1⟩:=h.val p i _ hp f v hv;have hp2:p.drop (i+x.length)=124::(y++r):=by rw[<-List.drop_drop,hp,List.drop_left]
  obtain⟨f2,h2⟩:=Ye hp2 (by decide) (by decide) (by decide) h1;have hp3:p.drop (i+x.length+1)=y++r:=by rw[<-List.drop_drop,hp2];rfl
  exact k.val p _ r hp3 f2 v h2
 ·have e:(x++124::y)++r=x++(124::(y++r)):=by simp
  have el:i+(x++124::y).length=i+x.length+1+y.length:=by simp;omega
  rw[e]at hp;rw[el];obtain⟨f1,h1⟩:=h.emp p i _ hp f v hv;have hp2:p.drop (i+x.length)=124::(y++r):=by rw[<-List.drop_drop,hp,List.drop_left]
  obtain⟨f2,h2⟩:=Yi hp2 (by decide) (by decide) h1;have hp3:p.drop (i+x.length+1)=y++r:=by rw[<-List.drop_drop,hp2];rfl
  exact k.emp p _ r hp3 f2 v h2
 ·obtain⟨ts,t1,_,t4⟩:=h.tok;obtain⟨us,F,u1,u2⟩:=k.tok;obtain⟨F2,hF⟩:=t4 (F+1) (GS::us) W (Or.inr (Or.inl ⟨GS,us,rfl,Gg,rfl,u2⟩)) (fun t r' e=>by rw[<-(List.cons.inj e).1];exact Re _ (by decide));exact⟨ts++GS::us,F2,by rw[Yy,Yp,t1,u1];rfl,by rw[Int.natCast_add];exact hF⟩
theorem H5 {s:List UInt8} (k:WE x V d) (sf:List Tk) (hs:Yg sf=s) (hsf:sf=[]\/∃t,sf=[t]/\WS t/\Yr t/\(t.kd=8->t.mo=1))
  (hrun:∀(b o:Int) (i:Nat) (r:List UInt8),0<=o->Rf.formFrom 1 b o i (s++r)=Rf.formFrom 1 b o (i+s.length) r/\(o<=6->Rf.deepFrom 1 b o i (s++r)=Rf.deepFrom 1 b o (i+s.length) r))
  (hval:∀(p:List UInt8) (i:Nat) (r:List UInt8),p.drop i=s++r->∀f v,Rf.valueFrom p f i=some v->∃f',Rf.valueFrom p f' (i+s.length)=some v)
  (hemp:∀(p:List UInt8) (i:Nat) (r:List UInt8),p.drop i=s++r->∀f v,Rf.emptyFrom p f i=some v->∃f',Rf.emptyFrom p f' (i+s.length)=some v):Rt (40::(x++41::s)) V (d+1):=by
 have e:∀r,(40::(x++41::s))++r=40::(x++(41::(s++r))):=fun r=>by simp
 have el:∀i,i+(40::(x++41::s)).length=i+1+x.length+1+s.length:=fun i=>by simp;omega
 refine⟨fun m b o hm ho=>?_,fun p i r hp f v hv=>?_,fun p i r hp f v hv=>?_,?_⟩
 ·obtain⟨m1,b1,hm1,h1⟩:=k.run b (o+1) (by omega);refine⟨b1,fun i r=>?_⟩;rw[e,el];obtain⟨r1,r2⟩:=hrun b1 o (i+1+x.length+1) r ho;have hcl:Rf.read m1 b1 (o+1) 41=⟨true,1,b1,o⟩:=by rw[Km b1 (o+1) hm1 (by omega)];simp
  refine⟨by rw[R0 (Mv b o hm),(h1 _ _).1,R0 hcl,r1],fun h6=>by rw[RZ (Mv b o hm) (by omega),(h1 _ _).2 (by omega),RZ hcl (by omega),r2 (by omega)]⟩
 ·rw[e]at hp;rw[el];obtain⟨f1,h1⟩:=Ye hp (by decide) (by decide) (by decide) hv;have hp1:p.drop (i+1)=x++(41::(s++r)):=by rw[<-List.drop_drop,hp];rfl
  obtain⟨f2,h2⟩:=k.val p _ _ hp1 f1 v h1;have hp2:p.drop (i+1+x.length)=41::(s++r):=by rw[<-List.drop_drop,hp1,List.drop_left]
  obtain⟨f3,h3⟩:=Ye hp2 (by decide) (by decide) (by decide) h2;have hp3:p.drop (i+1+x.length+1)=s++r:=by rw[<-List.drop_drop,hp2];rfl
  exact hval p _ r hp3 f3 v h3
 ·rw[e]at hp;rw[el];obtain⟨f1,h1⟩:=Yi hp (by decide) (by decide) hv;have hp1:p.drop (i+1)=x++(41::(s++r)):=by rw[<-List.drop_drop,hp];rfl
  obtain⟨f2,h2⟩:=k.emp p _ _ hp1 f1 v h1;have hp2:p.drop (i+1+x.length)=41::(s++r):=by rw[<-List.drop_drop,hp1,List.drop_left]
  obtain⟨f3,h3⟩:=Yi hp2 (by decide) (by decide) h2;have hp3:p.drop (i+1+x.length+1)=s++r:=by rw[<-List.drop_drop,hp2];rfl
  exact hemp p _ r hp3 f3 v h3
 ·obtain⟨us,F,u1,u2⟩:=k.tok;have hg:Is (F+1) false (KT::(us++[KS])) V:=Or.inr (Or.inl ⟨KT,us,KS,rfl,Gi,rfl,Gh,rfl,u2⟩);have hp:∃F',Is F' false ((KT::(us++[KS]))++sf) V:=by
   rcases hsf with h|⟨t,h,t1,t2,t3⟩
   ·exact⟨F+1,by rw[h,List.append_nil];exact hg⟩
   ·refine⟨F+2,Or.inr (Or.inr ⟨KT::(us++[KS]),t,V,by rw[h],hg,t1,t2,?_⟩)⟩;split
    ·rw[t3 (by assumption)];omega
    ·rfl
  obtain⟨F',hF'⟩:=hp;refine⟨(KT::(us++[KS]))++sf,by rw[Yy,Yp,Yy,u1,hs];simp[KT,KS,Yg],⟨KT,(us++[KS])++sf,rfl,Re _ (by decide)⟩,fun G r W hI hn=>?_⟩;exact⟨F'+G+1,Or.inr (Or.inr ⟨_,r,V,W,rfl,Wp hF' (by omega),Wp hI (by omega),rfl,hn⟩)⟩
end Go.Proofs.Ytoaaklhpmhjhkab
