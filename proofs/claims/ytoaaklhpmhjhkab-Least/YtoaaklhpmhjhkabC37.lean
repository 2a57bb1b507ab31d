import Derived.Test.YtoaaklhpmhjhkabC33
import Derived.Test.YtoaaklhpmhjhkabC36
set_option maxRecDepth 100000
set_option maxHeartbeats 4000000
set_option linter.all false
namespace Go.Proofs.Ytoaaklhpmhjhkab
open Go.RowKit
open Bm
abbrev WQ:=List UInt8 × Int
def Vc (p:WQ):List Value:=[.string (YE p.1),.int .i64 p.2]
def XP (l:List WQ):List Value:=l.flatMap Vc
theorem UU (a b:List WQ):XP (a++b)=XP a++XP b:=by simp[XP]
theorem Om (a:WQ):XP [a]=Vc a:=by simp[XP]
theorem VJ (l:List WQ):(XP l).length=l.length*2:=by
 induction l with
 |nil=>rfl
 |cons a l ih=>rw[show XP (a::l)=Vc a++XP l from by simp[XP],List.length_append,ih];simp[Vc];omega
theorem VV:∀(l:List WQ) (i j:Nat) (p:WQ),l[i]?=some p->j<2->(XP l)[i*2+j]?=(Vc p)[j]?
 |[],i,j,p,h,_=>by simp at h
 |a::l,0,j,p,h,hj=>by
  rw[show XP (a::l)=Vc a++XP l from by simp[XP]];have e:a=p:=by simpa using h
  rw[List.getElem?_append_left (by simp[Vc];omega),e,Nat.zero_mul,Nat.zero_add]
 |a::l,i+1,j,p,h,hj=>by
  rw[show XP (a::l)=Vc a++XP l from by simp[XP],List.getElem?_append_right (by simp[Vc];omega)];have h2:l[i]?=some p:=by simpa using h
  have:=VV l i j p h2 hj;rw[<-this];congr 1;simp[Vc];omega
def Yh (base:Nat) (v:Value) (l:List WQ) (w:World):Prop:=w.ownsRow base 85 2 v l.length (XP l)
theorem Yh.nil (base:Nat) (w:World):Yh base (.slice none 0 0) [] w:=⟨rfl,Or.inl ⟨rfl,rfl⟩⟩
variable {a : Act}{ops : Array Oper}{Q : Exit → Act → World → Prop}{rest : List Oper}{S V base cap fuel g j k m : Nat}{o op : Oper}{v : Value}{w w' : World}
theorem Yh.blk {l:List WQ} (h:Yh base v l w):∀k,v.ownBlock=some k->base<=k/\k<w.heap.size:=fun k hk=>h.lt k hk
theorem Yh.keep {l:List WQ} (h:Yh base v l w) (hk:∀k,v.ownBlock=some k->w'.heap[k]?=w.heap[k]?):Yh base v l w':=by
 obtain⟨h1,h2⟩:=h;refine⟨h1,?_⟩;rcases h2 with h2|⟨g,cap,cur,rfl,hb,hg,hr⟩
 ·exact Or.inl h2
 ·exact Or.inr ⟨g,cap,cur,rfl,hb,by rw[hk g rfl];exact hg,hr⟩
theorem Yh.below {l:List WQ} (h:Yh base v l w) (hW:Below w.heap.size w w'):Yh base v l w':=h.keep (fun k hk=>hW.block k (h.blk k hk).2)
theorem Yh.cut {l:List WQ} (h:Yh base (.slice (some ⟨g,0,none⟩) l.length cap) l w) (hm:m<=l.length):Yh base (.slice (some ⟨g,0,none⟩) m cap) (l.take m) w:=by
 obtain⟨h1,h2⟩:=h;have hl:(l.take m).length=m:=by rw[List.length_take];omega
 unfold Yh;rw[hl];refine⟨by rw[VJ,hl],?_⟩;rcases h2 with ⟨h2,_⟩|⟨g',cap',cur,e,hb,hg,h3,h4,h5,h6⟩
 ·cases h2
 ·cases e;refine Or.inr ⟨g,cap,cur,rfl,hb,hg,by omega,h4,h5,?_⟩;have e1:cur.toList.take (m*2)=(cur.toList.take (l.length*2)).take (m*2):=by rw[List.take_take,Nat.min_eq_left (by omega)]
  rw[e1,h6]
  conv=>lhs;rw[<-List.take_append_drop m l,UU]
  rw[List.take_left' (by rw[VJ,hl])]
theorem Yh.slc {l:List WQ} (h:Yh base v l w) (hn:0<l.length):∃g cap,v=.slice (some ⟨g,0,none⟩) l.length cap:=by
 rcases h.2 with ⟨_,h2⟩|⟨g,cap,_,e,_⟩
 ·omega
 ·exact⟨g,cap,e⟩
theorem Yh.at_ {l:List WQ} (h:Yh base (.slice (some ⟨g,0,none⟩) l.length cap) l w) {i:Nat}{p:WQ} (hp:l[i]?=some p):w.rangeAt g (i*2) (Vc p)/\w.there g (i*2) 2:=by
 obtain⟨h1,h2⟩:=h;have hi:=(List.getElem?_eq_some_iff.1 hp).1;rcases h2 with ⟨h2,_⟩|⟨g',cap',cur,e,hb,hg,h3,h4,h5,h6⟩
 ·cases h2
 ·cases e;have hc:∀j,j<2->cur[i*2+j]?=(Vc p)[j]?:=fun j hj=>by
   rw[<-VV l i j p hp hj,<-h6,List.getElem?_take_of_lt (by omega),Array.getElem?_toList]
  refine⟨fun j u hj=>?_,fun j hj=>?_⟩
  ·have hj2:j<2:=by have:=(List.getElem?_eq_some_iff.1 hj).1;simpa[Vc]using this
   simp[World.cell?,hg,hc j hj2,hj]
  ·have hlt:i*2+j<cur.size:=by omega
   refine⟨?_,?_⟩
   ·simp[World.cell?,hg,Array.getElem?_eq_getElem hlt]
   ·simp[World.frozen?,hg]
theorem Yh.put {l:List WQ} (h:Yh base (.slice (some ⟨g,0,none⟩) l.length cap) l w) {i:Nat} (hi:i<l.length) (q:WQ):Yh base (.slice (some ⟨g,0,none⟩) l.length cap) (l.set i q) (w.setCells g (i*2) (Vc q)):=by
 unfold Yh at *;rw[List.length_set];have h1:=Vl (Vc q) (i*2) _ _ h;have hl:=VJ l;have e:Wv (XP l) (i*2) (Vc q)=XP (l.set i q):=by
  refine List.ext_getElem? (fun k=>?_);rw[Wf _ _ _ _ (by rw[hl];simp[Vc];omega)];have hp2:(Vc q).length=2:=rfl;rw[hp2];have hr:=Nat.mod_lt k (show 0<2 by omega);rcases Nat.lt_or_ge k (l.length*2)with hk|hk
  ·have hq:k/2<l.length:=by omega
   by_cases e1:k/2=i
   ·have a2:=VV (l.set i q) i (k%2) q (by simp[hi]) hr;rw[show i*2+k%2=k by omega]at a2;rw[if_pos (by omega),a2,show k-i*2=k%2 by omega]
   ·obtain⟨p,hp⟩:∃p,l[k/2]?=some p:=⟨l[k/2],List.getElem?_eq_getElem hq⟩;have a1:=VV l (k/2) (k%2) p hp hr;have a2:=VV (l.set i q) (k/2) (k%2) p (by rw[List.getElem?_set_ne (by omega)];exact hp) hr;rw[show k/2*2+k%2=k by omega]at a1 a2;rw[if_neg (by omega),a1,a2]
  ·rw[if_neg (by omega),List.getElem?_eq_none (by rw[hl];exact hk),List.getElem?_eq_none (by rw[VJ,List.length_set];exact hk)]
 rw[e]at h1;exact h1
theorem Np:∃i,Try.prog.info? 85=some i/\i.zero=some (.agg #[.string ⟨#[]⟩,.int .i64 0])/\i.size=2/\i.bytes=24:=by
 have h:(Try.prog.info? 85).isSome=true:=by kernel_rfl
 obtain⟨i,hi⟩:=Option.isSome_iff_exists.1 h;refine⟨i,hi,?_,?_,?_⟩
 ·have:((Try.prog.info? 85).bind (·.zero))=some (.agg #[.string ⟨#[]⟩,.int .i64 0]):=by kernel_rfl
  rw[hi]at this;simpa using this
 ·have:((Try.prog.info? 85).map (·.size))=some 2:=by kernel_rfl
  rw[hi]at this;simpa using this
 ·have:((Try.prog.info? 85).map (·.bytes))=some 24:=by kernel_rfl
  rw[hi]at this;simpa using this
theorem Va (hgd:o.guard=none) (s x:Operand)
  (ho:o.op=.call { callee:=.builtin .append,args:=#[s,x],argTypes:=#[83,83] }) (base:Nat)
  (v:Value) (l:List WQ) (hs:a.eval s=v) (hown:Yh base v l w) (hn:l.length<=100000)
  (B:Nat) (t:WQ) (hx:a.eval x=.slice (some ⟨B,0,none⟩) 1 1) (hnews:∀j u,(Vc t)[j]?=some u->w.cell? ⟨B,j,none⟩=some u) (hbase:base<=w.heap.size)
  (h:∀g cap w',Yh base (.slice (some ⟨g,0,none⟩) (l.length+1) cap) (l++[t]) w'->w.grownBy w' v.ownBlock->wpList Try.prog ops Q rest (a.put o.dst (.slice (some ⟨g,0,none⟩) (l.length+1) cap)) w'):wpList Try.prog ops Q (o::rest) a w:=by
 obtain⟨i,hi,hz0,hz1,hz2⟩:=Np;refine wpList_append_lies w hgd s x 83 ho base 85 i (.agg #[.string ⟨#[]⟩,.int .i64 0]) 2 24 Try.underlying83 hi hz0 hz1 hz2 (by simp[Value.cells]) (by omega) v l.length (XP l) hs hown ⟨B,0,none⟩ 1 1 (Vc t) hx (by simp[Vc]) (fun j u hu=>by rw[Addr.add_mid,Nat.zero_add];exact hnews j u hu) (by simp[Vc,Value.oneCell']) (by omega) (by unfold maxLen;omega) (by omega) hbase _ rfl ?_;intro g cap w' h1 h2 h3 h4;refine h g cap w' ?_ h2;unfold Yh;rw[UU,Om,List.length_append];exact h1
end Go.Proofs.Ytoaaklhpmhjhkab
namespace Go.Proofs.Ytoaaklhpmhjhkab
open Go.RowKit
structure Ux (p:WQ) (V:Nat):Prop where
 rt:Rt p.1 V p.2.toNat
 d0:0<=p.2
 d6:p.2<=6
 len:p.1.length<=40
 pos:1<=V
def SP (ps:List WQ) (S:Nat):Prop:=∃Vs:List Nat,Vs.length=ps.length/\Vs.sum=S/\∀(k:Nat) (p:WQ) (V:Nat),ps[k]?=some p->Vs[k]?=some V->Ux p V
theorem MH:SP [] 0:=⟨[],rfl,rfl,fun k p V h=>by simp at h⟩
variable {a : Act}{ops : Array Oper}{Q : Exit → Act → World → Prop}{rest : List Oper}{S V base fuel j k : Nat}{o op : Oper}{v : Value}{w w' : World}
theorem XQ {ps:List WQ}{p:WQ} (h:SP ps S) (hp:Ux p V):SP (ps++[p]) (S+V):=by
 obtain⟨Vs,h1,h2,h3⟩:=h;refine⟨Vs++[V],by simp[h1],by simp[h2],fun k q W hq hW=>?_⟩;by_cases hk:k<ps.length
 ·rw[List.getElem?_append_left hk]at hq;rw[List.getElem?_append_left (by omega)]at hW;exact h3 k q W hq hW
 ·rw[List.getElem?_append_right (by omega)]at hq;rw[List.getElem?_append_right (by omega)]at hW;have hl:=(List.getElem?_eq_some_iff.1 hq).1;simp at hl;have e1:k-ps.length=0:=by omega
  have e2:k-Vs.length=0:=by omega
  rw[e1]at hq;rw[e2]at hW;simp at hq hW;rw[<-hq,<-hW];exact hp
theorem T8 {ps:List WQ}{p:WQ} (h:SP (ps++[p]) S):∃S' V,S=S'+V/\SP ps S'/\Ux p V:=by
 obtain⟨Vs,h1,h2,h3⟩:=h;rcases List.eq_nil_or_concat Vs with e|⟨Us,V,e⟩
 ·subst e;simp at h1
 ·subst e;rw[List.concat_eq_append]at *;have hl:Us.length=ps.length:=by simp at h1;exact h1
  refine⟨Us.sum,V,by simp at h2;omega,⟨Us,hl,rfl,fun k q W hq hW=>?_⟩,?_⟩
  ·have hk:=(List.getElem?_eq_some_iff.1 hq).1;exact h3 k q W (by rw[List.getElem?_append_left hk];exact hq) (by rw[List.getElem?_append_left (by omega)];exact hW)
  ·exact h3 ps.length p V (by simp) (by rw[<-hl];simp)
theorem NA:∀(n:Nat) {ps:List WQ}{S:Nat},ps.length=n->SP ps S->n<=S
 |0,_,_,_,_=>Nat.zero_le _
 |n+1,ps,S,hl,h=>by
  rcases List.eq_nil_or_concat ps with e|⟨qs,p,e⟩
  ·subst e;simp at hl
  ·rw[List.concat_eq_append]at e;subst e;obtain⟨S',V,e,h1,h2⟩:=T8 h;have:=NA n (by simp at hl;exact hl) h1;have:=h2.pos;omega
theorem P1 (hk:k<10):Ux (V0 k,0) 1:=
 ⟨OK k hk,Int.le_refl _,by show(0:Int)<=6;omega,by
  show(V0 k).length<=40;have:k=0\/k=1\/k=2\/k=3\/k=4\/k=5\/k=6\/k=7\/k=8\/k=9:=by omega
  rcases this with rfl|rfl|rfl|rfl|rfl|rfl|rfl|rfl|rfl|rfl<;>decide,Nat.le_refl _⟩
theorem Sh {p q:WQ}{W:Nat}{b:Bool} (hp:Ux p V) (hq:Ux q W) (h40:(Vw p.1 q.1 b).length<=40) (h6:Wh p.2 q.2 b<=6):Ux (Vw p.1 q.1 b,Wh p.2 q.2 b) (V+W):=by
 have e0:=hp.d0;have f0:=hq.d0;have hm:∃m:Nat,(if p.2<q.2 then q.2 else p.2)=(m:Int)/\p.2.toNat<=m/\q.2.toNat<=m:=by
  by_cases h:p.2<q.2
  ·exact⟨q.2.toNat,by rw[if_pos h];omega,by omega,Nat.le_refl _⟩
  ·exact⟨p.2.toNat,by rw[if_neg h];omega,Nat.le_refl _,by omega⟩
 obtain⟨m,m1,m2,m3⟩:=hm;have hd:Wh p.2 q.2 b=(m:Int)+(if b then 1 else 0):=by unfold Wh;rw[m1]
 refine⟨?_,by rw[hd];show(0:Int)<=m+_;split<;>omega,h6,h40,by have:=hp.pos;omega⟩;show Rt (Vw p.1 q.1 b) (V+W) (Wh p.2 q.2 b).toNat;rw[hd];cases b
 ·rw[show((m:Int)+(if false=true then 1 else 0)).toNat=m by simp];exact LY (hp.rt.mono m2) (hq.rt.mono m3)
 ·rw[show((m:Int)+(if true=true then 1 else 0)).toNat=m+1 by simp];exact NJ (hp.rt.mono m2) (Wq (hq.rt.mono m3))
theorem OG {p:WQ} (hp:Ux p V) (h40:(Vw p.1 [] true).length<=40) (h6:Wh p.2 0 true<=6):Ux (Vw p.1 [] true,Wh p.2 0 true) V:=by
 have e0:=hp.d0;have hd:Wh p.2 0 true=p.2+1:=by unfold Wh;rw[if_neg (by omega)];simp
 refine⟨?_,by rw[hd];show(0:Int)<=p.2+1;omega,h6,h40,hp.pos⟩;show Rt (Vw p.1 [] true) V (Wh p.2 0 true).toNat;rw[hd,show(p.2+1).toNat=p.2.toNat+1 by omega];have:=NJ hp.rt (Pd.mono (Nat.zero_le p.2.toNat));rw[Nat.add_zero]at this;exact this
theorem P0 {p:WQ} (hp:Ux p V) (hj:j<5):Ux (Rk p.1 p.2 (Wt j),Rj p.1 p.2 (Wt j)) V:=by
 unfold Rk Rj;by_cases h:40<(40::(p.1++41::Wt j)).length\/6<p.2+1
 ·rw[if_pos h,if_pos h];exact hp
 ·rw[if_neg h,if_neg h];have e0:=hp.d0;refine⟨?_,by show(0:Int)<=p.2+1;omega,by show p.2+1<=6;omega,by show(40::(p.1++41::Wt j)).length<=40;omega,hp.pos⟩;show Rt (40::(p.1++41::Wt j)) V (p.2+1).toNat;rw[show(p.2+1).toNat=p.2.toNat+1 by omega];exact NK hp.rt j hj
open Bm
theorem Ot:∃i,Try.prog.info? 9=some i/\i.zero=some (.string ⟨#[]⟩)/\i.size=1/\i.bytes=16:=by
 have h:(Try.prog.info? 9).isSome=true:=by kernel_rfl
 obtain⟨i,hi⟩:=Option.isSome_iff_exists.1 h;refine⟨i,hi,?_,?_,?_⟩
 ·have:((Try.prog.info? 9).bind (·.zero))=some (.string ⟨#[]⟩):=by kernel_rfl
  rw[hi]at this;simpa using this
 ·have:((Try.prog.info? 9).map (·.size))=some 1:=by kernel_rfl
  rw[hi]at this;simpa using this
 ·have:((Try.prog.info? 9).map (·.bytes))=some 16:=by kernel_rfl
  rw[hi]at this;simpa using this
def LI (l:List WQ):List Value:=l.map fun p=>.string (YE p.1)
def WP (base:Nat) (v:Value) (l:List WQ) (w:World):Prop:=w.ownsRow base 9 1 v l.length (LI l)
theorem WP.nil (base:Nat) (w:World):WP base (.slice none 0 0) [] w:=⟨rfl,Or.inl ⟨rfl,rfl⟩⟩
theorem WP.blk {l:List WQ} (h:WP base v l w):∀k,v.ownBlock=some k->base<=k/\k<w.heap.size:=fun k hk=>h.lt k hk
theorem WP.keep {l:List WQ} (h:WP base v l w) (hk:∀k,v.ownBlock=some k->w'.heap[k]?=w.heap[k]?):WP base v l w':=by
 obtain⟨h1,h2⟩:=h;refine⟨h1,?_⟩;rcases h2 with h2|⟨g,cap,cur,rfl,hb,hg,hr⟩
 ·exact Or.inl h2
 ·exact Or.inr ⟨g,cap,cur,rfl,hb,by rw[hk g rfl];exact hg,hr⟩
theorem WP.below {l:List WQ} (h:WP base v l w) (hW:Below w.heap.size w w'):WP base v l w':=h.keep (fun k hk=>hW.block k (h.blk k hk).2)
theorem WP.sl {l:List WQ} (h:WP base v l w):∃la lc,v=.slice la l.length lc:=by
 rcases h.2 with ⟨h1,h2⟩|⟨g,cap,_,e,_⟩
 ·exact⟨none,0,by rw[h1,h2]⟩
 ·exact⟨_,cap,e⟩
theorem WP.row {l:List WQ} (h:WP base v l w) (hl:0<l.length):∃g cap,v=.slice (some ⟨g,0,none⟩) l.length cap/\Rg g 0 (fun j=>YE (l.getD j ([],0)).1) l.length w/\g<w.heap.size:=by
 obtain⟨g,cap,e,_,hg⟩:=World.ownsRow.form h hl;refine⟨g,cap,e,fun i hi=>?_,hg⟩;have hx:=h.cells (g:=g) (by rw[e];rfl) i (.string (YE (l.getD i ([],0)).1)) (by
  rw[LI,List.getElem?_map,List.getElem?_eq_getElem hi,List.getD_eq_getElem?_getD,List.getElem?_eq_getElem hi];rfl)
 rw[Addr.add_mid]at hx;exact hx
theorem WO (hgd:o.guard=none) (s x:Operand)
  (ho:o.op=.call { callee:=.builtin .append,args:=#[s,x],argTypes:=#[55,55] }) (base:Nat)
  (v:Value) (l:List WQ) (hs:a.eval s=v) (hown:WP base v l w) (hn:l.length<=100000)
  (B:Nat) (t:WQ) (hx:a.eval x=.slice (some ⟨B,0,none⟩) 1 1) (hnews:w.cell? ⟨B,0,none⟩=some (.string (YE t.1))) (hbase:base<=w.heap.size)
  (h:∀g cap w',WP base (.slice (some ⟨g,0,none⟩) (l.length+1) cap) (l++[t]) w'->w.grownBy w' v.ownBlock->wpList Try.prog ops Q rest (a.put o.dst (.slice (some ⟨g,0,none⟩) (l.length+1) cap)) w'):wpList Try.prog ops Q (o::rest) a w:=by
 obtain⟨i,hi,hz0,hz1,hz2⟩:=Ot;refine wpList_append_lies w hgd s x 55 ho base 9 i (.string ⟨#[]⟩) 1 16 Try.underlying55 hi hz0 hz1 hz2 (by simp[Value.cells]) (by omega) v l.length (LI l) hs hown ⟨B,0,none⟩ 1 1 [.string (YE t.1)] hx rfl (fun j u hu=>?_) (by simp[Value.oneCell']) (by omega) (by unfold maxLen;omega) (by omega) hbase _ rfl ?_
 ·rw[Addr.add_mid,Nat.zero_add];cases j with
  |zero=>simp at hu;subst hu;exact hnews
  |succ j=>simp at hu
 intro g cap w' h1 h2 h3 h4;refine h g cap w' ?_ h2;unfold WP;rw[show LI (l++[t])=LI l++[.string (YE t.1)] by simp[LI],List.length_append];exact h1
def Lk (ps:List WQ) (S:Nat):Prop:=∃Vs:List Nat,Vs.length=ps.length/\Vs.sum=S/\∀(k:Nat) (p:WQ) (V:Nat),ps[k]?=some p->Vs[k]?=some V->(∃d,d<=6/\MX p.1 V d)/\p.1.length<=40
theorem MQ {ps:List WQ} (h:SP ps S):Lk ps S:=by
 obtain⟨Vs,h1,h2,h3⟩:=h;refine⟨Vs,h1,h2,fun k p V hp hV=>?_⟩;have:=h3 k p V hp hV;exact⟨⟨p.2.toNat,by have:=this.d6;omega,Wq this.rt⟩,this.len⟩
theorem NP:Lk [([],0)] 0:=⟨[0],rfl,rfl,fun k p V hp hV=>by
 cases k with
 |zero=>simp at hp hV;subst hp;subst hV;exact⟨⟨0,by omega,Pd⟩,by simp⟩
 |succ k=>simp at hp⟩
theorem Po:∀(Vs:List Nat) (k V:Nat),Vs[k]?=some V->V<=Vs.sum
 |[],k,V,h=>by simp at h
 |a::Vs,0,V,h=>by simp at h;simp;omega
 |a::Vs,k+1,V,h=>by have:=Po Vs k V (by simpa using h);simp;omega
theorem Q6:∀(n:Nat) (Vs:List Nat) (f:Nat->Int),n<=Vs.length->(∀k V,k<n->Vs[k]?=some V->f k=V)->Yj f n=((Vs.take n).sum:Nat)
 |0,Vs,f,_,_=>by simp[Yj]
 |n+1,Vs,f,hn,h=>by
  have ih:=Q6 n Vs f (by omega) (fun k V hk hV=>h k V (by omega) hV);obtain⟨V,hV⟩:∃V,Vs[n]?=some V:=⟨_,List.getElem?_eq_getElem (by omega)⟩;have e:=h n V (by omega) hV;rw[Yj,ih,e,List.take_add_one,hV];simp
theorem Pm {l:List WQ} (h:WP base v l w') (B:Below w.heap.size w w') (hl:1<=l.length) (hl8:l.length<=8) (hT:Lk l S) (hS:S<=6):Pu w (.returned v) w':=by
 obtain⟨g,cap,e,hr,hg⟩:=h.row (by omega);obtain⟨Vs,h1,h2,h3⟩:=hT;have hall:∀k,k<l.length->∃V,Vs[k]?=some V/\(l.getD k ([],0)).1.length<=40/\(Pg.wrong (Y5 (YE (l.getD k ([],0)).1)) (YE (l.getD k ([],0)).1).size).1=0/\Yv (YE (l.getD k ([],0)).1)=(V:Int):=fun k hk=>by
  obtain⟨V,hV⟩:∃V,Vs[k]?=some V:=⟨_,List.getElem?_eq_getElem (by omega)⟩;have hp:l[k]?=some (l.getD k ([],0)):=by rw[List.getD_eq_getElem?_getD,List.getElem?_eq_getElem hk];rfl
  obtain⟨⟨d,hd,hI⟩,h40⟩:=h3 k _ V hp hV;have hx:=Ou hI hd h40 (YE (l.getD k ([],0)).1) (by simp[YE]);have hV6:=Po Vs k V hV;refine⟨V,hV,h40,hx.1,?_⟩;rw[hx.2,Pg.capped,if_neg (by omega)]
 refine⟨g,l.length,cap,_,by rw[e],B,hg,hr,hl,hl8,fun i hi=>?_,fun j hj=>?_,?_⟩
 ·obtain⟨V,_,h40,_⟩:=hall i hi;rw[UX];unfold maxLen;omega
 ·obtain⟨V,_,_,h0,_⟩:=hall j hj;exact h0
 ·have:=Q6 l.length Vs (fun j=>Yv (YE (l.getD j ([],0)).1)) (by omega) (fun k V hk hV=>by
   obtain⟨V',hV',_,_,hp⟩:=hall k hk;rw[hV]at hV';cases hV';exact hp)
  rw[this,<-h1,List.take_length,h2];omega
variable {P : Program}{md : Region.Mode}
theorem OY (i j:Nat) {o4 o5:Oper}{v4 v5:Value}{listed L:Array Bool}{a A:Act}{w:World}
  (h4:ops[i]?=some o4) (h5:ops[j]?=some o5) (g4:o4.guard=none) (g5:o5.guard=none)
  (r0:Region.ready md ops listed=[i,j]) (r1:Region.ready md ops (listed.setIfInBounds i true)=[j]) (r2:Region.ready md ops (listed.setIfInBounds j true)=[i])
  (x4:(execOp a.eval o4).run P w=.ok (.value v4) w) (y4:(execOp (a.put o5.dst v5).eval o4).run P w=.ok (.value v4) w)
  (x5:(execOp a.eval o5).run P w=.ok (.value v5) w) (y5:(execOp (a.put o4.dst v4).eval o5).run P w=.ok (.value v5) w)
  (l1:(listed.setIfInBounds i true).setIfInBounds j true=L) (l2:(listed.setIfInBounds j true).setIfInBounds i true=L)
  (f1:(a.put o4.dst v4).put o5.dst v5=A) (f2:(a.put o5.dst v5).put o4.dst v4=A)
  (fin:wpAny P md ops Q fuel L A w):wpAny P md ops Q (fuel+2) listed a w:=by
 refine wpAny_all r0 (by simp) (fun q hq=>?_);rcases List.mem_cons.1 hq with rfl|hq
 ·refine Ym h4 (by simp[Region.wanted,g4]) x4 (wpAny_all r1 (by simp) (fun q hq=>?_));rw[List.mem_singleton.1 hq];refine Ym h5 (by simp[Region.wanted,g5]) y5 ?_;rw[l1,f1];exact fin
 ·rw[List.mem_singleton.1 hq];refine Ym h5 (by simp[Region.wanted,g5]) x5 (wpAny_all r2 (by simp) (fun q hq=>?_));rw[List.mem_singleton.1 hq];refine Ym h4 (by simp[Region.wanted,g4]) y4 ?_;rw[l2,f2];exact fin
theorem Ut (hgd:op.guard=none) (x y:Operand) (ho:op.op=.slice 83 x none (some y) none)
  (g len cap h:Nat) (hx:a.eval x=.slice (some ⟨g,0,none⟩) len cap) (hy:a.eval y=.int .i64 h) (h2:h<=cap) (h0:0<cap)
  (hk:wpList Try.prog ops Q rest (a.put op.dst (.slice (some ⟨g,0,none⟩) h cap)) w):wpList Try.prog ops Q (op::rest) a w:=
 wpList_plain hgd fun _ hK=>by
  have hs:(sizeOf 85).run Try.prog w=.ok 2 w:=by kernel_rfl
  have hr:(Instr.slice 83 (.slice (some ⟨g,0,none⟩) len cap) none (some (.int .i64 (h:Int))) none).run Try.prog w=.ok (.slice (some ⟨g,0,none⟩) h cap) w:=by
   have e1:∀c,(Instr.sliceBound (.int .i64 (h:Int)) cap c).run Try.prog w=.ok h w:=fun c=>by simp[Instr.sliceBound,asIntOf,Sem.run_ite];omega
   have e3:(Instr.sliceBounds true len cap none (some (.int .i64 (h:Int))) none).run Try.prog w=.ok (0,h,cap) w:=by
    simp[Instr.sliceBounds,e1]
   simp only[Instr.slice,Sem.run_bind,run_underlying Try.underlying83,Result.andThen_ok,e3,hs,Sem.run_pure];have:cap≠0:=by omega
   simp[Addr.add,this]
  have hr2:(Instr.sliceAt 83 (.slice (some ⟨g,0,none⟩) len cap) none (some (.int .i64 (h:Int))) none).run Try.prog w=.ok (.slice (some ⟨g,0,none⟩) h cap) w:=by
   simp only[Instr.sliceAt,Sem.run_bind,run_underlying Try.underlying83,Result.andThen_ok];exact hr
  unfold Oper.wp execOp;simp only[ho,hx,hy,Sem.run_bind,Option.map_none,Option.map_some,hr2,Result.andThen_ok,Sem.run_pure];exact hK _ _ hk
theorem Sl {S:World->Prop} (i:Nat) {oi:Oper}{v:Value}{fuel:Nat}{listed:Array Bool}{a A:Act}{w:World} (r:wpAnyH P md ops Q S fuel (listed.setIfInBounds i true) A w)
  (h:ops[i]?=some oi:=by simp only[gel];rfl)
  (hs:(Region.noSelect ops&&Region.free md ops listed i&&(Region.ready md ops listed).contains i)=true:=by kernel_rfl)
  (hQ:∀c a w,Q (.panic c) (Act.put a oi.dst v) w->Q (.panic c) a w:=by exact fun _ _ _ h=>h)
  (hy:YieldsIf P ops S oi v a:=by exact Or.inl ⟨by rfl,by intro w' s;go_simp;first|done|with_reducible rfl⟩)
  (hS:S w:=by assumption)
  (hA:a.put oi.dst v=A:=by(try simp only[psm]);rfl):wpAnyH P md ops Q S (fuel+1) listed a w:=by
 simp only[Bool.and_eq_true]at hs;subst hA;exact wpAnyH_take h hs.1.1 hs.1.2 hs.2 hQ hy hS r
end Go.Proofs.Ytoaaklhpmhjhkab
