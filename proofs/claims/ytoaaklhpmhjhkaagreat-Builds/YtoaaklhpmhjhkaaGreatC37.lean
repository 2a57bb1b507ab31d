import Derived.Test.YtoaaklhpmhjhkaaGreatC07
import Derived.Test.YtoaaklhpmhjhkaaGreatC26
set_option maxRecDepth 100000
set_option maxHeartbeats 4000000
set_option linter.all false
namespace Go.Proofs.YtoaaklhpmhjhkaaGreat
open Go.RowKit
def tx (ts:List Tq):List UInt8:=txt (ts.map Tq.t)
theorem q2a (a b:List Tq):tx (a++b)=tx a++tx b:=by simp[tx,q0K]
theorem q3H (a:Tq) (b:List Tq):tx (a::b)=a.t.w++tx b:=by simp[tx,q0P]
theorem q8z:tx []=[]:=rfl
theorem q4r (L:List (List Tq × Rx)) (x:List Tq × Rx):tx (((x::L).map (·.1)).flatten)=tx x.1++tx ((L.map (·.1)).flatten):=by simp[q2a]
variable {ts : List Tq}{r : List UInt8}{f : Nat}{e : Rx}
theorem y1q (h:Pp f 0 ts e):(∀q∈ts,TqOK q)/\∃F,Is F false (ts.map Tq.t) e.sz/\∃q r,ts=q::r/\(q.t.kd=1\/q.t.kd=2):=by
 obtain⟨h1,F,h0,_,_⟩:=q3E f 0 ts e h;exact⟨h1,F,h0 rfl⟩
theorem q7T (h:Pp f 0 ts e):∃c w,tx ts=c::w/\c≠124/\sufB c=false:=by
 obtain⟨h0,F,h1,q,r,rfl,hk⟩:=y1q h;have hok:=h0 q (by simp);obtain⟨c,w,hw,hs,hb,_⟩:=q1k hok.1;refine⟨c,w++tx r,by rw[q3H,hw];rfl,fun e=>by have:=hb.1 e;omega,?_⟩;cases hsb:sufB c
 ·rfl
 ·have:=hs.1 hsb;unfold isSuf at this;omega
theorem q8E (h:Pp f 0 ts e) (r:List UInt8) (hr:∀c r',r=c::r'->sufB c=false):Rf.piece (tx ts++r)=some (tx ts).length:=by
 obtain⟨_,F,h1,_⟩:=y1q h;obtain⟨base,sufs,e1,e2,e3,e4⟩:=q1N F _ _ h1;have hl:=q5L (fun t' ht'=>(e2 t' ht').1);unfold tx;have ha:Rf.atom (txt (ts.map Tq.t)++r)=some base.length:=by rw[e1,List.append_assoc];exact e4 _
 rw[Rf.piece,ha];simp only;rw[q5m sufs e2 _ base.length _ r (by rw[e1,List.append_assoc,List.drop_left]) hr (by rw[List.length_append,e1,List.length_append];omega),e1,List.length_append]
theorem y1p (h:Pp f 0 ts e) {t:Tq} (ht:TqOK t) (hs:isSuf t.t):Rf.split (tx ts++t.t.w)=some (tx ts).length:=by
 obtain⟨_,F,h1,_⟩:=y1q h;obtain⟨base,sufs,e1,e2,e3,e4⟩:=q1N F _ _ h1;obtain⟨c,w,hw,_⟩:=q1k ht.1;have hl:=q5L (fun t' ht'=>(e2 t' ht').1);unfold tx;have ha:Rf.atom (txt (ts.map Tq.t)++t.t.w)=some base.length:=by rw[e1,List.append_assoc];exact e4 _
 rw[Rf.split,ha];simp only;rw[q5g sufs e2 t.t ht.1 hs _ base.length base.length _ (by rw[e1,List.append_assoc,List.drop_left]) (by rw[List.length_append,hw,e1,List.length_append,List.length_cons];omega),e1,List.length_append]
theorem q7n {t:Tq} (ht:TqOK t) (hk:t.t.kd=1):Rf.split t.t.w=some t.t.w.length:=by
 have h2:=ht.1;have hp:IsPlaceW t.t.w:=by
  rcases h2 with h|h|h|h|h|h|h|h
  all_goals first|(exact absurd h.1 (by omega))|exact h.2
 have hat:Rf.atom t.t.w=some t.t.w.length:=by
  rcases hp with ⟨c,hw,hs⟩|⟨e,v0,hw,hone⟩|⟨e,hw,hset⟩
  ·unfold Special at hs;rw[hw,Rf.atom]
   (try simp only)
   rw[if_neg (fun e=>hs (by simp[e])),if_neg (fun e=>hs (by simp[e])),if_neg (fun e=>hs (by simp[e]))];rfl
  ·have:=hone [];rw[List.append_nil]at this;rw[hw,Rf.atom];simp only[if_true];rw[this];rfl
  ·obtain⟨fa,inn,hs⟩:=hset [] 0;rw[List.append_nil]at hs;rw[hw,Rf.atom];simp only;rw[if_neg (by decide),if_pos trivial,hs];simp
 rw[Rf.split,hat];simp only;rw[Rf.splitFrom,List.drop_length]
theorem y3u {a:Tq} (h:TqOK a) (hk:a.t.kd=2):a.t.w=[40]:=by
 rcases h.1 with h|h|h|h|h|h|h|h
 all_goals first|(exact absurd h.1 (by omega))|exact h.2
theorem y3n {a:Tq} (h:TqOK a) (hk:a.t.kd=3):a.t.w=[41]:=by
 rcases h.1 with h|h|h|h|h|h|h|h
 all_goals first|(exact absurd h.1 (by omega))|exact h.2
theorem y3N {a:Tq} (h:TqOK a) (hk:a.t.kd=4):a.t.w=[124]:=by
 rcases h.1 with h|h|h|h|h|h|h|h
 all_goals first|(exact absurd h.1 (by omega))|exact h.2
theorem q8l {inn:List Tq} (h:Pp f 2 inn e):Rf.split (40::(tx inn++[41]))=some (40::(tx inn++[41])).length:=by
 obtain⟨_,F,_,_,h2⟩:=q3E f 2 inn e h;have h6:=h2 (Nat.le_refl _);obtain⟨C,c1,c2⟩:=grp F true _ _ h6;have hat:Rf.atom (40::(txt (inn.map Tq.t)++[41]))=some (40::(txt (inn.map Tq.t)++[41])).length:=by
  rw[Rf.atom];simp only;rw[if_neg (by decide),if_neg (by decide),if_pos trivial,Rf.groupFrom,List.drop_zero];simp only;rw[if_neg (by decide),if_neg (by decide),if_pos trivial];have hlen:(txt (inn.map Tq.t)++[41]).length=(txt (inn.map Tq.t)).length+1:=by simp
  obtain⟨v,hv⟩:∃v,(txt (inn.map Tq.t)++[41]).length+1=(v+1)+C:=⟨(txt (inn.map Tq.t)).length+1-C,by omega⟩;have hd1:(40::(txt (inn.map Tq.t)++[41])).drop (0+1)=txt (inn.map Tq.t)++[41]:=by simp
  have hd2:(40::(txt (inn.map Tq.t)++[41])).drop (0+1+(txt (inn.map Tq.t)).length)=[41]:=by rw[<-q0n,hd1,List.drop_left]
  rw[hv,c2 _ _ (v+1) (0+1) [41] (by omega) hd1,Rf.groupFrom,hd2];simp only;rw[if_neg (by decide),if_neg (by decide),if_neg (by decide),if_pos trivial,if_pos (by decide)];simp;omega
 unfold tx;rw[Rf.split,hat];simp only;rw[Rf.splitFrom,List.drop_length]
theorem q7S (h:Pp f 0 ts e):∃G,Rf.cnt G false (tx ts)=some (e.sz:Int):=by
 obtain⟨_,F,h1,_⟩:=y1q h;obtain⟨G,hG⟩:=counts F false _ _ h1;exact⟨0+G,hG 0⟩
def Rf.rowFrom (p:List UInt8):Nat->Nat->Option Nat
 |0,_=>none
 |f+1,n=>
  match p.drop n with
  |[]=>some n
  |c::r=>
   if c=124 then some n
   else match Rf.piece (c::r)with
    |none=>none
    |some k=>Rf.rowFrom p f (n+k)
def NoSuf (r:List UInt8):Prop:=∀c r',r=c::r'->sufB c=false
theorem q5w {L:List (List Tq × Rx)} (h:∀x∈L,Pp f 0 x.1 x.2) {r:List UInt8} (hr:NoSuf r):NoSuf (tx ((L.map (·.1)).flatten)++r):=by
 rcases L with _|⟨x,L⟩
 ·simpa[tx,txt]using hr
 ·obtain⟨c,w,hw,_,hs⟩:=q7T (h x (by simp));rw[q4r,hw];intro c' r' e;simp only[List.cons_append]at e;injection e with e1 e2;rw[<-e1];exact hs
theorem y0Y (h:∀c r',r=c::r'->c=124):NoSuf r:=fun c r' e=>by rw[h c r' e];decide
theorem y3o:∀(L:List (List Tq × Rx)),(∀x∈L,Pp f 0 x.1 x.2)->∀(p:List UInt8) (i g:Nat) (r:List UInt8),p.drop i=tx ((L.map (·.1)).flatten)++r->(∀c r',r=c::r'->c=124)->L.length<g->Rf.rowFrom p g i=some (i+(tx ((L.map (·.1)).flatten)).length):=by
 intro L
 induction L with
 |nil=>
  intro _ p i g r hd hr hg;obtain⟨g,rfl⟩:∃q,g=q+1:=⟨g-1,by omega⟩;simp only[List.map_nil,List.flatten_nil,q8z,List.nil_append,List.length_nil,Nat.add_zero]at hd ⊢;rw[Rf.rowFrom,hd];rcases r with _|⟨c,r'⟩
  ·rfl
  ·simp only[hr c r' rfl,if_true]
 |cons x L ih=>
  intro h p i g r hd hr hg;obtain⟨g,rfl⟩:∃q,g=q+1:=⟨g-1,by omega⟩;have hx:=h x (by simp);obtain⟨c,w,hw,hc,_⟩:=q7T hx;rw[q4r,List.append_assoc]at hd;have hp:=q8E hx _ (q5w (L:=L) (fun y hy=>h y (by simp[hy])) (y0Y hr));have hd2:p.drop (i+(tx x.1).length)=tx ((L.map (·.1)).flatten)++r:=by rw[<-q0n,hd,List.drop_left]
  have hd':=hd;rw[hw,List.cons_append]at hd' hp;rw[Rf.rowFrom,hd'];simp only[if_neg hc,hp];rw[show(c::w).length=(tx x.1).length by rw[hw],ih (fun y hy=>h y (by simp[hy])) p _ g r hd2 hr (by simp at hg;omega),q4r,List.length_append,Nat.add_assoc]
theorem q8F (h:Pp f 0 ts e):1<=(tx ts).length:=by
 obtain⟨c,w,hw,_⟩:=q7T h;rw[hw];simp
theorem q4O:∀ {L:List (List Tq × Rx)},(∀x∈L,Pp f 0 x.1 x.2)->L.length<=(tx ((L.map (·.1)).flatten)).length
 |[],_=>by simp
 |x::L,h=>by
  have:=q4O (L:=L) (fun y hy=>h y (by simp[hy]));have:=q8F (h x (by simp));rw[q4r,List.length_append,List.length_cons];omega
theorem y2z (s:ByteArray) (n g:Nat) (w:World) (hs:s.size<=40) (h:Rf.rowFrom s.data.toList g 0=some n):
  Calls Tryz.prog 146 #[.string s] w fun e w'=>e=.returned (.int .i64 n)/\Below w.heap.size w w':=by
 go_enter Tryz.func146,Tryz.ntmps146;go_wp2_with fail
 go_loopw [3] (fun i w'=>∃(g k:Nat),i=.int .i64 k/\k<=s.size/\Below w.heap.size w w'/\Hid (Rf.rowFrom s.data.toList g k=some n)) (fun i _=>s.size-(intOf i).toNat)
 case atStart=>exact⟨g,0,rfl,by omega,Below.refl _ _,h⟩
 case round=>
  clear h;obtain⟨g,k,rfl,hks,hW,HS⟩:=hrel;rcases g with _|g
  ·exact absurd HS.out (by simp[Rf.rowFrom])
  have hI:=HS.out;clear HS;rcases hd:s.data.toList.drop k with _|⟨c,r⟩
  ·simp only[Rf.rowFrom,hd,Option.some.injEq]at hI;have hk:s.size<=k:=by simpa using hd
   have HI:Hid ((k:Int)=(n:Int)):=by show _=_;omega
   clear hd hI;go_wp2_with fail;go_ret;exact⟨q0l HI.out,hW⟩
  obtain⟨hk,hc,hr⟩:=q0m hd;simp only[Rf.rowFrom,hd]at hI;by_cases e124:c=124
  ·have hb124:((s[k].toNat:Int)==124)=true:=by rw[hc,e124];rfl
   have hb124':((s[k].toNat:Int) != 124)=false:=by rw[hc,e124];rfl
   rw[if_pos e124,Option.some.injEq]at hI;have HI:Hid ((k:Int)=(n:Int)):=by show _=_;omega
   clear hI hd hc hr e124;go_wp2_with fail;go_ret;exact⟨q0l HI.out,hW⟩
  have hb124:((s[k].toNat:Int)==124)=false:=by rw[hc];exact q0J e124
  have hb124':((s[k].toNat:Int) != 124)=true:=by simp only[bne,hb124];rfl
  rw[if_neg e124]at hI;rcases hp:Rf.piece (c::r)with _|m
  ·rw[hp]at hI;cases hI
  obtain⟨hn1,hn2⟩:=Rf.piece_le hp;rw[hp]at hI;simp only at hI;have hlen:(c::r).length=s.size-k:=by rw[<-hd];simp
  have hp':Rf.piece (s.extract k s.size).data.toList=some m:=by rw[q3u,hd];exact hp
  have HI:=hyd hI;have hkn:k+m<=s.size:=by omega
  clear hI hd hc hr e124 hp;go_wp2_with fail;refine(q4y _ m _ (q1v s _ _ hs) hp').mono ?_;rintro e w1 ⟨rfl,hW1⟩;have hW2:=hW.trans (hW1.mono hW.size);go_wp2_with fail;go_roundw
  case rel=>exact⟨g,k+m,by go_num,by omega,hW2,HI⟩
  case measure=>simp[intOf];omega
theorem q8s (s:ByteArray) (m le:Int) (w:World) (hs:s.size<=40) (h:Rf.most s.data.toList=some m) (hle:LeW s.data.toList le):
  Calls Tryz.prog 165 #[.string s] w fun e w'=>e=.returned (.tuple #[.int .i64 le,.int .i64 m])/\Below w.heap.size w w':=by
 obtain⟨xx,rr,hl1,hl2,hl3,hl4⟩:=hle;rcases hd:s.data.toList.drop 0 with _|⟨c,_|⟨x,_|⟨y,r⟩⟩⟩
 ·rw[List.drop_zero]at hd;rw[hd]at h;simp[Rf.most]at h
 ·rw[List.drop_zero]at hd;rw[hd]at h;simp[Rf.most]at h
 ·rw[List.drop_zero]at hd;rw[hd]at h;simp[Rf.most]at h
 obtain⟨hk,hc,hr⟩:=q0m hd;obtain⟨hk1,hc1,hr1⟩:=q0m hr;obtain⟨hk2,hc2,hr2⟩:=q0m hr1;rw[List.drop_zero]at hd;rw[hd]at h hl1;simp only[Rf.most]at h;have hk1':=hk1;have hk2':=hk2;have hc1':=hc1;have hc2':=hc2;have hxx:xx=s[1]:=by
  rw[hc1'];injection hl1 with _ e;injection e with e _;exact e.symm
 subst hxx;have i1:(1:Int)<(s.size:Int):=by omega
 have i2:(2:Int)<(s.size:Int):=by omega
 rw[<-hc1']at h;cases hdx:Rf.digit s[1].toNat
 ·rw[hdx]at h;cases h
 rw[hdx,if_pos rfl]at h;have HL:=hyd hl4;by_cases e44:y=44
 ·have hb:((s[2].toNat:Int)==44)=true:=by rw[hc2',e44];rfl
  rw[if_pos e44]at h;rcases r with _|⟨z,r'⟩
  ·cases h
  obtain⟨hk3,hc3,hr3⟩:=q0m hr2;have hk3':=hk3;have hc3':=hc3;have i3:(3:Int)<(s.size:Int):=by omega
  simp only[<-hc3']at h;cases hdz:Rf.digit s[3].toNat
  ·rw[hdz]at h;cases h
  rw[hdz,if_pos rfl]at h;have hz:48<=(s[3].toNat:Int)/\(s[3].toNat:Int)<=57:=by simpa[Rf.digit]using hdz
  obtain⟨hz0,hz1⟩:=hz;have HI:=Option.some.inj h;subst HI;clear hd hc hr hc1 hr1 hc2 hr2 hc1' hc2' h hdx e44 hc3 hr3 hc3' hdz hl1 hl4;go_enter Tryz.func165,Tryz.ntmps165;go_wp2_with fail
  go_quiet (fail)
  go_wp2_with fail;go_ret2;rw[HL.out];exact⟨rfl,q0p _ _ _⟩
 ·have hb:((s[2].toNat:Int)==44)=false:=by rw[hc2'];exact q0J e44
  rw[if_neg e44]at h;have HI:=Option.some.inj h;subst HI;clear hd hc hr hc1 hr1 hc2 hr2 hc1' hc2' h hdx e44 hl1 hl4;go_enter Tryz.func165,Tryz.ntmps165;go_wp2_with fail;go_ret2;rw[HL.out];exact⟨rfl,Below.refl _ _⟩
end Go.Proofs.YtoaaklhpmhjhkaaGreat
