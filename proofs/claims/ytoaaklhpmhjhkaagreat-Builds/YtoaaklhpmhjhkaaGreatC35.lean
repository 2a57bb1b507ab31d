import Derived.Test.YtoaaklhpmhjhkaaGreatC07
import Derived.Test.YtoaaklhpmhjhkaaGreatC24
set_option maxRecDepth 100000
set_option maxHeartbeats 4000000
set_option linter.all false
namespace Go.Proofs.YtoaaklhpmhjhkaaGreat
open Go.RowKit
def tx (ts:List Tq):List UInt8:=txt (ts.map Tq.t)
theorem q2a (a b:List Tq):tx (a++b)=tx a++tx b:=by simp[tx,q0K]
theorem q3H (a:Tq) (b:List Tq):tx (a::b)=a.t.w++tx b:=by simp[tx,q0P]
theorem q8z:tx []=[]:=rfl
theorem q4r (L:List (List Tq × Rx)) (x:List Tq × Rx):tx (((x::L).map (·.1)).flatten)=tx x.1++tx ((L.map (·.1)).flatten):=by simp[q2a]
variable {ts : List Tq}{r : List UInt8}{f : Nat}{e : Rx}
theorem y1q (h:Pp f 0 ts e):(∀q∈ts,TqOK q)/\∃F,Is F false (ts.map Tq.t) e.sz/\∃q r,ts=q::r/\(q.t.kd=1\/q.t.kd=2):=by
 obtain⟨b,F,a,_,_⟩:=q3E f 0 ts e h;exact⟨b,F,a rfl⟩
theorem q7T (h:Pp f 0 ts e):∃c w,tx ts=c::w/\c≠124/\sufB c=false:=by
 obtain⟨b,F,i,q,r,rfl,j⟩:=y1q h;have a:=b q (by simp);obtain⟨c,w,g,hs,d,_⟩:=q1k a.1;refine⟨c,w++tx r,by rw[q3H,g];rfl,λe=>by have:=d.1 e;omega,?_⟩;cases hsb:sufB c
 ·rfl
 have:=hs.1 hsb;unfold isSuf at this;omega
theorem q8E (h:Pp f 0 ts e) (r:List UInt8) (hr:∀c r',r=c::r'->sufB c=false):Rf.piece (tx ts++r)=some (tx ts).length:=by
 obtain⟨_,F,i,_⟩:=y1q h;obtain⟨base,a,b,e2,k,g⟩:=q1N F _ _ i;have l:=q5L (λj d=>(e2 j d).1);unfold tx;have ha:Rf.atom (txt (ts.map Tq.t)++r)=some base.length:=by rw[b,List.append_assoc];exact g _
 rw[Rf.piece,ha];simp only;rw[q5m a e2 _ base.length _ r (by rw[b,List.append_assoc,List.drop_left]) hr (by rw[List.length_append,b,List.length_append];omega),b,List.length_append]
theorem y1p (h:Pp f 0 ts e) {t:Tq} (ht:TqOK t) (hs:isSuf t.t):Rf.split (tx ts++t.t.w)=some (tx ts).length:=by
 obtain⟨_,F,i,_⟩:=y1q h;obtain⟨base,a,b,e2,l,g⟩:=q1N F _ _ i;obtain⟨c,w,j,_⟩:=q1k ht.1;have m:=q5L (λk d=>(e2 k d).1);unfold tx;have ha:Rf.atom (txt (ts.map Tq.t)++t.t.w)=some base.length:=by rw[b,List.append_assoc];exact g _
 rw[Rf.split,ha];simp only;rw[q5g a e2 t.t ht.1 hs _ base.length base.length _ (by rw[b,List.append_assoc,List.drop_left]) (by rw[List.length_append,j,b,List.length_append,List.length_cons];omega),b,List.length_append]
theorem q7n {t:Tq} (ht:TqOK t) (hk:t.t.kd=1):Rf.split t.t.w=some t.t.w.length:=by
 have g:=ht.1;have i:IsPlaceW t.t.w:=by
  rcases g with h|h|h|h|h|h|h|h
  all_goals first|(exact absurd h.1 (by omega))|exact h.2
 have f:Rf.atom t.t.w=some t.t.w.length:=by
  rcases i with ⟨c,d,hs⟩|⟨e,v0,d,a⟩|⟨e,d,b⟩
  ·unfold Special at hs;rw[d,Rf.atom]
   (try simp only)
   rw[if_neg (λe=>hs (by simp[e])),if_neg (λe=>hs (by simp[e])),if_neg (λe=>hs (by simp[e]))];rfl
  ·have:=a [];rw[List.append_nil]at this;rw[d,Rf.atom];simp only[if_true];rw[this];rfl
  obtain⟨fa,inn,hs⟩:=b [] 0;rw[List.append_nil]at hs;rw[d,Rf.atom];simp only;rw[if_neg (by decide),if_pos trivial,hs];simp
 rw[Rf.split,f];simp only;rw[Rf.splitFrom,List.drop_length]
theorem y3u {a:Tq} (h:TqOK a) (hk:a.t.kd=2):a.t.w=[40]:=by
 rcases h.1 with h|h|h|h|h|h|h|h
 all_goals first|(exact absurd h.1 (by omega))|exact h.2
theorem y3n {a:Tq} (h:TqOK a) (hk:a.t.kd=3):a.t.w=[41]:=by
 rcases h.1 with h|h|h|h|h|h|h|h
 all_goals first|(exact absurd h.1 (by omega))|exact h.2
theorem y3N {a:Tq} (h:TqOK a) (hk:a.t.kd=4):a.t.w=[124]:=by
 rcases h.1 with h|h|h|h|h|h|h|h
 all_goals first|(exact absurd h.1 (by omega))|exact h.2
theorem q8l {inn:List Tq} (h:Pp f 2 inn e):Rf.split (40::(tx inn++[41]))=some (40::(tx inn++[41])).length:=by
 obtain⟨_,F,_,_,g⟩:=q3E f 2 inn e h;have i:=g (Nat.le_refl _);obtain⟨C,c1,c2⟩:=grp F true _ _ i;have b:Rf.atom (40::(txt (inn.map Tq.t)++[41]))=some (40::(txt (inn.map Tq.t)++[41])).length:=by
  rw[Rf.atom];simp only;rw[if_neg (by decide),if_neg (by decide),if_pos trivial,Rf.groupFrom,List.drop_zero];simp only;rw[if_neg (by decide),if_neg (by decide),if_pos trivial];have d:(txt (inn.map Tq.t)++[41]).length=(txt (inn.map Tq.t)).length+1:=by simp
  obtain⟨v,j⟩:∃v,(txt (inn.map Tq.t)++[41]).length+1=(v+1)+C:=⟨(txt (inn.map Tq.t)).length+1-C,by omega⟩;have a:(40::(txt (inn.map Tq.t)++[41])).drop (0+1)=txt (inn.map Tq.t)++[41]:=by simp
  have c:(40::(txt (inn.map Tq.t)++[41])).drop (0+1+(txt (inn.map Tq.t)).length)=[41]:=by rw[<-q0n,a,List.drop_left]
  rw[j,c2 _ _ (v+1) (0+1) [41] (by omega) a,Rf.groupFrom,c];simp only;rw[if_neg (by decide),if_neg (by decide),if_neg (by decide),if_pos trivial,if_pos (by decide)];simp;omega
 unfold tx;rw[Rf.split,b];simp only;rw[Rf.splitFrom,List.drop_length]
theorem q7S (h:Pp f 0 ts e):∃G,Rf.cnt G false (tx ts)=some (e.sz:Int):=by
 obtain⟨_,F,a,_⟩:=y1q h;obtain⟨G,b⟩:=counts F false _ _ a;exact⟨0+G,b 0⟩
def Rf.rowFrom (p:List UInt8):Nat->Nat->Option Nat
 |0,_=>none
 |f+1,n=>
  match p.drop n with
  |[]=>some n
  |c::r=>
   if c=124 then some n
   else match Rf.piece (c::r)with
    |none=>none
    |some k=>Rf.rowFrom p f (n+k)
def NoSuf (r:List UInt8):Prop:=∀c r',r=c::r'->sufB c=false
theorem q5w {L:List (List Tq × Rx)} (h:∀x∈L,Pp f 0 x.1 x.2) {r:List UInt8} (hr:NoSuf r):NoSuf (tx ((L.map (·.1)).flatten)++r):=by
 rcases L with _|⟨x,L⟩
 ·simpa[tx,txt]using hr
 obtain⟨c,w,a,_,hs⟩:=q7T (h x (by simp));rw[q4r,a];intro b d e;simp only[List.cons_append]at e;injection e with e1 e2;rw[<-e1];exact hs
theorem y0Y (h:∀c r',r=c::r'->c=124):NoSuf r:=λc r' e=>by rw[h c r' e];decide
theorem y3o:∀(L:List (List Tq × Rx)),(∀x∈L,Pp f 0 x.1 x.2)->∀(p:List UInt8) (i g:Nat) (r:List UInt8),p.drop i=tx ((L.map (·.1)).flatten)++r->(∀c r',r=c::r'->c=124)->L.length<g->Rf.rowFrom p g i=some (i+(tx ((L.map (·.1)).flatten)).length):=by
 intro L
 induction L with
 |nil=>
  intro _ p i g r a d k;obtain⟨g,rfl⟩:∃q,g=q+1:=⟨g-1,by omega⟩;simp only[List.map_nil,List.flatten_nil,q8z,List.nil_append,List.length_nil,Nat.add_zero]at a ⊢;rw[Rf.rowFrom,a];rcases r with _|⟨c,r'⟩
  ·rfl
  simp only[d c r' rfl,if_true]
 |cons x L ih=>
  intro h p i g r a d k;obtain⟨g,rfl⟩:∃q,g=q+1:=⟨g-1,by omega⟩;have n:=h x (by simp);obtain⟨c,w,m,o,_⟩:=q7T n;rw[q4r,List.append_assoc]at a;have l:=q8E n _ (q5w (L:=L) (λy j=>h y (by simp[j])) (y0Y d));have e:p.drop (i+(tx x.1).length)=tx ((L.map (·.1)).flatten)++r:=by rw[<-q0n,a,List.drop_left]
  have b:=a;rw[m,List.cons_append]at b l;rw[Rf.rowFrom,b];simp only[if_neg o,l];rw[show(c::w).length=(tx x.1).length by rw[m],ih (λy j=>h y (by simp[j])) p _ g r e d (by simp at k;omega),q4r,List.length_append,Nat.add_assoc]
theorem q8F (h:Pp f 0 ts e):1<=(tx ts).length:=by
 obtain⟨c,w,a,_⟩:=q7T h;rw[a];simp
theorem q4O:∀ {L:List (List Tq × Rx)},(∀x∈L,Pp f 0 x.1 x.2)->L.length<=(tx ((L.map (·.1)).flatten)).length
 |[],_=>by simp
 |x::L,h=>by
  have:=q4O (L:=L) (λy a=>h y (by simp[a]));have:=q8F (h x (by simp));rw[q4r,List.length_append,List.length_cons];omega
theorem y2z (s:ByteArray) (n g:Nat) (w:World) (hs:s.size<=40) (h:Rf.rowFrom s.data.toList g 0=some n):
  Calls Tryz.prog 146 #[.string s] w λe w'=>e=.returned (.int .i64 n)/\Below w.heap.size w w':=by
 go_enter Tryz.func146,Tryz.ntmps146;go_wp2_with fail
 go_loopw [3] (λi w'=>∃(g k:Nat),i=.int .i64 k/\k<=s.size/\Below w.heap.size w w'/\Hid (Rf.rowFrom s.data.toList g k=some n)) (λi _=>s.size-(intOf i).toNat)
 ·exact⟨g,0,rfl,by omega,Below.refl _ _,h⟩
 clear h;obtain⟨g,k,rfl,z,o,HS⟩:=hrel;rcases g with _|g
 ·exact absurd HS.out (by simp[Rf.rowFrom])
 have b:=HS.out;clear HS;rcases hd:s.data.toList.drop k with _|⟨c,r⟩
 ·simp only[Rf.rowFrom,hd,Option.some.injEq]at b;have x:s.size<=k:=by simpa using hd
  have j:Hid ((k:Int)=(n:Int)):=by show _=_;omega
  clear hd b;go_wp2_with fail;go_ret;exact⟨q0l j.out,o⟩
 obtain⟨x,l,v⟩:=q0m hd;simp only[Rf.rowFrom,hd]at b;by_cases a:c=124
 ·have d:((s[k].toNat:Int)==124)=true:=by rw[l,a];rfl
  have f:((s[k].toNat:Int) != 124)=false:=by rw[l,a];rfl
  rw[if_pos a,Option.some.injEq]at b;have j:Hid ((k:Int)=(n:Int)):=by show _=_;omega
  clear b hd l v a;go_wp2_with fail;go_ret;exact⟨q0l j.out,o⟩
 have d:((s[k].toNat:Int)==124)=false:=by rw[l];exact q0J a
 have f:((s[k].toNat:Int) != 124)=true:=by simp only[bne,d];rfl
 rw[if_neg a]at b;rcases hp:Rf.piece (c::r)with _|m
 ·rw[hp]at b;cases b
 obtain⟨A,B⟩:=Rf.piece_le hp;rw[hp]at b;simp only at b;have u:(c::r).length=s.size-k:=by rw[<-hd];simp
 have t:Rf.piece (s.extract k s.size).data.toList=some m:=by rw[q3u,hd];exact hp
 have j:=hyd b;have y:k+m<=s.size:=by omega
 clear b hd l v a hp;go_wp2_with fail;refine(q4y _ m _ (q1v s _ _ hs) t).mono ?_;rintro e w1 ⟨rfl,p⟩;have q:=o.trans (p.mono o.size);go_wp2_with fail;go_roundw
 ·exact⟨g,k+m,by go_num,by omega,q,j⟩
 simp[intOf];omega
theorem q8s (s:ByteArray) (m le:Int) (w:World) (hs:s.size<=40) (h:Rf.most s.data.toList=some m) (hle:LeW s.data.toList le):
  Calls Tryz.prog 165 #[.string s] w λe w'=>e=.returned (.tuple #[.int .i64 le,.int .i64 m])/\Below w.heap.size w w':=by
 obtain⟨N,T,f,I,J,k⟩:=hle;rcases hd:s.data.toList.drop 0 with _|⟨c,_|⟨x,_|⟨y,r⟩⟩⟩
 ·rw[List.drop_zero]at hd;rw[hd]at h;simp[Rf.most]at h
 ·rw[List.drop_zero]at hd;rw[hd]at h;simp[Rf.most]at h
 ·rw[List.drop_zero]at hd;rw[hd]at h;simp[Rf.most]at h
 obtain⟨O,D,v⟩:=q0m hd;obtain⟨q,i,l⟩:=q0m v;obtain⟨t,j,n⟩:=q0m l;rw[List.drop_zero]at hd;rw[hd]at h f;simp only[Rf.most]at h;have E:=q;have F:=t;have a:=i;have b:=j;have B:N=s[1]:=by
  rw[a];injection f with _ e;injection e with e _;exact e.symm
 subst B;have P:(1:Int)<(s.size:Int):=by omega
 have Q:(2:Int)<(s.size:Int):=by omega
 rw[<-a]at h;cases hdx:Rf.digit s[1].toNat
 ·rw[hdx]at h;cases h
 rw[hdx,if_pos rfl]at h;have C:=hyd k;by_cases d:y=44
 ·have H:((s[2].toNat:Int)==44)=true:=by rw[b,d];rfl
  rw[if_pos d]at h;rcases r with _|⟨z,S⟩
  ·cases h
  obtain⟨u,o,A⟩:=q0m n;have G:=u;have g:=o;have R:(3:Int)<(s.size:Int):=by omega
  simp only[<-g]at h;cases hdz:Rf.digit s[3].toNat
  ·rw[hdz]at h;cases h
  rw[hdz,if_pos rfl]at h;have K:48<=(s[3].toNat:Int)/\(s[3].toNat:Int)<=57:=by simpa[Rf.digit]using hdz
  obtain⟨L,M⟩:=K;have p:=Option.some.inj h;subst p;clear hd D v i l j n a b h hdx d o A g hdz f k;go_enter Tryz.func165,Tryz.ntmps165;go_wp2_with fail
  go_quiet (fail)
  go_wp2_with fail;go_ret2;rw[C.out];exact⟨rfl,q0p _ _ _⟩
 have H:((s[2].toNat:Int)==44)=false:=by rw[b];exact q0J d
 rw[if_neg d]at h;have p:=Option.some.inj h;subst p;clear hd D v i l j n a b h hdx d f k;go_enter Tryz.func165,Tryz.ntmps165;go_wp2_with fail;go_ret2;rw[C.out];exact⟨rfl,Below.refl _ _⟩
end Go.Proofs.YtoaaklhpmhjhkaaGreat
