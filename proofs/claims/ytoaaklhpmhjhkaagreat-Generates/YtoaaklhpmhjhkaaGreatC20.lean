import Derived.Test.YtoaaklhpmhjhkaaGreatC05
import Derived.Test.YtoaaklhpmhjhkaaGreatC16
set_option maxRecDepth 100000
set_option maxHeartbeats 4000000
set_option linter.all false
namespace Go.Proofs.YtoaaklhpmhjhkaaGreat
open Go.RowKit
def tx (ts:List Tq):List UInt8:=X8 (ts.map Tq.t)
theorem Vk (a b:List Tq):tx (a++b)=tx a++tx b:=by simp[tx,X6]
theorem SE (a:Tq) (b:List Tq):tx (a::b)=a.t.w++tx b:=by simp[tx,XX]
theorem L7:tx []=[]:=rfl
theorem Rm (L:List (List Tq × Rx)) (x:List Tq × Rx):tx (((x::L).map (·.1)).flatten)=tx x.1++tx ((L.map (·.1)).flatten):=by simp[Vk]
variable {ts:List Tq}{r:List UInt8}{e:Rx}
theorem Iv {f:Nat} (h:Pp f 0 ts e):(∀q∈ts,UQ q)/\∃F,Is F false (ts.map Tq.t) e.sz/\∃q r,ts=q::r/\(q.t.kd=1\/q.t.kd=2):=by
 obtain⟨h1,F,h0,_,_⟩:=SJ f 0 ts e h;exact⟨h1,F,h0 rfl⟩
theorem LF {f:Nat} (h:Pp f 0 ts e):∃c w,tx ts=c::w/\c≠124/\Rj c=false:=by
 obtain⟨h0,F,h1,q,r,rfl,g⟩:=Iv h;have a:=h0 q (by simp);obtain⟨c,w,d,hs,b,_⟩:=Xb a.1;refine⟨c,w++tx r,by rw[SE,d];rfl,λe=>by have:=b.1 e;omega,?_⟩;cases hsb:Rj c
 ·rfl
 have:=hs.1 hsb;unfold Yc at this;omega
theorem KG {f:Nat} (h:Pp f 0 ts e) (r:List UInt8) (y:∀c r',r=c::r'->Rj c=false):Rf.piece (tx ts++r)=some (tx ts).length:=by
 obtain⟨_,F,h1,_⟩:=Iv h;obtain⟨base,a,b,e2,j,g⟩:=VI F _ _ h1;have k:=Pr (λi d=>(e2 i d).1);unfold tx;have ha:Rf.atom (X8 (ts.map Tq.t)++r)=some base.length:=by rw[b,Zs];exact g _
 rw[Rf.piece,ha];simp only;rw[Ok a e2 _ base.length _ r (by rw[b,Zs,List.drop_left]) y (by rw[Zl,b,Zl];omega),b,Zl]
theorem Fm {f:Nat} (h:Pp f 0 ts e) {t:Tq} (y:UQ t) (hs:Yc t.t):Rf.split (tx ts++t.t.w)=some (tx ts).length:=by
 obtain⟨_,F,h1,_⟩:=Iv h;obtain⟨base,a,b,e2,k,g⟩:=VI F _ _ h1;obtain⟨c,w,i,_⟩:=Xb y.1;have l:=Pr (λj d=>(e2 j d).1);unfold tx;have ha:Rf.atom (X8 (ts.map Tq.t)++t.t.w)=some base.length:=by rw[b,Zs];exact g _
 rw[Rf.split,ha];simp only;rw[OF a e2 t.t y.1 hs _ base.length base.length _ (by rw[b,Zs,List.drop_left]) (by rw[Zl,i,b,Zl,List.length_cons];omega),b,Zl]
theorem Lu {t:Tq} (y:UQ t) (z:t.t.kd=1):Rf.split t.t.w=some t.t.w.length:=by
 have h2:=y.1;have g:QG t.t.w:=by
  rcases h2 with h|h|h|h|h|h|h|h
  all_goals first|(exact absurd h.1 (by omega))|exact h.2
 have f:Rf.atom t.t.w=some t.t.w.length:=by
  rcases g with ⟨c,d,hs⟩|⟨e,v0,d,a⟩|⟨e,d,b⟩
  ·unfold TH at hs;rw[d,Rf.atom]
   (try simp only)
   rw[if_neg (λe=>hs (by simp[e])),if_neg (λe=>hs (by simp[e])),if_neg (λe=>hs (by simp[e]))];rfl
  ·have:=a [];rw[List.append_nil]at this;rw[d,Rf.atom];simp only[if_true];rw[this];rfl
  obtain⟨fa,inn,hs⟩:=b [] 0;rw[List.append_nil]at hs;rw[d,Rf.atom];simp only;rw[if_neg (by decide),if_pos trivial,hs];simp
 rw[Rf.split,f];simp only;rw[Rf.splitFrom,List.drop_length]
theorem CT {a:Tq} (h:UQ a) (y:a.t.kd=2):a.t.w=[40]:=by
 rcases h.1 with h|h|h|h|h|h|h|h
 all_goals first|(exact absurd h.1 (by omega))|exact h.2
theorem C3 {a:Tq} (h:UQ a) (y:a.t.kd=3):a.t.w=[41]:=by
 rcases h.1 with h|h|h|h|h|h|h|h
 all_goals first|(exact absurd h.1 (by omega))|exact h.2
theorem Ch {a:Tq} (h:UQ a) (y:a.t.kd=4):a.t.w=[124]:=by
 rcases h.1 with h|h|h|h|h|h|h|h
 all_goals first|(exact absurd h.1 (by omega))|exact h.2
theorem J6 {f:Nat}{inn:List Tq} (h:Pp f 2 inn e):Rf.split (40::(tx inn++[41]))=some (40::(tx inn++[41])).length:=by
 obtain⟨_,F,_,_,h2⟩:=SJ f 2 inn e h;have g:=h2 (Zg _);obtain⟨C,c1,c2⟩:=BL F true _ _ g;have b:Rf.atom (40::(X8 (inn.map Tq.t)++[41]))=some (40::(X8 (inn.map Tq.t)++[41])).length:=by
  rw[Rf.atom];simp only;rw[if_neg (by decide),if_neg (by decide),if_pos trivial,Rf.groupFrom,Zw];simp only;rw[if_neg (by decide),if_neg (by decide),if_pos trivial];have d:(X8 (inn.map Tq.t)++[41]).length=(X8 (inn.map Tq.t)).length+1:=by simp
  obtain⟨v,i⟩:∃v,(X8 (inn.map Tq.t)++[41]).length+1=(v+1)+C:=⟨(X8 (inn.map Tq.t)).length+1-C,by omega⟩;have a:(40::(X8 (inn.map Tq.t)++[41])).drop (0+1)=X8 (inn.map Tq.t)++[41]:=by simp
  have c:(40::(X8 (inn.map Tq.t)++[41])).drop (0+1+(X8 (inn.map Tq.t)).length)=[41]:=by rw[<-YV,a,List.drop_left]
  rw[i,c2 _ _ (v+1) (0+1) [41] (by omega) a,Rf.groupFrom,c];simp only;rw[if_neg (by decide),if_neg (by decide),if_neg (by decide),if_pos trivial,if_pos (by decide)];simp;omega
 unfold tx;rw[Rf.split,b];simp only;rw[Rf.splitFrom,List.drop_length]
theorem LH {f:Nat} (h:Pp f 0 ts e):∃G,Rf.cnt G false (tx ts)=some (e.sz:Int):=by
 obtain⟨_,F,h1,_⟩:=Iv h;obtain⟨G,a⟩:=Ez F false _ _ h1;exact⟨0+G,a 0⟩
def Rf.rowFrom (p:List UInt8):Nat->Nat->Option Nat
 |0,_=>none
 |f+1,n=>
  match p.drop n with
  |[]=>some n
  |c::r=>
   if c=124 then some n
   else match Rf.piece (c::r)with
    |none=>none
    |some k=>Rf.rowFrom p f (n+k)
def Id (r:List UInt8):Prop:=∀c r',r=c::r'->Rj c=false
theorem NL {f:Nat}{L:List (List Tq × Rx)} (h:∀x∈L,Pp f 0 x.1 x.2) {r:List UInt8} (y:Id r):Id (tx ((L.map (·.1)).flatten)++r):=by
 rcases L with _|⟨x,L⟩
 ·simpa[tx,X8]using y
 obtain⟨c,w,a,_,hs⟩:=LF (h x (by simp));rw[Rm,a];intro b d e;simp only[Zt]at e;injection e with e1 e2;rw[<-e1];exact hs
theorem F0 (h:∀c r',r=c::r'->c=124):Id r:=λc r' e=>by rw[h c r' e];decide
theorem C1 {f:Nat}:∀(L:List (List Tq × Rx)),(∀x∈L,Pp f 0 x.1 x.2)->∀(p:List UInt8) (i g:Nat) (r:List UInt8),p.drop i=tx ((L.map (·.1)).flatten)++r->(∀c r',r=c::r'->c=124)->L.length<g->Rf.rowFrom p g i=some (i+(tx ((L.map (·.1)).flatten)).length):=by
 intro L
 induction L with
 |nil=>
  intro _ p i g r a d k;obtain⟨g,rfl⟩:∃q,g=q+1:=⟨g-1,by omega⟩;simp only[List.map_nil,List.flatten_nil,L7,List.nil_append,List.length_nil,Nat.add_zero]at a ⊢;rw[Rf.rowFrom,a];rcases r with _|⟨c,r'⟩
  ·rfl
  simp only[d c r' rfl,if_true]
 |cons x L ih=>
  intro h p i g r a d k;obtain⟨g,rfl⟩:∃q,g=q+1:=⟨g-1,by omega⟩;have n:=h x (by simp);obtain⟨c,w,m,o,_⟩:=LF n;rw[Rm,Zs]at a;have l:=KG n _ (NL (L:=L) (λy j=>h y (by simp[j])) (F0 d));have e:p.drop (i+(tx x.1).length)=tx ((L.map (·.1)).flatten)++r:=by rw[<-YV,a,List.drop_left]
  have b:=a;rw[m,Zt]at b l;rw[Rf.rowFrom,b];simp only[if_neg o,l];rw[show(c::w).length=(tx x.1).length by rw[m],ih (λy j=>h y (by simp[j])) p _ g r e d (by simp at k;omega),Rm,Zl,ZN]
theorem LG {f:Nat} (h:Pp f 0 ts e):1<=(tx ts).length:=by
 obtain⟨c,w,a,_⟩:=LF h;rw[a];simp
theorem Qj {f:Nat}:∀ {L:List (List Tq × Rx)},(∀x∈L,Pp f 0 x.1 x.2)->L.length<=(tx ((L.map (·.1)).flatten)).length
 |[],_=>by simp
 |x::L,h=>by
  have:=Qj (L:=L) (λy a=>h y (by simp[a]));have:=LG (h x (by simp));rw[Rm,Zl,List.length_cons];omega
theorem DZ (s:ByteArray) (n g:Nat) (w:World) (hs:s.size<=40) (h:Rf.rowFrom s.data.toList g 0=some n):
  Cp 146 #[.string s] w λe w'=>e=.returned (I6 n)/\Bl w w':=by
 go_enter Tryz.func146,Tryz.ntmps146;go_wp2
 go_loopw [3] (λi w'=>∃(g k:Nat),i=I6 k/\k<=s.size/\Bl w w'/\Hid (Rf.rowFrom s.data.toList g k=some n)) (λi _=>s.size-(intOf i).toNat)
 ·exact⟨g,0,rfl,by omega,Zk _ _,h⟩
 clear h;obtain⟨g,k,rfl,z,o,HS⟩:=hrel;rcases g with _|g
 ·exact absurd HS.out (by simp[Rf.rowFrom])
 have b:=HS.out;clear HS;rcases hd:s.data.toList.drop k with _|⟨c,r⟩
 ·simp only[Rf.rowFrom,hd,Zp]at b;have x:s.size<=k:=by simpa using hd
  have j:Hid ((k:Int)=(n:Int)):=by show _=_;omega
  clear hd b;go_wp2;go_ret;exact⟨YY j.out,o⟩
 obtain⟨x,l,v⟩:=YT hd;simp only[Rf.rowFrom,hd]at b;by_cases a:c=124
 ·have d:((s[k].toNat:Int)==124)=true:=by rw[l,a];rfl
  have f:((s[k].toNat:Int) != 124)=false:=by rw[l,a];rfl
  rw[if_pos a,Zp]at b;have j:Hid ((k:Int)=(n:Int)):=by show _=_;omega
  clear b hd l v a;go_wp2;go_ret;exact⟨YY j.out,o⟩
 have d:((s[k].toNat:Int)==124)=false:=by rw[l];exact Yn a
 have f:((s[k].toNat:Int) != 124)=true:=by simp only[bne,d];rfl
 rw[if_neg a]at b;rcases hp:Rf.piece (c::r)with _|m
 ·rw[hp]at b;cases b
 obtain⟨A,B⟩:=Rf.piece_le hp;rw[hp]at b;simp only at b;have u:(c::r).length=s.size-k:=by rw[<-hd];simp
 have t:Rf.piece (s.extract k s.size).data.toList=some m:=by rw[SU,hd];exact hp
 have j:=hyd b;have y:k+m<=s.size:=by omega
 clear b hd l v a hp;go_wp2_with fail;refine(Qu _ m _ (WM s _ _ hs) t).mono ?_;rintro e w1 ⟨rfl,p⟩;have q:=o.trans (p.mono o.size);go_wp2;go_roundw
 ·exact⟨g,k+m,by go_num,by omega,q,j⟩
 simp[intOf];omega
theorem JQ (s:ByteArray) (m le:Int) (w:World) (hs:s.size<=40) (h:Rf.most s.data.toList=some m) (Y:Cb s.data.toList le):
  Cp 165 #[.string s] w λe w'=>e=.returned (.tuple #[I6 le,I6 m])/\Bl w w':=by
 obtain⟨M,S,f,I,J,k⟩:=Y;rcases hd:s.data.toList.drop 0 with _|⟨c,_|⟨x,_|⟨y,r⟩⟩⟩
 ·rw[Zw]at hd;rw[hd]at h;simp[Rf.most]at h
 ·rw[Zw]at hd;rw[hd]at h;simp[Rf.most]at h
 ·rw[Zw]at hd;rw[hd]at h;simp[Rf.most]at h
 obtain⟨N,D,v⟩:=YT hd;obtain⟨q,i,l⟩:=YT v;obtain⟨t,j,n⟩:=YT l;rw[Zw]at hd;rw[hd]at h f;simp only[Rf.most]at h;have E:=q;have F:=t;have a:=i;have b:=j;have B:M=s[1]:=by
  rw[a];injection f with _ e;injection e with e _;exact e.symm
 subst B;have O:(1:Int)<(s.size:Int):=by omega
 have P:(2:Int)<(s.size:Int):=by omega
 rw[<-a]at h;cases hdx:Rf.digit s[1].toNat
 ·rw[hdx]at h;cases h
 rw[hdx,if_pos rfl]at h;have C:=hyd k;by_cases d:y=44
 ·have H:((s[2].toNat:Int)==44)=true:=by rw[b,d];rfl
  rw[if_pos d]at h;rcases r with _|⟨z,R⟩
  ·cases h
  obtain⟨u,o,A⟩:=YT n;have G:=u;have g:=o;have Q:(3:Int)<(s.size:Int):=by omega
  simp only[<-g]at h;cases hdz:Rf.digit s[3].toNat
  ·rw[hdz]at h;cases h
  rw[hdz,if_pos rfl]at h;have hz:48<=(s[3].toNat:Int)/\(s[3].toNat:Int)<=57:=by simpa[Rf.digit]using hdz
  obtain⟨K,L⟩:=hz;have p:=Zh h;subst p;clear hd D v i l j n a b h hdx d o A g hdz f k;go_enter Tryz.func165,Tryz.ntmps165;go_wp2
  go_quiet (fail)
  go_wp2;go_ret2;rw[C.out];exact⟨rfl,YR _ _ _⟩
 have H:((s[2].toNat:Int)==44)=false:=by rw[b];exact Yn d
 rw[if_neg d]at h;have p:=Zh h;subst p;clear hd D v i l j n a b h hdx d f k;go_enter Tryz.func165,Tryz.ntmps165;go_wp2;go_ret2;rw[C.out];exact⟨rfl,Zk _ _⟩
end Go.Proofs.YtoaaklhpmhjhkaaGreat
