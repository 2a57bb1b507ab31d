import Derived.WalkSpells
import Derived.WalkLawsBesides
import Derived.Deep.QuietTactic
import Derived.BigQuiet
import Derived.Deep.RegionHeld3
import Derived.Test.YtoaaklhpmhjhkaaGreatSp
import Derived.Test.YtoaaklhpmhjhkaaGreatC03
set_option maxRecDepth 100000
set_option maxHeartbeats 4000000
set_option linter.all false
namespace Go.Proofs.YtoaaklhpmhjhkaaGreat
open Go.Proofs.Tryz
open Go.RowKit
def TG(c : Int)(w : World) :
  Cp 188 #[.int .u8 c] w λe w' => e = .returned (.bool (Rf.iT c)) /\ w' = w := by
 go_enter func188, ntmps188
 go_wp2
 all_goals
  go_ret;refine ⟨YM ?_, rfl⟩
  first|(simp [Rf.iT, *]; done)|(simp [Rf.iT, *]; omega)
def Fb(c : Int)(w : World) :
  Cp 187 #[.int .u8 c] w λe w' => e = .returned (.bool (Rf.hex c)) /\ w' = w := by
 go_enter func187, ntmps187;go_wp2_with fail;apply (TG c _).mono;rintro e w' ⟨rfl, rfl⟩;go_wp2
 all_goals
  go_ret;refine ⟨YM ?_, rfl⟩
  first|(simp [Rf.hex, *]; done)|(simp [Rf.hex, *]; omega)
def Oe(s:ByteArray)(c:Int)(w:World)(hs:s.size<=1000):
  Cp 162 #[.string s,.int .u8 c] w λe w'=>e=.returned (.bool (Rf.has s.data.toList c))/\w'=w:=by
 go_enter func162,ntmps162
 go_wp2
 go_loop [5] (λi=>∃k:Nat,k<=s.size/\i=I6 k/\Hid (Rf.has s.data.toList c=Rf.has (s.data.toList.drop k) c)) (λi=>s.size-(intOf i).toNat)
 .exact⟨0,dM _,rfl,rfl⟩
 obtain⟨k,h,rfl,HS⟩:=hrel;by_cases b:k<s.size
 .have g:=RX s k b;have d:=hyd g;by_cases f:((s[k].toNat:Int)==c)=true
  .go_wp2
   go_ret;refine⟨YM ?_,rfl⟩;rw[HS.o,d.o];simp[Rf.has,f]
  have a:((s[k].toNat:Int)==c)=false:=by simpa using f
  go_wp2
  go_round
  .exact⟨k+1,Qo,Qg,by show _=_;rw[HS.o,d.o];simp[Rf.has,a]⟩
  simp[intOf];omega
 go_wp2
 go_ret;refine⟨YM ?_,rfl⟩;rw[HS.o,dT Qp];rfl
def Gk(c:Int)(w:World)(h0:0<=c)(h1:c<256)(z:Rf.hex c=true):
  Cp 190 #[.int .u8 c] w λe w'=>e=.returned (I6 (Rf.iX c))/\w'=w:=by
 cases hd:Rf.iT c
 .have a:97<=c/\c<=102:=by simp[Rf.hex,hd]at z;exact z
  go_enter func190,ntmps190;go_wp2_with fail;apply(TG c _).mono;rintro e w' ⟨rfl,rfl⟩;go_wp2;go_ret;refine⟨Y2 ?_,rfl⟩;simp[Rf.iX,hd]
 have a:48<=c/\c<=57:=by simp[Rf.iT]at hd;exact hd
 go_enter func190,ntmps190;go_wp2_with fail;apply(TG c _).mono;rintro e w' ⟨rfl,rfl⟩;go_wp2;go_ret;refine⟨Y2 ?_,rfl⟩;simp[Rf.iX,hd]
structure Rd (b:Nat) (m bk o:Int) (w:World):Prop where
 c0:w.cell? ⟨b,0,none⟩=some (.int .i64 m)
 c1:w.cell? ⟨b,1,none⟩=some (.int .i64 bk)
 c2:w.cell? ⟨b,2,none⟩=some (.int .i64 o)
 f0:w.frozen? ⟨b,0,none⟩=false
 f1:w.frozen? ⟨b,1,none⟩=false
 f2:w.frozen? ⟨b,2,none⟩=false
variable {a' b' bk:Int}{B b g n:Nat}{f':N_}{w w':World}
def Rd.set0{m o:Int}(h:Rd b m bk o w)(x:Int):Rd b x bk o (w.setCell (a_ b 0) (I6 x)):=by
 let⟨c0,c1,c2,a,c,d⟩:=h;refine⟨?_,?_,?_,?_,?_,?_⟩<;>go_simp
def Rd.set1{m o:Int}(h:Rd b m bk o w)(x:Int):Rd b m x o (w.setCell (a_ b 1) (I6 x)):=by
 let⟨c0,c1,c2,a,c,d⟩:=h;refine⟨?_,?_,?_,?_,?_,?_⟩<;>go_simp
def Rd.set2{m o:Int}(h:Rd b m bk o w)(x:Int):Rd b m bk x (w.setCell (a_ b 2) (I6 x)):=by
 let⟨c0,c1,c2,a,c,d⟩:=h;refine⟨?_,?_,?_,?_,?_,?_⟩<;>go_simp
def Rd.drew{m o:Int}(h:Rd b m bk o w):Rd b m bk o w.drew:=⟨h.c0,h.c1,h.c2,h.f0,h.f1,h.f2⟩
def Yf(w:World)(b k:Nat)(v:Value):Below b w (w.setCell (a_ b k) v):=
 (Zk b w).setCell (p:=(a_ b k)) (Zg b) v
def Su(b:Nat)(w:World)(x:Rf.RS)(e:Ending)(w':World):Prop:=e=.returned (.bool x.ok)/\Rd b x.m x.bk x.o w'/\Below b w w'
def XE(b:Nat)(m bk o:Int)(ok:Bool)(z:Int)(w:World)(h:Rd b m bk o w):
  Cp 186 #[pT b,.bool ok,I6 z] w (Su b w (Rf.to m bk o ok z)):=by
 cases ok
 .go_enter func186,ntmps186
  go_wp2
  go_ret;exact⟨rfl,h,Zk _ _⟩
 have a:=h.set0 z;let⟨c0,c1,c2,c,d,e⟩:=h;go_enter func186,ntmps186
 go_wp2
 go_ret;exact⟨rfl,a,Yf _ _ _ _⟩
def TL(b:Nat)(m bk o:Int)(c z:Int)(w:World)(h:Rd b m bk o w):
  Cp 202 #[pT b,.int .u8 c,I6 z] w (Su b w (Rf.jx m bk o c z)):=by
 by_cases a:c=92
 .subst a;have d:=(h.set1 z).set0 2;let⟨c0,c1,c2,g,i,j⟩:=h;go_enter func202,ntmps202
  go_wp2
  go_ret;exact⟨rfl,d,(Yf _ _ _ _).trans (Yf _ _ _ _)⟩
 have k:(c==92)=false:=by simpa using a
 have f:Rf.jx m bk o c z=Rf.to m bk o (!Rf.has Rf.notInner c) z:=by unfold Rf.jx;rw[dG a]
 rw[f];go_enter func202,ntmps202;go_wp2_with fail;apply(Oe _ c _ Qd).mono;rintro e w' ⟨rfl,rfl⟩;go_wp2_with fail;apply(XE b m bk o _ z _ h).mono;rintro e w1 ⟨rfl,h1,h2⟩;go_wp2;go_ret;exact⟨rfl,h1,h2⟩
def I1(b : Nat)(m bk o : Int)(c : Int)(w : World)(h : Rd b m bk o w)(z : -1000 <= o)(H : o <= 1000) :
  Cp 203 #[.pointer (some ⟨b, 0, none⟩), .int .u8 c] w (Su b w (Rf.jo m bk o c)) := by
 have h1 := h.set1 1;have h2 := h.set2 (o + 1);have h3 := h.set2 (o-1);obtain ⟨c0, c1, c2, u, v, x⟩ := id h;by_cases e : c = 92
 .subst e;go_enter func203, ntmps203;go_wp2_with fail;apply (XE b m 1 o true 2 _ h1).mono;rintro e w1 ⟨rfl, d, a⟩;go_wp2;go_ret;exact ⟨rfl, d, (Yf _ _ _ _).trans a⟩
 by_cases e : c = 91
 .subst e;go_enter func203, ntmps203;go_wp2_with fail;apply (XE b m bk o true 9 _ h).mono;rintro e w1 ⟨rfl, d, a⟩;go_wp2;go_ret;exact ⟨rfl, d, a⟩
 by_cases e : c = 40
 .subst e;go_enter func203, ntmps203;go_wp2_with fail;apply (XE b m bk (o + 1) true 0 _ h2).mono;rintro e w1 ⟨rfl, d, a⟩;go_wp2;go_ret;exact ⟨rfl, d, (Yf _ _ _ _).trans a⟩
 by_cases e : c = 41
 .subst e;go_enter func203, ntmps203;go_wp2_with fail;apply (XE b m bk (o-1) _ 1 _ h3).mono;rintro e w1 ⟨rfl, d, a⟩;go_wp2;go_ret;exact ⟨rfl, d, (Yf _ _ _ _).trans a⟩
 by_cases e : c = 124
 .subst e;go_enter func203, ntmps203;go_wp2_with fail;apply (XE b m bk o true 0 _ h).mono;rintro e w1 ⟨rfl, d, a⟩;go_wp2;go_ret;exact ⟨rfl, d, a⟩
 by_cases e : c = 42 \/ c = 43 \/ c = 63
 .have f : Rf.jo m bk o c = ⟨m == 1, m, bk, o⟩ := by simp [Rf.jo, *]
  rw [f]; clear f;rcases e with e|e|e <;>
  .subst e;go_enter func203, ntmps203;go_wp2;go_ret;exact ⟨rfl, h, Zk _ _⟩
 have n : (c == 42) = false := by simp; omega
 have p : (c == 43) = false := by simp; omega
 have q : (c == 63) = false := by simp; omega
 by_cases e : c = 123
 .subst e;go_enter func203, ntmps203;go_wp2_with fail;apply (XE b m bk o _ 5 _ h).mono;rintro e w1 ⟨rfl, d, a⟩;go_wp2;go_ret;exact ⟨rfl, d, a⟩
 by_cases e : c = 93 \/ c = 125
 .have f : Rf.jo m bk o c = ⟨false, m, bk, o⟩ := by simp [Rf.jo, *]
  rw [f]; clear f;rcases e with e|e <;>
  .subst e;go_enter func203, ntmps203;go_wp2;go_ret;exact ⟨rfl, h, Zk _ _⟩
 have f : Rf.jo m bk o c = Rf.to m bk o true 1 := by simp [Rf.jo, Rf.to, *]
 rw [f]; clear f;have s : (c == 92) = false := by simp; omega
 have r : (c == 91) = false := by simp; omega
 have k : (c == 40) = false := by simp; omega
 have l : (c == 41) = false := by simp; omega
 have i : (c == 124) = false := by simp; omega
 have g : (c == 123) = false := by simp; omega
 have t : (c == 93) = false := by simp; omega
 have j : (c == 125) = false := by simp; omega
 go_enter func203, ntmps203;go_wp2_with fail;apply (XE b m bk o true 1 _ h).mono;rintro e w1 ⟨rfl, d, a⟩;go_wp2;go_ret;exact ⟨rfl, d, a⟩
def CR(b : Nat)(m bk o : Int)(c : Int)(w : World)(h : Rd b m bk o w)(z : -1000 <= o)(H : o <= 1000) :
  Cp 189 #[.pointer (some ⟨b, 0, none⟩), .int .u8 c] w (Su b w (Rf.rest m bk o c)) := by
 obtain ⟨c0, c1, c2, q, r, s⟩ := id h;by_cases e : m = 9
 .subst e;by_cases e : c = 94
  .subst e;go_enter func189, ntmps189;go_wp2_with fail;apply (XE b 9 bk o true 10 _ h).mono;rintro e w1 ⟨rfl, d, a⟩;go_wp2;go_ret;exact ⟨rfl, d, a⟩
  have f : Rf.rest 9 bk o c = Rf.jx 9 bk o c 11 := by simp [Rf.rest, *]
  have n : (c == 94) = false := by simpa using e
  rw [f]; clear f e;go_enter func189, ntmps189;go_wp2_with fail;apply (TL b 9 bk o c 11 _ h).mono;rintro e w1 ⟨rfl, d, a⟩;go_wp2;go_ret;exact ⟨rfl, d, a⟩
 by_cases e : m = 10
 .subst e;go_enter func189, ntmps189;go_wp2_with fail;apply (TL b 10 bk o c 11 _ h).mono;rintro e w1 ⟨rfl, d, a⟩;go_wp2;go_ret;exact ⟨rfl, d, a⟩
 by_cases e : m = 11
 .subst e;by_cases e : c = 45
  .subst e;go_enter func189, ntmps189;go_wp2_with fail;apply (XE b 11 bk o true 12 _ h).mono;rintro e w1 ⟨rfl, d, a⟩;go_wp2;go_ret;exact ⟨rfl, d, a⟩
  by_cases e : c = 93
  .subst e;go_enter func189, ntmps189;go_wp2_with fail;apply (XE b 11 bk o true 1 _ h).mono;rintro e w1 ⟨rfl, d, a⟩;go_wp2;go_ret;exact ⟨rfl, d, a⟩
  have f : Rf.rest 11 bk o c = Rf.jx 11 bk o c 11 := by simp [Rf.rest, *]
  have n : (c == 45) = false := by simp; omega
  have g : (c == 93) = false := by simp; omega
  rw [f]; clear f;go_enter func189, ntmps189;go_wp2_with fail;apply (TL b 11 bk o c 11 _ h).mono;rintro e w1 ⟨rfl, d, a⟩;go_wp2;go_ret;exact ⟨rfl, d, a⟩
 by_cases e : m = 12
 .subst e;go_enter func189, ntmps189;go_wp2_with fail;apply (TL b 12 bk o c 13 _ h).mono;rintro e w1 ⟨rfl, d, a⟩;go_wp2;go_ret;exact ⟨rfl, d, a⟩
 by_cases e : m = 13
 .subst e;by_cases e : c = 93
  .subst e;go_enter func189, ntmps189;go_wp2_with fail;apply (XE b 13 bk o true 1 _ h).mono;rintro e w1 ⟨rfl, d, a⟩;go_wp2;go_ret;exact ⟨rfl, d, a⟩
  have f : Rf.rest 13 bk o c = Rf.jx 13 bk o c 11 := by simp [Rf.rest, *]
  have g : (c == 93) = false := by simp; omega
  rw [f]; clear f;go_enter func189, ntmps189;go_wp2_with fail;apply (TL b 13 bk o c 11 _ h).mono;rintro e w1 ⟨rfl, d, a⟩;go_wp2;go_ret;exact ⟨rfl, d, a⟩
 have f : Rf.rest m bk o c = Rf.jo m bk o c := by simp [Rf.rest, *]
 rw [f]; clear f;have p : (m == 9) = false := by simp; omega
 have i : (m == 10) = false := by simp; omega
 have j : (m == 11) = false := by simp; omega
 have k : (m == 12) = false := by simp; omega
 have l : (m == 13) = false := by simp; omega
 go_enter func189, ntmps189;go_wp2_with fail;apply (I1 b m bk o c _ h z H).mono;rintro e w1 ⟨rfl, d, a⟩;go_wp2;go_ret;exact ⟨rfl, d, a⟩
def LS(b:Nat)(bk o:Int)(w:World)(h:Rd b 2 bk o w):
  Cp 158 #[.pointer (some ⟨b,0,none⟩),.int .u8 110] w (Su b w (Rf.to 2 bk o true bk)):=by
 obtain⟨c0,c1,c2,g,i,j⟩:=id h;go_enter func158,ntmps158;go_wp2_with fail;refine fK (S:=λw'=>w'.cell? ⟨b,1,none⟩=some (.int .i64 bk)) (by kernel_rfl) (by simpa using c1) (λhHeld=>?_);refine tQ 0 ?_
 refine tQ 1 ?_
 refine tQ 2 ?_
 refine tQ 3 ?_
 refine tQ 4 ?_
 refine tQ 5 ?_
 refine tQ 6 ?_
 refine tQ 7 ?_
 refine tQ 8 ?_
 refine tQ 9 ?_
 refine tQ 10 ?_
 refine tQ 11 ?_
 refine tQ 12 ?_
 refine tQ 13 ?_
 refine tQ 14 ?_
 refine fL (rs:=[15]) (by kernel_rfl) (by simp) ?_;refine fM (o:=?o15) ?hi15 (λK c=>?_) fN
 case hi15=>simp only[gel];rfl
 go_simp;refine(XE b 2 bk o _ bk _ (by exact h.drew)).mono ?_;rintro e w' ⟨rfl,d,f⟩;have a:Below b w w':=(Zk _ _).drew.trans f;go_wp2_with fail;refine c.out _ _ (by exact d.c1) (λhHeld=>?_);clear c K
 (try simp only[psm])
 refine tQ 16 ?_
 refine fO (by kernel_rfl) ?_ _;go_wp2_with fail;go_ret;exact⟨rfl,d,a⟩
def LT(b:Nat)(bk o:Int)(w:World)(h:Rd b 2 bk o w):
  Cp 158 #[.pointer (some ⟨b,0,none⟩),.int .u8 116] w (Su b w (Rf.to 2 bk o true bk)):=by
 obtain⟨c0,c1,c2,g,i,j⟩:=id h;go_enter func158,ntmps158;go_wp2_with fail;refine fK (S:=λw'=>w'.cell? ⟨b,1,none⟩=some (.int .i64 bk)) (by kernel_rfl) (by simpa using c1) (λhHeld=>?_);refine tQ 0 ?_
 refine tQ 1 ?_
 refine tQ 2 ?_
 refine tQ 3 ?_
 refine tQ 4 ?_
 refine tQ 5 ?_
 refine tQ 6 ?_
 refine tQ 7 ?_
 refine tQ 8 ?_
 refine tQ 9 ?_
 refine tQ 10 ?_
 refine tQ 11 ?_
 refine tQ 12 ?_
 refine tQ 13 ?_
 refine tQ 14 ?_
 refine fL (rs:=[15]) (by kernel_rfl) (by simp) ?_;refine fM (o:=?o15) ?hi15 (λK c=>?_) fN
 case hi15=>simp only[gel];rfl
 go_simp;refine(XE b 2 bk o _ bk _ (by exact h.drew)).mono ?_;rintro e w' ⟨rfl,d,f⟩;have a:Below b w w':=(Zk _ _).drew.trans f;go_wp2_with fail;refine c.out _ _ (by exact d.c1) (λhHeld=>?_);clear c K
 (try simp only[psm])
 refine tQ 16 ?_
 refine fO (by kernel_rfl) ?_ _;go_wp2_with fail;go_ret;exact⟨rfl,d,a⟩
def Jc(b : Nat)(bk o : Int)(c : Int)(w : World)(h : Rd b 2 bk o w) :
  Calls prog 158 #[.pointer (some ⟨b, 0, none⟩), .int .u8 c] w (Su b w (Rf.read 2 bk o c)) := by
 obtain ⟨c0, c1, c2, f0, f1, f2⟩ := id h;by_cases e : c = 120
 .subst e;go_enter func158, ntmps158;go_wp2_with fail;refine (XE b 2 bk o true 3 _ h).mono ?_;rintro e w1 ⟨rfl, hr, hb⟩;go_wp2_with fail;go_ret;exact ⟨rfl, hr, hb⟩
 .have hx : Rf.read 2 bk o c = Rf.to 2 bk o (c == 110 || c == 116 || Rf.has Rf.marks c) bk := by simp [Rf.read, *]
  have e120 : (c == 120) = false := by simpa using e
  rw [hx]; clear hx e;cases e110 : (c == 110)
  .cases e116 : (c == 116)
   .go_enter func158, ntmps158;go_wp2_with fail
    go_region_held3 (λw' => w'.cell? ⟨b, 1, none⟩ = some (.int .i64 bk)) (go_keep) (first|(go_at_call 162; refine (Oe _ c _ (by decide)).mono ?_; rintro e w' ⟨rfl, rfl⟩)|(go_at_call 186; refine (XE b 2 bk o _ bk _ (by exact h.drew)).mono ?_; rintro e w' ⟨rfl, hr, hb⟩; have hc1 : w'.cell? ⟨b, 1, none⟩ = some (.int .i64 bk) := hr.c1; have hbb : Below b w w' := (Below.refl _ _).drew.trans hb; clear hb))
    go_wp2_with fail;go_ret;exact ⟨rfl, hr, hbb⟩
   .have hc : c = 116 := by simpa using e116
    subst hc;exact LT b bk o w h
  .have hc : c = 110 := by simpa using e110
   subst hc;exact LS b bk o w h
def QC(b : Nat)(m bk o : Int)(c : Int)(w : World)(h : Rd b m bk o w)(o0 : -1000 <= o)(o1 : o <= 1000) :
  Calls prog 158 #[.pointer (some ⟨b, 0, none⟩), .int .u8 c] w (Su b w (Rf.read m bk o c)) := by
 by_cases e : m = 2
 .subst e; exact Jc b bk o c w h
 obtain ⟨c0, c1, c2, f0, f1, f2⟩ := id h;by_cases e : m = 3
 .subst e;go_enter func158, ntmps158;go_wp2_with fail;refine (Fb c _).mono ?_;rintro e w1 ⟨rfl, rfl⟩;go_wp2_with fail;refine (XE b 3 bk o _ 4 _ h).mono ?_;rintro e w1 ⟨rfl, hr, hb⟩;go_wp2_with fail;go_ret;exact ⟨rfl, hr, hb⟩
 by_cases e : m = 4
 .subst e;go_enter func158, ntmps158;go_wp2_with fail
  go_region_held3 (λw' => w'.cell? ⟨b, 1, none⟩ = some (.int .i64 bk)) (go_keep) (first|(go_at_call 187; refine (Fb c _).mono ?_; rintro e w' ⟨rfl, rfl⟩)|(go_at_call 186; refine (XE b 4 bk o _ bk _ (by exact h.drew)).mono ?_; rintro e w' ⟨rfl, hr, hb⟩; have hc1 : w'.cell? ⟨b, 1, none⟩ = some (.int .i64 bk) := hr.c1; have hbb : Below b w w' := (Below.refl _ _).drew.trans hb; clear hb))
  go_wp2_with fail;go_ret;exact ⟨rfl, hr, hbb⟩
 by_cases e : m = 5
 .subst e;go_enter func158, ntmps158;go_wp2_with fail;refine (TG c _).mono ?_;rintro e w1 ⟨rfl, rfl⟩;go_wp2_with fail;refine (XE b 5 bk o _ 6 _ h).mono ?_;rintro e w1 ⟨rfl, hr, hb⟩;go_wp2_with fail;go_ret;exact ⟨rfl, hr, hb⟩
 by_cases e : m = 6
 .subst e;by_cases e : c = 44
  .subst e;go_enter func158, ntmps158;go_wp2_with fail;refine (XE b 6 bk o true 7 _ h).mono ?_;rintro e w1 ⟨rfl, hr, hb⟩;go_wp2_with fail;go_ret;exact ⟨rfl, hr, hb⟩
  have hx : Rf.read 6 bk o c = Rf.to 6 bk o (c == 125) 1 := by simp [Rf.read, *]
  have hc2 : (c == 44) = false := by simp; omega
  rw [hx]; clear hx;go_enter func158, ntmps158;go_wp2_with fail;refine (XE b 6 bk o _ 1 _ h).mono ?_;rintro e w1 ⟨rfl, hr, hb⟩;go_wp2_with fail;go_ret;exact ⟨rfl, hr, hb⟩
 by_cases e : m = 7
 .subst e;go_enter func158, ntmps158;go_wp2_with fail;refine (TG c _).mono ?_;rintro e w1 ⟨rfl, rfl⟩;go_wp2_with fail;refine (XE b 7 bk o _ 8 _ h).mono ?_;rintro e w1 ⟨rfl, hr, hb⟩;go_wp2_with fail;go_ret;exact ⟨rfl, hr, hb⟩
 by_cases e : m = 8
 .subst e;go_enter func158, ntmps158;go_wp2_with fail;refine (XE b 8 bk o _ 1 _ h).mono ?_;rintro e w1 ⟨rfl, hr, hb⟩;go_wp2_with fail;go_ret;exact ⟨rfl, hr, hb⟩
 have hx : Rf.read m bk o c = Rf.rest m bk o c := by simp [Rf.read, *]
 rw [hx]; clear hx;have e2 : (m == 2) = false := by simp; omega
 have e3 : (m == 3) = false := by simp; omega
 have e4 : (m == 4) = false := by simp; omega
 have e5 : (m == 5) = false := by simp; omega
 have e6 : (m == 6) = false := by simp; omega
 have e7 : (m == 7) = false := by simp; omega
 have e8 : (m == 8) = false := by simp; omega
 go_enter func158, ntmps158;go_wp2_with fail;refine (CR b m bk o c _ h o0 o1).mono ?_;rintro e w1 ⟨rfl, hr, hb⟩;go_wp2_with fail;go_ret;exact ⟨rfl, hr, hb⟩
def Rf.near_ite{o:Int}{p:Prop}[Decidable p]{x y:Rf.RS}(z:o-1<=x.o/\x.o<=o+1)(H:o-1<=y.o/\y.o<=o+1):o-1<=(if p then x else y).o/\(if p then x else y).o<=o+1:=by
 split
 .exact z
 exact H
def Rf.near_inner(m bk o c z:Int):o-1<=(Rf.jx m bk o c z).o/\(Rf.jx m bk o c z).o<=o+1:=by
 unfold Rf.jx;exact Rf.near_ite ⟨Qp,Qp⟩ ⟨by simp[Rf.to];omega,by simp[Rf.to];omega⟩
def Rf.near_outside(m bk o c:Int):o-1<=(Rf.jo m bk o c).o/\(Rf.jo m bk o c).o<=o+1:=by
 unfold Rf.jo
 repeat' (refine Rf.near_ite ?_ ?_)
 all_goals (constructor<;>simp[Rf.to]<;>omega)
def Rf.read_o(m bk o c:Int):o-1<=(Rf.read m bk o c).o/\(Rf.read m bk o c).o<=o+1:=by
 unfold Rf.read
 repeat' (refine Rf.near_ite ?_ ?_)
 all_goals first|exact Rf.near_rest ..|(constructor<;>simp[Rf.to]<;>omega)
def Ql(s:ByteArray)(w:World)(hs:s.size<=40):
  Cp 108 #[.string s] w λe w'=>e=.returned (I6 (Rf.form s.data.toList))/\Bl w w':=by
 go_enter func108,ntmps108;go_wp2
 go_loopw [4] (λi w'=>∃(k:Nat) (m bk o:Int),k<=s.size/\i=I6 k/\Rd w.heap.size m bk o w'/\Bl w w'/\-k<=o/\o<=k/\Hid (Rf.form s.data.toList=Rf.jt m bk o k (s.data.toList.drop k))) (λi _=>s.size-(intOf i).toNat)
 .refine⟨0,0,0,0,dM _,rfl,⟨?_,?_,?_,?_,?_,?_⟩,(Zk _ _).alloc (Zg _) _,Qo,Qo,rfl⟩<;>go_simp
 obtain⟨k,m,bk,o,v,rfl,d,b,n,p,HS⟩:=hrel;let⟨c0,c1,c2,r,t,u⟩:=id d;by_cases g:k<s.size
 .have h:=hyd (RX s k g);have q:=Rf.read_o m bk o (s[k].toNat);cases hok:(Rf.read m bk o (s[k].toNat)).ok
  .have a:=hyd hok;go_wp2_with fail;apply(QC _ m bk o _ _ d Qo Qo).mono;rintro e w1 ⟨rfl,j,f⟩;rw[a.o];go_wp2;go_ret;refine⟨Y2 ?_,b.trans f⟩;rw[HS.o,h.o];simp[Rf.jt,a.o]
  have a:=hyd hok;go_wp2_with fail;apply(QC _ m bk o _ _ d Qo Qo).mono;rintro e w1 ⟨rfl,j,f⟩;rw[a.o];go_wp2;go_roundw
  .exact⟨k+1,_,_,_,Qo,Qg,j,b.trans f,Qo,Qo,by show _=_;rw[HS.o,h.o];simp[Rf.jt,a.o]⟩
  simp[intOf];omega
 have l:s.data.toList.drop k=[]:=dT Qp;have c:=hyd l;by_cases h0:0<o
 .go_wp2;go_ret;refine⟨Y2 ?_,b⟩;rw[HS.o,c.o];simp[Rf.jt,h0];omega
 by_cases h1:1<m
 .go_wp2;go_ret;refine⟨Y2 ?_,b⟩;rw[HS.o,c.o];simp[Rf.jt,h1];omega
 go_wp2;go_ret;refine⟨Y2 ?_,b⟩;rw[HS.o,c.o];simp[Rf.jt];omega
def MD(s:ByteArray)(w:World)(hs:s.size<=40):
  Cp 109 #[.string s] w λe w'=>e=.returned (I6 (Rf.deep s.data.toList))/\Bl w w':=by
 go_enter func109,ntmps109;go_wp2
 go_loopw [4] (λi w'=>∃(k:Nat) (m bk o:Int),k<=s.size/\i=I6 k/\Rd w.heap.size m bk o w'/\Bl w w'/\-k<=o/\o<=k/\Hid (Rf.deep s.data.toList=Rf.i6 m bk o k (s.data.toList.drop k))) (λi _=>s.size-(intOf i).toNat)
 .refine⟨0,0,0,0,dM _,rfl,⟨?_,?_,?_,?_,?_,?_⟩,(Zk _ _).alloc (Zg _) _,Qo,Qo,rfl⟩<;>go_simp
 obtain⟨k,m,bk,o,x,rfl,c,b,p,q,HS⟩:=hrel;let⟨c0,c1,c2,t,u,v⟩:=id c;by_cases f:k<s.size
 .have g:=hyd (RX s k f);have r:=Rf.read_o m bk o (s[k].toNat);by_cases l:6<(Rf.read m bk o (s[k].toNat)).o
  .go_wp2_with fail;apply(QC _ m bk o _ _ c Qo Qo).mono;rintro e w1 ⟨rfl,a,d⟩;have j:=a.c2;go_wp2;go_ret;refine⟨Y2 ?_,b.trans d⟩;rw[HS.o,g.o];simp[Rf.i6,l]
  go_wp2_with fail;apply(QC _ m bk o _ _ c Qo Qo).mono;rintro e w1 ⟨rfl,a,d⟩;have j:=a.c2;go_wp2;go_roundw
  .exact⟨k+1,_,_,_,Qo,Qg,a,b.trans d,Qo,Qo,by show _=_;rw[HS.o,g.o];simp only[Rf.i6];rw[g_]⟩
  simp[intOf];omega
 have n:s.data.toList.drop k=[]:=dT Qp;have h:=hyd n;go_wp2;go_ret;refine⟨Y2 ?_,b⟩;rw[HS.o,h.o];rfl
def NO{a b:Int}(h:a=a')(z:b=b'):Ending.returned (.tuple #[I6 a,I6 b])=.returned (.tuple #[I6 a',I6 b']):=by rw[h,z]
def Fj(s:ByteArray)(k:Nat)(v:Int)(n:Nat)(w:World)(hs:s.size<=40)(h:Rf.one (s.data.toList.drop k)=some (v,n)):
  Cp 159 #[.string s,I6 k] w λe w'=>e=.returned (.tuple #[I6 v,I6 ((k+n:Nat):Int)])/\∃q,w'=w.drewN q:=by
 rcases hd:s.data.toList.drop k with _|⟨c,r⟩
 .rw[hd]at h;cases h
 let⟨R,t,I⟩:=YT hd;rw[hd]at h;by_cases o:c=92
 .subst o;have M:((s[k].toNat:Int)==92)=true:=by rw[t];rfl
  rcases r with _|⟨d,P⟩
  .cases h
  let⟨N,f,l⟩:=YT I;clear hd t I;by_cases a:d=110
  .have F:((s[k+1].toNat:Int)==110)=true:=by rw[f,a];rfl
   have p:v=10/\n=2:=by simp[Rf.one,a]at h;exact⟨h.1.symm,h.2.symm⟩
   obtain⟨rfl,rfl⟩:=p;clear f l h a;go_enter func159,ntmps159;go_wp2;go_ret2;exact⟨NO rfl Qo,0,rfl⟩
  have F:((s[k+1].toNat:Int)==110)=false:=by rw[f];exact Yl a
  by_cases b:d=116
  .have G:((s[k+1].toNat:Int)==116)=true:=by rw[f,b];rfl
   have p:v=9/\n=2:=by simp[Rf.one,b]at h;exact⟨h.1.symm,h.2.symm⟩
   obtain⟨rfl,rfl⟩:=p;clear f l h a b;go_enter func159,ntmps159;go_wp2;go_ret2;exact⟨NO rfl Qo,0,rfl⟩
  have G:((s[k+1].toNat:Int)==116)=false:=by rw[f];exact Yl b
  by_cases g:d=120
  .have H:((s[k+1].toNat:Int)==120)=true:=by rw[f,g];rfl
   subst g;rcases P with _|⟨x,_|⟨y,Q⟩⟩
   .simp[Rf.one]at h
   .simp[Rf.one]at h
   let⟨A,u,C⟩:=YT l;let⟨B,z,J⟩:=YT C;have O:Rf.hex x.toNat=true/\Rf.hex y.toNat=true/\v=Rf.iX x.toNat*16+Rf.iX y.toNat/\n=4:=by
    simp only[Rf.one,dB]at h;rw[dG Qd,dG Qd]at h;by_cases m:(Rf.hex x.toNat&&Rf.hex y.toNat)=true
    .rw[dF m]at h;simp only[Zp,dW]at h;rw[ZS]at m;exact⟨m.1,m.2,h.1.symm,h.2.symm⟩
    rw[dG m]at h;cases h
   obtain⟨D,E,rfl,rfl⟩:=O;have K:=A;have L:=B;have i:s[k+2]=x:=u;have j:s[k+3]=y:=z;rw[<-i]at D;rw[<-j]at E;rw[<-i,<-j];have S:(0:Int)<=k+2/\(k:Int)+2<(s.size:Int):=Qo
   have T:(0:Int)<=k+3/\(k:Int)+3<(s.size:Int):=Qo
   have U:=Qe s[k+2];have V:=Qe s[k+3];have W:=Rf.i5 (s[k+2].toNat) D;have X:=Rf.i5 (s[k+3].toNat) E;clear f l h a b C J u z i j A B;go_enter func159,ntmps159;go_wp2
   go_quiet ((go_at_call 190;exact Calls.quiet_of_same (Gk _ _ Qo (by assumption) (by assumption))))
   go_wp2;go_ret2;exact⟨NO (by first|rfl|omega) Qo,nq,rfl⟩
  have H:((s[k+1].toNat:Int)==120)=false:=by rw[f];exact Yl g
  have p:v=s[k+1].toNat/\n=2:=by simp[Rf.one,a,b,g]at h;rw[f];exact⟨h.1.symm,h.2.symm⟩
  obtain⟨rfl,rfl⟩:=p;clear f l h a b g;go_enter func159,ntmps159;go_wp2;go_ret2;exact⟨NO (Pq _) Qo,0,rfl⟩
 have M:((s[k].toNat:Int)==92)=false:=by rw[t];exact Yl o
 have p:v=s[k].toNat/\n=1:=by simp[Rf.one,o]at h;rw[t];exact⟨h.1.symm,h.2.symm⟩
 obtain⟨rfl,rfl⟩:=p;clear t I h o hd;go_enter func159,ntmps159;go_wp2;go_ret2;exact⟨NO (Pq _) Qo,0,rfl⟩
def V9(s:ByteArray)(k:Nat)(i:Int)(v:Int)(n:Nat)(w:World)(hs:s.size<=40)(z:i=k)(h:Rf.one (s.data.toList.drop k)=some (v,n)):
  Cp 159 #[.string s,I6 i] w λe w'=>e=.returned (.tuple #[I6 v,I6 ((k+n:Nat):Int)])/\∃q,w'=w.drewN q:=by
 subst z;exact Fj s k v n w hs h
def XZ(g:Nat)(f:Nat->Bool)(w:World):Prop:=∀k,k<256->w.cell? ⟨g,k,none⟩=some (.bool (f k))/\w.frozen? ⟨g,k,none⟩=false
def XZ.drewN{f:N_}(h:XZ g f w)(q:Nat):XZ g f (w.drewN q):=λk a=>by
 have:=h k a;refine⟨?_,?_⟩<;>go_simp
def XZ.set{f:N_}(h:XZ g f w)(j:Nat)(z:j<256)(b:Bool):XZ g (λk=>if k=j then b else f k) (w.setCell (a_ g j) (.bool b)):=λk l=>by
 let⟨a,m⟩:=h k l;let⟨c,i⟩:=h j z;refine⟨?_,?_⟩
 .by_cases e:k=j
  .subst e;simp;go_simp
  simp only[dG e];rw[fB _ _ _ _ (by intro d;cases d;exact e rfl)];exact a
 go_simp
def XZ.congr{f:N_}(h:XZ g f w)(e:∀k,k<256->f k=f' k):XZ g f' w:=λk a=>by
 rw[<-e k a];exact h k a
def YR(B:Nat)(w:World)(q:Nat):Below B w (w.drewN q):=⟨rfl,rfl,rfl,Zg _,λ_ _=>rfl⟩
def blank:Array Value:=madeCells #[.bool false] 256
def Bf(k:Nat)(h:k<256):blank[k]?=some (.bool false):=by
 simp[blank,madeCells,h,Nat.mod_one]
def D1:∃i,prog.info? 4=some i/\i.zero=some (.bool false)/\i.size=1/\i.bytes=1:=by
 have h1:(prog.info? 4).isSome=true:=Qk
 let⟨i,a⟩:=Zx.1 h1;refine⟨i,a,?_,?_,?_⟩
 .have:((prog.info? 4).bind (·.zero))=some (.bool false):=Qk
  rw[a]at this;exact this
 .have:((prog.info? 4).map (·.size))=some 1:=Qk
  rw[a]at this;simpa using this
 have:((prog.info? 4).map (·.bytes))=some 1:=Qk
 rw[a]at this;simpa using this
def Lu(w:World):(Instr.makeSlice 78 (I6 256) (I6 256)).run prog w=.ok (.slice (some (a_ w.heap.size 0)) 256 256) (w.alloc (.cells blank 4)):=by
 let⟨i,b,hz,c,a⟩:=D1;have h:=run_make (P:=prog) w 78 4 i (.bool false) u_q b hz .i64 .i64 256 256 Qd Qd (by rw[a];decide) Qd;rw[c]at h;exact h
def XZ.blank(w:World)(t:TypeId):XZ w.heap.size (λ_=>false) (w.alloc (.cells blank t)):=λk a=>by
 refine⟨?_,?_⟩
 .rw[World.cell?_alloc_new];exact Bf k a
 .go_simp
def Wp(inb:N_)(a:Int)(y:Nat)(_:y<256):inb y=(inb y || (decide (a<=(y:Int))&&decide ((y:Int)<a))):=by
 rw[eA];simp;omega
def VQ(inb:N_)(a:Int)(t:Nat)(h:a<=t)(y:Nat)(_:y<256):(if y=t then true else (inb y || (decide (a<=(y:Int))&&decide ((y:Int)<t))))=(inb y || (decide (a<=(y:Int))&&decide ((y:Int)<t+1))):=by
 by_cases e:y=t
 .subst e;rw[dF rfl];cases inb y<;>simp<;>omega
 rw[dG e];cases inb y
 .rw[dx,dx,eA];simp;omega
 rfl
def UW(inb:N_)(a b t:Int)(_h0:a<=t)(h1:t=a\/t<=b+1)(z:¬t<=b)(y:Nat)(_:y<256):(inb y || (decide (a<=(y:Int))&&decide ((y:Int)<t)))=(inb y || (decide (a<=(y:Int))&&decide ((y:Int)<=b))):=by
 cases inb y
 .rw[dx,dx,eA];simp;omega
 rfl
def Fp(s:ByteArray)(k:Nat)(j:Nat)(fa:Int)(inn:N_)(w:World)(hs:s.size<=40)(h:Rf.set (s.data.toList.drop (k+1)) k=some (j,fa,inn)):
  Cp 160 #[.string s,I6 k] w λe w'=>e=.returned (.tuple #[.slice (some (a_ w.heap.size 0)) 256 256,I6 j,I6 fa])/\XZ w.heap.size inn w'/\Bl w w':=by
 rcases hd:s.data.toList.drop (k+1)with _|⟨c,r⟩
 .rw[hd]at h;cases h
 let⟨hk,O,U⟩:=YT hd;rw[hd]at h;have hm:=Lu w;by_cases R:c=94
 .have Y:((s[k+1].toNat:Int)==94)=true:=by rw[O,R];rfl
  obtain⟨Q,u,h0,hj,hi⟩:∃Q u,Rf.items (r.length+1) (s.data.toList.drop (k+2)) (k+2) (-1) (λ_=>false)=some (Q,fa,u)/\j=Q+1/\inn=λx=>u x != true:=by
   simp only[Rf.set,R,dB]at h;rw[U];cases hx:Rf.items (r.length+1) r (k+2) (-1) (λ_=>false)with
   |none=>rw[hx]at h;cases h
   |some x=>
    rw[hx]at h;simp only[dX,Zp,dW]at h;exact⟨x.1,x.2.2,by rw[<-h.2.1],h.1.symm,h.2.2.symm⟩
  subst hj;subst hi;clear O U hd R h;go_enter func160,ntmps160;go_wp2;clear hm
  go_loopw [1,8] (λi fl w'=>∃(f m:Nat) (fb:Int) (inb:N_),i=I6 m/\fl=I6 fb/\XZ w.heap.size inb w'/\Bl w w'/\Hid (Rf.items f (s.data.toList.drop m) m fb inb=some (Q,fa,u))) (λi _ _=>s.size-(intOf i).toNat)
  .exact⟨_,k+2,-1,λ_=>false,Qg,rfl,XZ.blank w _,(Zk _ _).alloc (Zg _) _,h0⟩
  obtain⟨f,m,fb,inb,rfl,rfl,I,J,HS⟩:=hrel;rcases f with _|f
  .exact absurd HS.o (by simp[Rf.items])
  rcases hd:s.data.toList.drop m with _|⟨c,r⟩
  .have:=HS.o;rw[hd]at this;simp[Rf.items]at this
  let⟨ah,O,U⟩:=YT hd;have A:=HS.o;rw[hd]at A;by_cases o:c=93
  .have Y:((s[m].toNat:Int)==93)=true:=by rw[O,o];rfl
   have hR:m=Q/\fb=fa/\inb=u:=by
    simp only[Rf.items,o,dB,Zp,dW]at A;exact A
   obtain⟨rfl,rfl,rfl⟩:=hR;clear O U hd A HS h0 o;go_wp2
   go_loopw [14] (λi w'=>∃E:Nat,E<=256/\i=I6 E/\XZ w.heap.size (λx=>if x<E then !inb x else inb x) w'/\Bl w w') (λi _=>256-(intOf i).toNat)
   .exact⟨0,Qo,rfl,I.congr Qs,J⟩
   obtain⟨E,ai,rfl,l,p⟩:=hrel;by_cases T:E<256
   .let⟨K,P⟩:=l E T;simp only[Nat.lt_irrefl,eU]at K;have C:=l.set E T (!inb E);go_wp2;go_roundw
    .refine⟨E+1,Qo,Qg,C.congr (λy _=>?_),p.trans (Yf _ _ _ _)⟩;by_cases X:y=E
     .subst X;simp
     by_cases e2:y<E
     .simp[X,e2,Nat.lt_succ_of_lt e2]
     simp[X,e2,show ¬y<E+1 by omega]
    simp[intOf];omega
   go_wp2;go_ret3;exact⟨by first|rfl|(simp;done)|go_num,l.congr (λy hy=>by simp[show y<E by omega]),p⟩
  have Y:((s[m].toNat:Int)==93)=false:=by rw[O];exact Yl o
  rcases ho:Rf.one (c::r)with _|⟨a,n⟩
  .simp only[Rf.items,dG o,ho]at A;cases A
  have M:Rf.one (s.data.toList.drop m)=some (a,n):=by rw[hd];exact ho
  let⟨ab,ac,ak,al⟩:=Rf.jr ho;rcases hd2:(c::r).drop n with _|⟨d,l'⟩
  .simp only[Rf.items,dG o,ho,hd2]at A;cases A
  have D:s.data.toList.drop (m+n)=d::l':=by rw[<-eC,hd];exact hd2
  let⟨aj,L,N⟩:=YT D;by_cases B:d=45
  .have S:((s[m+n].toNat:Int)==45)=true:=by rw[L,B];rfl
   rcases ho2:Rf.one l' with _|⟨b,n'⟩
   .simp only[Rf.items,dG o,ho,hd2,dF B,ho2]at A;cases A
   have G:Rf.one (s.data.toList.drop (m+n+1))=some (b,n'):=by rw[N];exact ho2
   let⟨ae,af,Z,aa⟩:=Rf.jr ho2;have g:Hid (Rf.items f (s.data.toList.drop (m+n+1+n')) (m+n+1+n') (if b<a/\fb<0 then (m:Int) else fb) (λy=>inb y || (decide (a<=(y:Int))&&decide ((y:Int)<=b)))=some (Q,fa,u)):=by
    show _=_;simp only[Rf.items,dG o,ho,hd2,dF B,ho2]at A;rw[<-eC,N];exact A
   clear O U hd A HS h0 o L N hd2 D B;by_cases W:b<a/\fb<0
   .rw[dF W]at g;go_wp2_with fail;apply(V9 s m _ a n _ hs rfl M).mono;rintro e w1 ⟨rfl,q,rfl⟩;go_wp2_with fail;apply(V9 s (m+n+1) _ b n' _ hs Qo G).mono;rintro e w1 ⟨rfl,q2,rfl⟩;clear ho M ho2 G;go_wp2
    go_loopw [13] (λx w'=>∃t:Int,x=I6 t/\a<=t/\(t=a\/t<=b+1)/\XZ w.heap.size (λy=>inb y || (decide (a<=(y:Int))&&decide ((y:Int)<t))) w'/\Bl w w') (λx _=>(257-intOf x).toNat)
    .exact⟨a,rfl,eT _,Or.inl rfl,XZ.congr (by first|exact I|exact I.drewN _|exact(I.drewN _).drewN _) (Wp inb a),by first|exact J|exact J.trans (YR _ _ _)|exact(J.trans (YR _ _ _)).trans (YR _ _ _)⟩
    obtain⟨t,rfl,v,H,l,p⟩:=hrel;by_cases F:t<=b
    .first
     |(exfalso;omega)
     |(
       obtain⟨z,rfl⟩:=ZA (show 0<=t by omega);let⟨K,P⟩:=l z Qo;have C:=l.set z Qo true;have V:(z:Int)<256:=Qo
       go_wp2;go_roundw
       .exact⟨(z:Int)+1,rfl,Qo,Qo,C.congr (VQ inb a z v),p.trans (Yf _ _ _ _)⟩
       simp[intOf];omega)
    go_wp2;go_roundw
    .exact⟨f,m+n+1+n',(m:Int),_,Qg,rfl,l.congr (UW inb a b t v H F),p,g⟩
    simp[intOf];omega
   rw[dG W]at g;have hg:b<a->¬fb<0:=λh1 h2=>W ⟨h1,h2⟩
   clear W;by_cases ag:b<a
   all_goals
    go_wp2_with fail;apply(V9 s m _ a n _ hs rfl M).mono;rintro e w1 ⟨rfl,q,rfl⟩;go_wp2_with fail;apply(V9 s (m+n+1) _ b n' _ hs Qo G).mono;rintro e w1 ⟨rfl,q2,rfl⟩;go_wp2
    go_loopw [13] (λx w'=>∃t:Int,x=I6 t/\a<=t/\(t=a\/t<=b+1)/\XZ w.heap.size (λy=>inb y || (decide (a<=(y:Int))&&decide ((y:Int)<t))) w'/\Bl w w') (λx _=>(257-intOf x).toNat)
    .exact⟨a,rfl,eT _,Or.inl rfl,XZ.congr (by first|exact I|exact I.drewN _|exact(I.drewN _).drewN _) (Wp inb a),by first|exact J|exact J.trans (YR _ _ _)|exact(J.trans (YR _ _ _)).trans (YR _ _ _)⟩
    obtain⟨t,rfl,v,H,l,p⟩:=hrel;by_cases F:t<=b
    .first
     |(exfalso;omega)
     |(
       obtain⟨z,rfl⟩:=ZA (show 0<=t by omega);let⟨K,P⟩:=l z Qo;have C:=l.set z Qo true;have V:(z:Int)<256:=Qo
       go_wp2;go_roundw
       .exact⟨(z:Int)+1,rfl,Qo,Qo,C.congr (VQ inb a z v),p.trans (Yf _ _ _ _)⟩
       simp[intOf];omega)
    go_wp2;go_roundw
    .exact⟨f,m+n+1+n',fb,_,Qg,rfl,l.congr (UW inb a b t v H F),p,g⟩
    simp[intOf];omega
  have S:((s[m+n].toNat:Int)==45)=false:=by rw[L];exact Yl B
  have g:Hid (Rf.items f (s.data.toList.drop (m+n)) (m+n) fb (λy=>inb y || (decide (a<=(y:Int))&&decide ((y:Int)<=a)))=some (Q,fa,u)):=by
   show _=_;simp only[Rf.items,dG o,ho,hd2,dG B]at A;rw[D];exact A
  clear O U hd A HS h0 o L N hd2 D B;go_wp2_with fail;apply(V9 s m _ a n _ hs rfl M).mono;rintro e w1 ⟨rfl,q,rfl⟩;go_wp2
  go_loopw [13] (λx w'=>∃t:Int,x=I6 t/\a<=t/\(t=a\/t<=a+1)/\XZ w.heap.size (λy=>inb y || (decide (a<=(y:Int))&&decide ((y:Int)<t))) w'/\Bl w w') (λx _=>(257-intOf x).toNat)
  .exact⟨a,rfl,eT _,Or.inl rfl,XZ.congr (by first|exact I|exact I.drewN _|exact(I.drewN _).drewN _) (Wp inb a),by first|exact J|exact J.trans (YR _ _ _)|exact(J.trans (YR _ _ _)).trans (YR _ _ _)⟩
  obtain⟨t,rfl,v,H,l,p⟩:=hrel;by_cases F:t<=a
  .first
   |(exfalso;omega)
   |(
     obtain⟨z,rfl⟩:=ZA (show 0<=t by omega);let⟨K,P⟩:=l z Qo;have C:=l.set z Qo true;have V:(z:Int)<256:=Qo
     go_wp2;go_roundw
     .exact⟨(z:Int)+1,rfl,Qo,Qo,C.congr (VQ inb a z v),p.trans (Yf _ _ _ _)⟩
     simp[intOf];omega)
  go_wp2;go_roundw
  .exact⟨f,m+n,fb,_,Qg,rfl,l.congr (UW inb a a t v H F),p,g⟩
  simp[intOf];omega
 have Y:((s[k+1].toNat:Int)==94)=false:=by rw[O];exact Yl R
 obtain⟨Q,u,h0,hj,hi⟩:∃Q u,Rf.items (r.length+2) (s.data.toList.drop (k+1)) (k+1) (-1) (λ_=>false)=some (Q,fa,u)/\j=Q+1/\inn=λx=>u x != false:=by
  simp only[Rf.set,R,eU]at h;rw[hd];cases hx:Rf.items (r.length+2) (c::r) (k+1) (-1) (λ_=>false)with
  |none=>rw[hx]at h;cases h
  |some x=>
   rw[hx]at h;simp only[dX,Zp,dW]at h;exact⟨x.1,x.2.2,by rw[<-h.2.1],h.1.symm,h.2.2.symm⟩
 subst hj;subst hi;clear O U hd R h;go_enter func160,ntmps160;go_wp2;clear hm
 go_loopw [1,8] (λi fl w'=>∃(f m:Nat) (fb:Int) (inb:N_),i=I6 m/\fl=I6 fb/\XZ w.heap.size inb w'/\Bl w w'/\Hid (Rf.items f (s.data.toList.drop m) m fb inb=some (Q,fa,u))) (λi _ _=>s.size-(intOf i).toNat)
 .exact⟨_,k+1,-1,λ_=>false,Qg,rfl,XZ.blank w _,(Zk _ _).alloc (Zg _) _,h0⟩
 obtain⟨f,m,fb,inb,rfl,rfl,I,J,HS⟩:=hrel;rcases f with _|f
 .exact absurd HS.o (by simp[Rf.items])
 rcases hd:s.data.toList.drop m with _|⟨c,r⟩
 .have:=HS.o;rw[hd]at this;simp[Rf.items]at this
 let⟨ah,O,U⟩:=YT hd;have A:=HS.o;rw[hd]at A;by_cases o:c=93
 .have Y:((s[m].toNat:Int)==93)=true:=by rw[O,o];rfl
  have hR:m=Q/\fb=fa/\inb=u:=by
   simp only[Rf.items,o,dB,Zp,dW]at A;exact A
  obtain⟨rfl,rfl,rfl⟩:=hR;clear O U hd A HS h0 o;go_wp2
  go_loopw [14] (λi w'=>∃E:Nat,E<=256/\i=I6 E/\XZ w.heap.size (λx=>if x<E then inb x else inb x) w'/\Bl w w') (λi _=>256-(intOf i).toNat)
  .exact⟨0,Qo,rfl,I.congr Qs,J⟩
  obtain⟨E,ai,rfl,l,p⟩:=hrel;by_cases T:E<256
  .let⟨K,P⟩:=l E T;simp only[Nat.lt_irrefl,eU]at K;have C:=l.set E T (inb E);go_wp2;go_roundw
   .refine⟨E+1,Qo,Qg,C.congr (λy _=>?_),p.trans (Yf _ _ _ _)⟩;by_cases X:y=E
    .subst X;simp
    by_cases e2:y<E
    .simp[X,e2,Nat.lt_succ_of_lt e2]
    simp[X,e2,show ¬y<E+1 by omega]
   simp[intOf];omega
  go_wp2;go_ret3;exact⟨by first|rfl|(simp;done)|go_num,l.congr (λy hy=>by simp[show y<E by omega]),p⟩
 have Y:((s[m].toNat:Int)==93)=false:=by rw[O];exact Yl o
 rcases ho:Rf.one (c::r)with _|⟨a,n⟩
 .simp only[Rf.items,dG o,ho]at A;cases A
 have M:Rf.one (s.data.toList.drop m)=some (a,n):=by rw[hd];exact ho
 let⟨ab,ac,ak,al⟩:=Rf.jr ho;rcases hd2:(c::r).drop n with _|⟨d,l'⟩
 .simp only[Rf.items,dG o,ho,hd2]at A;cases A
 have D:s.data.toList.drop (m+n)=d::l':=by rw[<-eC,hd];exact hd2
 let⟨aj,L,N⟩:=YT D;by_cases B:d=45
 .have S:((s[m+n].toNat:Int)==45)=true:=by rw[L,B];rfl
  rcases ho2:Rf.one l' with _|⟨b,n'⟩
  .simp only[Rf.items,dG o,ho,hd2,dF B,ho2]at A;cases A
  have G:Rf.one (s.data.toList.drop (m+n+1))=some (b,n'):=by rw[N];exact ho2
  let⟨ae,af,Z,aa⟩:=Rf.jr ho2;have g:Hid (Rf.items f (s.data.toList.drop (m+n+1+n')) (m+n+1+n') (if b<a/\fb<0 then (m:Int) else fb) (λy=>inb y || (decide (a<=(y:Int))&&decide ((y:Int)<=b)))=some (Q,fa,u)):=by
   show _=_;simp only[Rf.items,dG o,ho,hd2,dF B,ho2]at A;rw[<-eC,N];exact A
  clear O U hd A HS h0 o L N hd2 D B;by_cases W:b<a/\fb<0
  .rw[dF W]at g;go_wp2_with fail;apply(V9 s m _ a n _ hs rfl M).mono;rintro e w1 ⟨rfl,q,rfl⟩;go_wp2_with fail;apply(V9 s (m+n+1) _ b n' _ hs Qo G).mono;rintro e w1 ⟨rfl,q2,rfl⟩;clear ho M ho2 G;go_wp2
   go_loopw [13] (λx w'=>∃t:Int,x=I6 t/\a<=t/\(t=a\/t<=b+1)/\XZ w.heap.size (λy=>inb y || (decide (a<=(y:Int))&&decide ((y:Int)<t))) w'/\Bl w w') (λx _=>(257-intOf x).toNat)
   .exact⟨a,rfl,eT _,Or.inl rfl,XZ.congr (by first|exact I|exact I.drewN _|exact(I.drewN _).drewN _) (Wp inb a),by first|exact J|exact J.trans (YR _ _ _)|exact(J.trans (YR _ _ _)).trans (YR _ _ _)⟩
   obtain⟨t,rfl,v,H,l,p⟩:=hrel;by_cases F:t<=b
   .first
    |(exfalso;omega)
    |(
      obtain⟨z,rfl⟩:=ZA (show 0<=t by omega);let⟨K,P⟩:=l z Qo;have C:=l.set z Qo true;have V:(z:Int)<256:=Qo
      go_wp2;go_roundw
      .exact⟨(z:Int)+1,rfl,Qo,Qo,C.congr (VQ inb a z v),p.trans (Yf _ _ _ _)⟩
      simp[intOf];omega)
   go_wp2;go_roundw
   .exact⟨f,m+n+1+n',(m:Int),_,Qg,rfl,l.congr (UW inb a b t v H F),p,g⟩
   simp[intOf];omega
  rw[dG W]at g;have hg:b<a->¬fb<0:=λh1 h2=>W ⟨h1,h2⟩
  clear W;by_cases ag:b<a
  all_goals
   go_wp2_with fail;apply(V9 s m _ a n _ hs rfl M).mono;rintro e w1 ⟨rfl,q,rfl⟩;go_wp2_with fail;apply(V9 s (m+n+1) _ b n' _ hs Qo G).mono;rintro e w1 ⟨rfl,q2,rfl⟩;go_wp2
   go_loopw [13] (λx w'=>∃t:Int,x=I6 t/\a<=t/\(t=a\/t<=b+1)/\XZ w.heap.size (λy=>inb y || (decide (a<=(y:Int))&&decide ((y:Int)<t))) w'/\Bl w w') (λx _=>(257-intOf x).toNat)
   .exact⟨a,rfl,eT _,Or.inl rfl,XZ.congr (by first|exact I|exact I.drewN _|exact(I.drewN _).drewN _) (Wp inb a),by first|exact J|exact J.trans (YR _ _ _)|exact(J.trans (YR _ _ _)).trans (YR _ _ _)⟩
   obtain⟨t,rfl,v,H,l,p⟩:=hrel;by_cases F:t<=b
   .first
    |(exfalso;omega)
    |(
      obtain⟨z,rfl⟩:=ZA (show 0<=t by omega);let⟨K,P⟩:=l z Qo;have C:=l.set z Qo true;have V:(z:Int)<256:=Qo
      go_wp2;go_roundw
      .exact⟨(z:Int)+1,rfl,Qo,Qo,C.congr (VQ inb a z v),p.trans (Yf _ _ _ _)⟩
      simp[intOf];omega)
   go_wp2;go_roundw
   .exact⟨f,m+n+1+n',fb,_,Qg,rfl,l.congr (UW inb a b t v H F),p,g⟩
   simp[intOf];omega
 have S:((s[m+n].toNat:Int)==45)=false:=by rw[L];exact Yl B
 have g:Hid (Rf.items f (s.data.toList.drop (m+n)) (m+n) fb (λy=>inb y || (decide (a<=(y:Int))&&decide ((y:Int)<=a)))=some (Q,fa,u)):=by
  show _=_;simp only[Rf.items,dG o,ho,hd2,dG B]at A;rw[D];exact A
 clear O U hd A HS h0 o L N hd2 D B;go_wp2_with fail;apply(V9 s m _ a n _ hs rfl M).mono;rintro e w1 ⟨rfl,q,rfl⟩;go_wp2
 go_loopw [13] (λx w'=>∃t:Int,x=I6 t/\a<=t/\(t=a\/t<=a+1)/\XZ w.heap.size (λy=>inb y || (decide (a<=(y:Int))&&decide ((y:Int)<t))) w'/\Bl w w') (λx _=>(257-intOf x).toNat)
 .exact⟨a,rfl,eT _,Or.inl rfl,XZ.congr (by first|exact I|exact I.drewN _|exact(I.drewN _).drewN _) (Wp inb a),by first|exact J|exact J.trans (YR _ _ _)|exact(J.trans (YR _ _ _)).trans (YR _ _ _)⟩
 obtain⟨t,rfl,v,H,l,p⟩:=hrel;by_cases F:t<=a
 .first
  |(exfalso;omega)
  |(
    obtain⟨z,rfl⟩:=ZA (show 0<=t by omega);let⟨K,P⟩:=l z Qo;have C:=l.set z Qo true;have V:(z:Int)<256:=Qo
    go_wp2;go_roundw
    .exact⟨(z:Int)+1,rfl,Qo,Qo,C.congr (VQ inb a z v),p.trans (Yf _ _ _ _)⟩
    simp[intOf];omega)
 go_wp2;go_roundw
 .exact⟨f,m+n,fb,_,Qg,rfl,l.congr (UW inb a a t v H F),p,g⟩
 simp[intOf];omega
def NC(s:ByteArray)(k:Nat)(i:Int)(j:Nat)(fa:Int)(inn:N_)(w:World)(hs:s.size<=40)(z:i=k)(h:Rf.set (s.data.toList.drop (k+1)) k=some (j,fa,inn)):
  Cp 160 #[.string s,I6 i] w λe w'=>e=.returned (.tuple #[.slice (some (a_ w.heap.size 0)) 256 256,I6 j,I6 fa])/\XZ w.heap.size inn w'/\Bl w w':=by
 subst z;exact Fp s k j fa inn w hs h
def LA(s:ByteArray)(v:Int)(f0:Nat)(w:World)(hs:s.size<=40)(h:Rf.je s.data.toList f0 0=some v):
  Cp 110 #[.string s] w λe w'=>e=.returned (I6 v)/\Bl w w':=by
 go_enter func110,ntmps110;go_wp2
 go_loopw [3] (λi w'=>∃(f k:Nat),i=I6 k/\Bl w w'/\Hid (Rf.je s.data.toList f k=some v)) (λi _=>s.size-(intOf i).toNat)
 .exact⟨f0,0,rfl,Zk _ _,h⟩
 clear h;obtain⟨f,k,rfl,C,HS⟩:=hrel;rcases f with _|f
 .exact absurd HS.o (by simp[Rf.je])
 have b:=HS.o;clear HS;rcases hd:s.data.toList.drop k with _|⟨c,r⟩
 .simp only[Rf.je,hd,Zp]at b;have Y:s.size<=k:=by simpa using hd
  clear hd;go_wp2;go_ret;exact⟨Y2 b,C⟩
 let⟨Y,u,G⟩:=YT hd;simp only[Rf.je,hd]at b;by_cases g:c=92
 .have Q:((s[k].toNat:Int)==92)=true:=by rw[u,g];rfl
  rw[dF g]at b;rcases ho:Rf.one (c::r)with _|⟨a,n⟩
  .rw[ho]at b;cases b
  have F:Rf.one (s.data.toList.drop k)=some (a,n):=by rw[hd];exact ho
  let⟨W,X,aa,ab⟩:=Rf.jr ho;rw[ho]at b;have t:=hyd b;clear b hd u G g ho;go_wp2_with fail;apply(V9 s k _ a n _ hs rfl F).mono;rintro e w1 ⟨rfl,q,rfl⟩;go_wp2;go_roundw
  .exact⟨f,k+n,Qg,C.trans (YR _ _ _),t⟩
  simp[intOf];omega
 have S:((s[k].toNat:Int)==92)=false:=by rw[u];exact Yl g
 rw[dG g]at b;by_cases l:c=91
 .have Q:((s[k].toNat:Int)==91)=true:=by rw[u,l];rfl
  rw[dF l]at b;rcases ho:Rf.set r k with _|⟨j,fa,inn⟩
  .rw[ho]at b;cases b
  have F:Rf.set (s.data.toList.drop (k+1)) k=some (j,fa,inn):=by rw[G];exact ho
  have hj:=Rf.i7 ho;rw[ho]at b;simp only at b;by_cases N:0<=fa
  .rw[dF N]at b;have t:=hyd b;clear b hd u G g l ho;go_wp2_with fail;apply(NC s k _ j fa inn _ hs rfl F).mono;rintro e w1 ⟨rfl,V,J⟩;go_wp2;go_ret;exact⟨Y2 (Zh t.o),C.trans (J.mono C.size)⟩
  rw[dG N]at b;have t:=hyd b;clear b hd u G g l ho;go_wp2_with fail;apply(NC s k _ j fa inn _ hs rfl F).mono;rintro e w1 ⟨rfl,V,J⟩;go_wp2;go_roundw
  .exact⟨f,j,rfl,C.trans (J.mono C.size),t⟩
  simp[intOf];omega
 have R:((s[k].toNat:Int)==91)=false:=by rw[u];exact Yl l
 rw[dG l]at b;by_cases d:c=123
 .have Q:((s[k].toNat:Int)==123)=true:=by rw[u,d];rfl
  rw[dF d]at b;rcases r with _|⟨x,_|⟨y,r'⟩⟩
  .cases b
  .cases b
  let⟨Z,B,H⟩:=YT G;let⟨E,D,I⟩:=YT H;have T:k+2<s.size:=E;have m:s[k+2]=y:=D;have i1:(0:Int)<=k+1/\(k:Int)+1<(s.size:Int):=Qo
  have i2:(0:Int)<=k+2/\(k:Int)+2<(s.size:Int):=Qo
  simp only at b;by_cases o:y=44
  .have M:((s[k+2].toNat:Int)==44)=true:=by rw[m,o];rfl
   rw[dF o]at b;rcases r' with _|⟨z,ac⟩
   .cases b
   let⟨L,K,O⟩:=YT I;have U:k+3<s.size:=L;have p:s[k+3]=z:=K;have i3:(0:Int)<=k+3/\(k:Int)+3<(s.size:Int):=Qo
   simp only at b;by_cases A:z.toNat<x.toNat
   .rw[dF A]at b;have t:Hid (some (k:Int)=some v):=b;rw[<-B,<-p]at A;have P:(s[k+3].toNat:Int)<(s[k+1].toNat:Int):=Qo
    clear b hd u G g l d B H D I K O m p E L o A;go_wp2
    go_quiet (fail)
    go_wp2;go_ret;exact⟨Y2 (Zh t.o),C.trans (YR _ _ _)⟩
   rw[dG A]at b;have t:Hid (Rf.je s.data.toList f (k+1)=some v):=b;rw[<-B,<-p]at A;have P:¬(s[k+3].toNat:Int)<(s[k+1].toNat:Int):=Qo
   clear b hd u G g l d B H D I K O m p E L o A;go_wp2
   go_quiet (fail)
   go_wp2;go_roundw
   .exact⟨f,k+1,Qg,C.trans (YR _ _ _),t⟩
   simp[intOf];omega
  have M:((s[k+2].toNat:Int)==44)=false:=by rw[m];exact Yl o
  rw[dG o]at b;have t:=hyd b;clear b hd u G g l d B H D I m E o;go_wp2
  go_quiet (fail)
  go_wp2;go_roundw
  .exact⟨f,k+1,Qg,C.trans (YR _ _ _),t⟩
  simp[intOf];omega
 have Q:((s[k].toNat:Int)==123)=false:=by rw[u];exact Yl d
 rw[dG d]at b;have t:=hyd b;clear b hd u G g l d;go_wp2
 go_quiet (fail)
 go_wp2;go_roundw
 .exact⟨f,k+1,Qg,C.trans (YR _ _ _),t⟩
 simp[intOf];omega
def DR(s:ByteArray)(v:Int)(Y:Nat)(w:World)(hs:s.size<=40)(h:Rf.js s.data.toList Y 0=some v):
  Cp 111 #[.string s] w λe w'=>e=.returned (I6 v)/\Bl w w':=by
 go_enter func111,ntmps111;go_wp2
 go_loopw [3] (λi w'=>∃(f k:Nat),i=I6 k/\Bl w w'/\Hid (Rf.js s.data.toList f k=some v)) (λi _=>s.size-(intOf i).toNat)
 .exact⟨Y,0,rfl,Zk _ _,h⟩
 clear h;obtain⟨f,k,rfl,z,HS⟩:=hrel;rcases f with _|f
 .exact absurd HS.o (by simp[Rf.js])
 have b:=HS.o;clear HS;rcases hd:s.data.toList.drop k with _|⟨c,r⟩
 .simp only[Rf.js,hd,Zp]at b;have O:s.size<=k:=by simpa using hd
  clear hd;go_wp2;go_ret;exact⟨Y2 b,z⟩
 let⟨O,t,C⟩:=YT hd;simp only[Rf.js,hd]at b;by_cases g:c=92
 .have M:((s[k].toNat:Int)==92)=true:=by rw[t,g];rfl
  rw[dF g]at b;rcases ho:Rf.one (c::r)with _|⟨a,n⟩
  .rw[ho]at b;cases b
  have o:Rf.one (s.data.toList.drop k)=some (a,n):=by rw[hd];exact ho
  let⟨K,L,R,S⟩:=Rf.jr ho;rw[ho]at b;have y:=hyd b;clear b hd t C g ho;go_wp2_with fail;apply(V9 s k _ a n _ hs rfl o).mono;rintro e w1 ⟨rfl,q,rfl⟩;go_wp2;go_roundw
  .exact⟨f,k+n,Qg,z.trans (YR _ _ _),y⟩
  simp[intOf];omega
 have I:((s[k].toNat:Int)==92)=false:=by rw[t];exact Yl g
 rw[dG g]at b;by_cases m:c=91
 .have M:((s[k].toNat:Int)==91)=true:=by rw[t,m];rfl
  rw[dF m]at b;rcases ho:Rf.set r k with _|⟨j,fa,inn⟩
  .rw[ho]at b;cases b
  have o:Rf.set (s.data.toList.drop (k+1)) k=some (j,fa,inn):=by rw[C];exact ho
  have T:=Rf.i7 ho;rw[ho]at b;have y:=hyd b;clear b hd t C g m ho;go_wp2_with fail;apply(NC s k _ j fa inn _ hs rfl o).mono;rintro e w1 ⟨rfl,J,F⟩;have A:=z.trans (F.mono z.size);clear o;go_wp2
  go_loop [7,8] (λn x=>∃l:Nat,l<=256/\x=I6 l/\n=I6 (Rf.i4 inn l)) (λ_ x=>256-(intOf x).toNat)
  .exact⟨0,Qo,rfl,rfl⟩
  obtain⟨l,P,rfl,rfl⟩:=hrel;have Q:=Rf.jz inn l;by_cases G:l<256
  .let⟨B,N⟩:=J l G;cases hin:inn l
   .rw[hin]at B;have D:Hid (Rf.i4 inn (l+1)=Rf.i4 inn l):=by show _=_;simp[Rf.i4,hin]
    clear hin;go_wp2
    go_round
    .exact⟨l+1,Qo,Qg,by rw[D.o]⟩
    simp[intOf];omega
   rw[hin]at B;have D:Hid (Rf.i4 inn (l+1)=Rf.i4 inn l+1):=by show _=_;simp[Rf.i4,hin]
   clear hin;go_wp2
   go_round
   .exact⟨l+1,Qo,Qg,by rw[D.o];go_num⟩
   simp[intOf];omega
  have u:l=256:=Qo
  subst u;by_cases h0:Rf.i4 inn 256=0
  .have E:((Rf.i4 inn 256:Int)==0)=true:=by simp[h0]
   have d:=y.o;rw[dF h0]at d;have p:Hid (some (k:Int)=some v):=d;clear d h0;go_wp2;go_ret;exact⟨Y2 (Zh p.o),A⟩
  have E:((Rf.i4 inn 256:Int)==0)=false:=by simp[h0]
  have d:=y.o;rw[dG h0]at d;have p:Hid (Rf.js s.data.toList f j=some v):=d;clear d h0;go_wp2;go_roundw
  .exact⟨f,j,rfl,A,p⟩
  simp[intOf];omega
 have H:((s[k].toNat:Int)==91)=false:=by rw[t];exact Yl m
 rw[dG m]at b;have y:=hyd b;clear b hd t C g m;go_wp2;go_roundw
 .exact⟨f,k+1,Qg,z,y⟩
 simp[intOf];omega
def QK(s:ByteArray)(k:Nat)(i:Int)(n:Nat)(w:World)(hs:s.size<=40)(z:i=k)(h:Rf.i0 s.data.toList k=some n):
  Cp 163 #[.string s,I6 i] w λe w'=>e=.returned (I6 n)/\w'=w:=by
 subst z;rcases hd:s.data.toList.drop k with _|⟨c,r⟩
 .simp[Rf.i0,hd]at h
 let⟨o,a,j⟩:=YT hd;simp only[Rf.i0,hd]at h;by_cases e:c=123
 .have l:((s[k].toNat:Int)==123)=true:=by rw[a,e];rfl
  rw[dF e]at h;clear hd a j e;go_enter func163,ntmps163;go_wp2
  go_loop [1] (λi=>∃(f d:Nat),i=I6 d/\Hid (Rf.i8 s.data.toList f d=some n)) (λi=>s.size-(intOf i).toNat)
  .exact⟨_,k,rfl,h⟩
  clear h;obtain⟨f,d,rfl,HS⟩:=hrel;rcases f with _|f
  .exact absurd HS.o (by simp[Rf.i8])
  have b:=HS.o;clear HS;rcases hd:s.data.toList.drop d with _|⟨c,r⟩
  .simp[Rf.i8,hd]at b
  let⟨m,a,j⟩:=YT hd;simp only[Rf.i8,hd]at b;by_cases e:c=125
  .have l:((s[d].toNat:Int)==125)=true:=by rw[a,e];rfl
   rw[dF e]at b;have g:=hyd b;clear b hd a j e;go_wp2;go_ret;exact⟨Y2 (by have:=Zh g.o;omega),rfl⟩
  have l:((s[d].toNat:Int)==125)=false:=by rw[a];exact Yl e
  rw[dG e]at b;have g:=hyd b;clear b hd a j e;go_wp2
  go_round
  .exact⟨f,d+1,Qg,g⟩
  simp[intOf];omega
 have l:((s[k].toNat:Int)==123)=false:=by rw[a];exact Yl e
 rw[dG e]at h;have g:=hyd h;clear hd a j e h;go_enter func163,ntmps163;go_wp2;go_ret;exact⟨Y2 (by have:=Zh g.o;omega),rfl⟩
def HJ(s:ByteArray)(n:Nat)(w:World)(hs:s.size<=40)(h:Rf.jw s.data.toList=some n):
  Cp 161 #[.string s] w λe w'=>e=.returned (I6 n)/\Bl w w':=by
 rcases hd:s.data.toList.drop 0 with _|⟨c,r⟩
 .rw[Zw]at hd;rw[hd]at h;cases h
 let⟨H,m,u⟩:=YT hd;have x:s.data.toList=c::r:=by rw[Zw]at hd;exact hd
 by_cases b:c=92
 .have z:((s[0].toNat:Int)==92)=true:=by rw[m,b];rfl
  have ⟨a,ho⟩:∃a,Rf.one (s.data.toList.drop 0)=some (a,n):=by
   rw[x]at h ⊢;simp only[Rf.jw,dF b,Zw]at h ⊢;rcases ho:Rf.one (c::r)with _|⟨a,n'⟩
   .rw[ho]at h;cases h
   rw[ho]at h;simp at h;subst h;exact⟨a,rfl⟩
  clear hd m u x b h;go_enter func161,ntmps161;go_wp2_with fail;apply(V9 s 0 _ a n _ hs rfl ho).mono;rintro e w1 ⟨rfl,q,rfl⟩;go_wp2;go_ret;exact⟨Y2 Qo,YR _ _ _⟩
 have C:((s[0].toNat:Int)==92)=false:=by rw[m];exact Yl b
 by_cases d:c=91
 .have z:((s[0].toNat:Int)==91)=true:=by rw[m,d];rfl
  have ⟨fa,inn,ho⟩:∃fa inn,Rf.set (s.data.toList.drop (0+1)) 0=some (n,fa,inn):=by
   rw[u];rw[x]at h;simp only[Rf.jw,dG b,dF d]at h;rcases ho:Rf.set r 0 with _|⟨n',fa,inn⟩
   .rw[ho]at h;cases h
   rw[ho]at h;simp at h;subst h;exact⟨fa,inn,rfl⟩
  clear hd m u x b h d;go_enter func161,ntmps161;go_wp2_with fail;apply(NC s 0 _ n fa inn _ hs rfl ho).mono;rintro e w1 ⟨rfl,I,v⟩;go_wp2;go_ret;exact⟨rfl,v⟩
 have B:((s[0].toNat:Int)==91)=false:=by rw[m];exact Yl d
 by_cases l:c=40
 .have z:((s[0].toNat:Int)==40)=true:=by rw[m,l];rfl
  have G:Rf.jg s.data.toList (r.length+2) 0 0=some n:=by
   rw[x]at h ⊢;simp only[Rf.jw,dG b,dG d,dF l]at h;exact h
  clear hd m u x b h d l;go_enter func161,ntmps161;go_wp2
  go_loopw [8,9] (λo i w'=>∃(f k:Nat) (op:Int),i=I6 k/\o=I6 op/\-(k:Int)<=op/\op<=k/\Bl w w'/\Hid (Rf.jg s.data.toList f k op=some n)) (λ_ i _=>s.size-(intOf i).toNat)
  .exact⟨_,0,0,rfl,rfl,Qo,Qo,Zk _ _,G⟩
  clear G;obtain⟨f,k,op,rfl,rfl,O,P,v,HS⟩:=hrel;rcases f with _|f
  .exact absurd HS.o (by simp[Rf.jg])
  have g:=HS.o;clear HS;rcases hd:s.data.toList.drop k with _|⟨c,r⟩
  .simp only[Rf.jg,hd,Zp]at g;have H:s.size<=k:=by simpa using hd
   have t:=hyd g;clear hd g;go_wp2;go_ret;exact⟨Y2 (by have:=t.o;omega),v⟩
  let⟨H,m,u⟩:=YT hd;simp only[Rf.jg,hd]at g;by_cases b:c=92
  .have z:((s[k].toNat:Int)==92)=true:=by rw[m,b];rfl
   rw[dF b]at g;rcases ho:Rf.one (c::r)with _|⟨a,n'⟩
   .rw[ho]at g;cases g
   have y:Rf.one (s.data.toList.drop k)=some (a,n'):=by rw[hd];exact ho
   let⟨J,K,M,N⟩:=Rf.jr ho;rw[ho]at g;have t:=hyd g;clear g hd m u b ho;go_wp2_with fail;apply(V9 s k _ a n' _ hs rfl y).mono;rintro e w1 ⟨rfl,q,rfl⟩;go_wp2;go_roundw
   .exact⟨f,k+n',op,Qg,rfl,Qo,Qo,v.trans (YR _ _ _),t⟩
   simp[intOf];omega
  have C:((s[k].toNat:Int)==92)=false:=by rw[m];exact Yl b
  rw[dG b]at g;by_cases d:c=91
  .have z:((s[k].toNat:Int)==91)=true:=by rw[m,d];rfl
   rw[dF d]at g;rcases ho:Rf.set r k with _|⟨j,fa,inn⟩
   .rw[ho]at g;cases g
   have y:Rf.set (s.data.toList.drop (k+1)) k=some (j,fa,inn):=by rw[u];exact ho
   have Q:=Rf.i7 ho;rw[ho]at g;have t:=hyd g;clear g hd m u b d ho;go_wp2_with fail;apply(NC s k _ j fa inn _ hs rfl y).mono;rintro e w1 ⟨rfl,I,E⟩;go_wp2;go_roundw
   .exact⟨f,j,op,rfl,rfl,Qo,Qo,v.trans (E.mono v.size),t⟩
   simp[intOf];omega
  have B:((s[k].toNat:Int)==91)=false:=by rw[m];exact Yl d
  rw[dG d]at g;by_cases l:c=40
  .have z:((s[k].toNat:Int)==40)=true:=by rw[m,l];rfl
   rw[dF l]at g;have t:=hyd g;clear g hd m u b d l;go_wp2;go_roundw
   .exact⟨f,k+1,op+1,Qg,rfl,Qo,Qo,v,t⟩
   simp[intOf];omega
  have A:((s[k].toNat:Int)==40)=false:=by rw[m];exact Yl l
  rw[dG l]at g;by_cases p:c=41
  .have z:((s[k].toNat:Int)==41)=true:=by rw[m,p];rfl
   rw[dF p]at g;by_cases h1:op-1=0
   .rw[dF h1]at g;have t:=hyd g;have D:((op-1)==0)=true:=Qp
    clear g hd m u b d l p h1;go_wp2;go_ret;exact⟨Y2 (by have:=Zh t.o;omega),v⟩
   rw[dG h1]at g;have t:=hyd g;have D:((op-1)==0)=false:=Qp
   clear g hd m u b d l p h1;go_wp2;go_roundw
   .exact⟨f,k+1,op-1,Qg,rfl,Qo,Qo,v,t⟩
   simp[intOf];omega
  have F:((s[k].toNat:Int)==41)=false:=by rw[m];exact Yl p
  rw[dG p]at g;have t:=hyd g;clear g hd m u b d l p;go_wp2;go_roundw
  .exact⟨f,k+1,op,Qg,rfl,Qo,Qo,v,t⟩
  simp[intOf];omega
 have A:((s[0].toNat:Int)==40)=false:=by rw[m];exact Yl l
 have L:n=1:=by
  rw[x]at h;simp only[Rf.jw,dG b,dG d,dG l,Zp]at h;exact h.symm
 subst L;clear hd m u x b h d l;go_enter func161,ntmps161;go_wp2;go_ret;exact⟨rfl,Zk _ _⟩
def PE(s:ByteArray)(n:Nat)(w:World)(hs:s.size<=40)(h:Rf.iV s.data.toList=some n):
  Cp 112 #[.string s] w λe w'=>e=.returned (I6 n)/\Bl w w':=by
 rcases ha:Rf.jw s.data.toList with _|n0
 .simp[Rf.iV,ha]at h
 simp only[Rf.iV,ha]at h;go_enter func112,ntmps112;go_wp2_with fail;apply(HJ s n0 _ hs ha).mono;rintro e w1 ⟨rfl,j⟩;clear ha;go_wp2
 go_loop [3] (λi=>∃(f k:Nat),i=I6 k/\Hid (Rf.jk s.data.toList f k=some n)) (λi=>s.size-(intOf i).toNat)
 .exact⟨_,n0,rfl,h⟩
 clear h;obtain⟨f,k,rfl,HS⟩:=hrel;rcases f with _|f
 .exact absurd HS.o (by simp[Rf.jk])
 have a:=HS.o;clear HS;rcases hd:s.data.toList.drop k with _|⟨c,r⟩
 .simp only[Rf.jk,hd,Zp]at a;have o:s.size<=k:=by simpa using hd
  have b:=hyd a;clear hd a;go_wp2;go_ret;exact⟨Y2 (by have:=b.o;omega),j⟩
 let⟨o,g,l⟩:=YT hd;simp only[Rf.jk,hd]at a;rw[<-g]at a;cases hh:Rf.has Rf.suffixes s[k].toNat
 .rw[hh]at a;have b:=hyd a;have d:=hyd hh;clear a hd g l hh;go_wp2_with fail;apply(Oe _ _ _ Qd).mono;rintro e w' ⟨rfl,rfl⟩;rw[show Rf.has (ByteArray.data { data:=#[42,43,63,123] }).toList ↑s[k].toNat=false from d.o];go_wp2;go_ret;exact⟨Y2 (by have:=Zh b.o;omega),j⟩
 rw[hh]at a;rcases hsf:Rf.i0 s.data.toList k with _|n'
 .rw[hsf]at a;simp at a
 rw[hsf]at a;have m:=Rf.jl hsf;have b:=hyd a;have d:=hyd hh;clear a hd g l hh;go_wp2_with fail;apply(Oe _ _ _ Qd).mono;rintro e w' ⟨rfl,rfl⟩;rw[show Rf.has (ByteArray.data { data:=#[42,43,63,123] }).toList ↑s[k].toNat=true from d.o];go_wp2_with fail;apply(QK s k _ n' _ hs rfl hsf).mono;rintro e w' ⟨rfl,rfl⟩;go_wp2
 go_round
 .exact⟨f,n',rfl,b⟩
 simp[intOf];omega
def TH(s:ByteArray)(a b:Nat):(s.extract a b).data.toList=(s.data.toList.take b).drop a:=by
 simp[ByteArray.data_extract,fP,fQ]
def Bv(s:ByteArray)(b:Nat):(s.extract 0 b).data.toList=s.data.toList.take b:=by
 rw[TH];rfl
def Sx(s:ByteArray)(a:Nat):(s.extract a s.size).data.toList=s.data.toList.drop a:=by
 rw[TH,fR (by simp)]
def WD(s:ByteArray)(a b:Nat)(h:s.size<=40):(s.extract a b).size<=40:=by
 simp[ByteArray.size_extract];omega
def Ub(s:ByteArray)(n:Nat)(w:World)(hs:s.size<=40)(h:Rf.split s.data.toList=some n):
  Cp 164 #[.string s] w λe w'=>e=.returned (.tuple #[.string (s.extract 0 n),.string (s.extract n s.size)])/\Bl w w':=by
 rcases ha:Rf.jw s.data.toList with _|n0
 .simp[Rf.split,ha]at h
 simp only[Rf.split,ha]at h;have h0:n0<=s.size:=by have:=(Rf.iY ha).2;simpa using this
 go_enter func164,ntmps164;go_wp2_with fail;refine(HJ s n0 _ hs ha).mono ?_;rintro e w1 ⟨rfl,d⟩;clear ha;go_wp2_with fail
 go_loop [4,5] (λi j=>∃(f k c:Nat),i=.int .i64 k/\j=.int .i64 c/\c<=s.size/\Hid (Rf.jy s.data.toList f k c=some n)) (λi _=>s.size-(intOf i).toNat)
 .exact⟨_,n0,n0,rfl,rfl,h0,h⟩
 clear h;obtain⟨f,k,c0,rfl,rfl,l,HS⟩:=hrel;rcases f with _|f
 .exact absurd HS.out (by simp[Rf.jy])
 have a:=HS.out;clear HS;rcases hd:s.data.toList.drop k with _|⟨c,r⟩
 .simp only[Rf.jy,hd,Zp]at a;have o:s.size<=k:=by simpa using hd
  subst a;have q:(0:Int)<=c0/\(c0:Int)<=(s.size:Int):=by omega
  clear hd;go_wp2_with fail
  go_quiet (fail)
  go_wp2_with fail;go_ret2;exact⟨rfl,d.trans (YR _ _ _)⟩
 obtain⟨o,g,p⟩:=YT hd;simp only[Rf.jy,hd]at a;rcases hsf:Rf.i0 s.data.toList k with _|n'
 .rw[hsf]at a;simp at a
 rw[hsf]at a;have m:=Rf.jl hsf;have b:=hyd a;clear a hd g p;go_wp2_with fail;refine(QK s k _ n' _ hs rfl hsf).mono ?_;rintro e w' ⟨rfl,rfl⟩;go_wp2_with fail
 go_round
 .exact⟨f,n',k,rfl,rfl,by omega,b⟩
 simp[intOf];omega
def FK(s:ByteArray)(m:Int)(w:World)(hs:s.size<=40)(h:Rf.most s.data.toList=some m):
  Cp 165 #[.string s] w λe w'=>∃l:Int,e=.returned (.tuple #[.int .i64 l,.int .i64 m])/\Bl w w':=by
 rcases hd:s.data.toList.drop 0 with _|⟨c,_|⟨x,_|⟨y,r⟩⟩⟩
 .rw[Zw]at hd;rw[hd]at h;simp[Rf.most]at h
 .rw[Zw]at hd;rw[hd]at h;simp[Rf.most]at h
 .rw[Zw]at hd;rw[hd]at h;simp[Rf.most]at h
 obtain⟨K,A,u⟩:=YT hd;obtain⟨p,g,j⟩:=YT u;obtain⟨q,i,k⟩:=YT j;rw[Zw]at hd;rw[hd]at h;simp only[Rf.most]at h;have B:=p;have C:=q;have d:=g;have a:=i;have L:(1:Int)<(s.size:Int):=by omega
 have M:(2:Int)<(s.size:Int):=by omega
 rw[<-d]at h;cases hdx:Rf.iT s[1].toNat
 .rw[hdx]at h;cases h
 rw[hdx,dF rfl]at h;have F:48<=(s[1].toNat:Int)/\(s[1].toNat:Int)<=57:=by simpa[Rf.iT]using hdx
 obtain⟨G,H⟩:=F;by_cases b:y=44
 .have E:((s[2].toNat:Int)==44)=true:=by rw[a,b];rfl
  rw[dF b]at h;rcases r with _|⟨z,O⟩
  .cases h
  obtain⟨t,n,v⟩:=YT k;have D:=t;have f:=n;have N:(3:Int)<(s.size:Int):=by omega
  simp only[<-f]at h;cases hdz:Rf.iT s[3].toNat
  .rw[hdz]at h;cases h
  rw[hdz,dF rfl]at h;have hz:48<=(s[3].toNat:Int)/\(s[3].toNat:Int)<=57:=by simpa[Rf.iT]using hdz
  obtain⟨I,J⟩:=hz;have o:=Zh h;subst o;clear hd A u g j i k d a h hdx b n v f hdz;go_enter func165,ntmps165;go_wp2_with fail
  go_quiet (fail)
  go_wp2_with fail;go_ret2;exact⟨_,rfl,YR _ _ _⟩
 have E:((s[2].toNat:Int)==44)=false:=by rw[a];exact Yl b
 rw[dG b]at h;have o:=Zh h;subst o;clear hd A u g j i k d a h hdx b;go_enter func165,ntmps165;go_wp2_with fail;go_ret2;exact⟨_,rfl,Zk _ _⟩
def E6(s:ByteArray)(k n:Nat):(s.extract k (k+n)).data.toList=(s.data.toList.drop k).take n:=by
 rw[TH,fQ];congr 1;omega
def Mn(f:Nat):Prop:=∀(s:ByteArray) (v:Int) (w:World),s.size<=40->Rf.cnt f true s.data.toList=some v ->
 Calls prog 51 #[.string s] w λe w'=>e=.returned (.int .i64 v)/\Below w.heap.size w w'
def JG(f:Nat):Prop:=∀(s:ByteArray) (v:Int) (w:World),s.size<=40->Rf.cnt f false s.data.toList=some v ->
 Calls prog 113 #[.string s] w λe w'=>e=.returned (.int .i64 v)/\Below w.heap.size w w'
def I3(f:Nat)(ih:∀g,g<f->JG g):Mn f:=by
 intro s v w hs h;have P:=Rf.jc h (by simpa using hs);go_enter func51,ntmps51;go_wp2
 go_loopw [3,4] (λn i w'=>∃(g k:Nat) (a b:Int),g<=f/\i=I6 k/\n=I6 a/\0<=a/\k<=s.size/\a+b=v/\Bl w w'/\Hid (Rf.cnt g true (s.data.toList.drop k)=some b)) (λ_ i _=>s.size-(intOf i).toNat)
 .exact⟨f,0,0,v,Zg _,rfl,rfl,Qo,Qo,Qo,Zk _ _,h⟩
 clear h;obtain⟨g,k,a,b,O,rfl,rfl,ha,I,l,p,HS⟩:=hrel;rcases g with _|g
 .exact absurd HS.o (by simp[Rf.cnt])
 have j:=HS.o;clear HS;rcases hd:s.data.toList.drop k with _|⟨c,r⟩
 .simp only[Rf.cnt,hd,Zp]at j;have H:s.size<=k:=by simpa using hd
  have u:Hid (a=v):=by show _=_;omega
  clear hd j l;go_wp2;go_ret;exact⟨Y2 u.o,p⟩
 let⟨H,q,D⟩:=YT hd;simp only[Rf.cnt,hd]at j;by_cases d:c=124
 .have m:((s[k].toNat:Int)==124)=true:=by rw[q,d];rfl
  rw[dF d,<-D]at j;have u:=hyd j;have t:=hyd l;clear j hd q D d l;go_wp2;go_roundw
  .exact⟨g,k+1,a,b,Qo,Qg,rfl,ha,Qo,t,p,u⟩
  simp[intOf];omega
 have m:((s[k].toNat:Int)==124)=false:=by rw[q];exact Yl d
 rw[dG d]at j;rcases hp:Rf.iV (c::r)with _|n
 .rw[hp]at j;cases j
 let⟨J,K⟩:=Rf.jb hp;rw[hp]at j;simp only at j;rcases hx:Rf.cnt g false ((c::r).take n)with _|x
 .rw[hx]at j;simp at j
 rcases hy:Rf.cnt g true ((c::r).drop n)with _|y
 .rw[hx,hy]at j;simp at j
 rw[hx,hy]at j;simp only[Zp]at j;have F:(c::r).length=s.size-k:=by rw[<-hd];simp
 have C:Rf.iV (s.extract k s.size).data.toList=some n:=by rw[Sx,hd];exact hp
 have E:Rf.cnt g false (s.extract k (k+n)).data.toList=some x:=by rw[E6,hd];exact hx
 have L:=Rf.jc hx (by rw[eE];omega);have M:=Rf.jc hy (by rw[dY];omega);have G:Hid (Rf.cnt g true (s.data.toList.drop (k+n))=some y):=by show _=_;rw[<-eC,hd];exact hy
 have t:Hid (a+x+y=v):=by show _=_;omega
 have N:a+x<=9094947017729282:=Qo
 have B:k+n<=s.size:=Qo
 clear j hd q D d l hp hx hy;go_wp2_with fail;apply(PE _ n _ (WD s _ _ hs) C).mono;rintro e w1 ⟨rfl,z⟩;go_wp2_with fail;apply(ih g Qo _ x _ (WD s _ _ hs) E).mono;rintro e w2 ⟨rfl,A⟩;go_wp2;go_roundw
 .have o:=p.trans (z.mono p.size);exact⟨g,k+n,a+x,y,Qo,Qg,rfl,Qo,B,t.o,o.trans (A.mono o.size),G⟩
 simp[intOf];omega
def ED(f:Nat)(ih:∀g,g<f->JG g)(Y:∀g,g<f->Mn g):JG f:=by
 intro s v w hs h;have P:=Rf.jc h (by simpa using hs);rcases f with _|f
 .simp[Rf.cnt]at h
 have L:=ih f Qo;have E:=Y f Qo;clear ih Y;simp only[Rf.cnt]at h;rcases hsp:Rf.split s.data.toList with _|a
 .rw[hsp]at h;cases h
 have q:=Rf.jf hsp;rw[hsp]at h;simp only at h;have M:a<=s.size:=by simpa using q
 rcases hd:s.data.toList.drop a with _|⟨u,K⟩
 .rw[hd]at h;have B:a=s.size:=by
    have:s.size<=a:=by simpa using hd
    omega
  subst B;rcases hl:s.data.toList.drop 0 with _|⟨c,r⟩
  .rw[Zw]at hl;rw[hl]at h;simp at h
  let⟨N,p,x⟩:=YT hl;rw[Zw]at hl;by_cases d:c=40
  .have G:((s[0].toNat:Int)==40)=true:=by rw[p,d];rfl
   rw[hl]at h;simp only[dF d]at h;have H:r.length=s.size-1:=by rw[<-x];simp
   by_cases y:r.length=0
   .rw[dF y]at h;cases h
   rw[dG y]at h;have t:Rf.cnt f true (s.extract 1 (s.size-1)).data.toList=some v:=by
    rw[TH,fQ,x,show s.size-1-1=r.length-1 by omega];exact h
   have h2:1<=s.size-1:=Qo
   clear hl p x h d hd q y H;go_enter func113,ntmps113;go_wp2_with fail;apply(Ub s _ _ hs hsp).mono;rintro e w1 ⟨rfl,k⟩;go_wp2_with fail;apply(E _ v _ (WD s _ _ hs) t).mono;rintro e w2 ⟨rfl,j⟩;go_wp2;go_ret;exact⟨rfl,k.trans (j.mono k.size)⟩
  have G:((s[0].toNat:Int)==40)=false:=by rw[p];exact Yl d
  rw[hl]at h;simp only[dG d,Zp]at h;subst h;clear hl p x d hd q;go_enter func113,ntmps113;go_wp2_with fail;apply(Ub s _ _ hs hsp).mono;rintro e w1 ⟨rfl,k⟩;go_wp2;go_ret;exact⟨rfl,k⟩
 let⟨N,p,x⟩:=YT hd;rw[hd]at h;simp only at h;rcases hx:Rf.cnt f false (s.data.toList.take a)with _|n
 .rw[hx]at h;cases h
 rw[hx]at h;simp only at h;have C:Rf.cnt f false (s.extract 0 a).data.toList=some n:=by rw[Bv];exact hx
 have i:(s.extract a s.size).data.toList=u::K:=by rw[Sx,hd]
 have J:0<(s.extract a s.size).size:=by
  have:(s.extract a s.size).data.toList.length=K.length+1:=by rw[i];rfl
  simp at this;simp;omega
 have o:(s.extract a s.size)[0]=u:=by
  have:=Qm (s.extract a s.size) 0 J;rw[this,i];rfl
 have I:(s.extract a s.size).size<=40:=WD s _ _ hs;have z:=hyd (Ub s a w hs hsp);generalize s.extract a s.size=ub at *;have O:ub.toList.isEmpty=false:=by rw[fS,i];rfl
 by_cases b:u=123
 .rw[dF b]at h;have G:((ub[0].toNat:Int)==123)=true:=by rw[o,b];rfl
  rcases t:Rf.most (u::K)with _|m
  .rw[t]at h;cases h
  rw[t]at h;simp only[dX,Zp]at h;let⟨Q,R,m2⟩:=Rf.ji t;rw[<-i]at t;have D:=hyd h;have nm:0<=n*m/\n*m<=9094947017729282:=by rw[h];exact P
  clear h o i hx hd p x b;go_enter func113,ntmps113;go_wp2_with fail;apply z.o.mono;rintro e w1 ⟨rfl,k⟩;go_wp2_with fail;apply(L _ n _ (WD s _ _ hs) C).mono;rintro e w2 ⟨rfl,j⟩;go_wp2_with fail;apply(FK ub m _ I t).mono;rintro e w3 ⟨l,rfl,F⟩;go_wp2;go_ret;have A:=k.trans (j.mono k.size);exact⟨Y2 D,A.trans (F.mono A.size)⟩
 rw[dG b]at h;have G:((ub[0].toNat:Int)==123)=false:=by rw[o];exact Yl b
 have D:=hyd (Zh h);clear h o i hx hd p x b;go_enter func113,ntmps113;go_wp2_with fail;apply z.o.mono;rintro e w1 ⟨rfl,k⟩;go_wp2_with fail;apply(L _ n _ (WD s _ _ hs) C).mono;rintro e w2 ⟨rfl,j⟩;go_wp2;go_ret;exact⟨Y2 D,k.trans (j.mono k.size)⟩
def N9:∀f:Nat,Mn f/\JG f:=by
 intro f
 induction f using Nat.strongRecOn with
 |ind f ih=>exact⟨I3 f (λg a=>(ih g a).2),ED f (λg a=>(ih g a).2) (λg a=>(ih g a).1)⟩
def PV(s:ByteArray)(e a:Int)(w:World)(z:s.size<=maxLen)(h:Rf.iW s.data.toList e a):
  Cp 50 #[.string s] w λe' w'=>e'=.returned (.tuple #[I6 e,I6 a])/\Bl w w':=by
 unfold maxLen at z;rcases h with ⟨k,rfl,rfl⟩|⟨k,h⟩
 .have r:40<s.size:=by simpa using k
  go_enter func50,ntmps50;go_wp2;go_ret2;exact⟨rfl,Zk _ _⟩
 have hs:s.size<=40:=by simpa using k
 rcases h with ⟨q,rfl,rfl⟩|⟨q,h⟩
 .go_enter func50,ntmps50;go_wp2_with fail;apply(Ql s _ hs).mono;rintro e w1 ⟨rfl,b⟩;go_wp2;go_ret2;exact⟨rfl,b⟩
 rcases h with ⟨p,rfl,rfl⟩|⟨p,f,v,o,h⟩
 .go_enter func50,ntmps50;go_wp2_with fail;apply(Ql s _ hs).mono;rintro e w1 ⟨rfl,b⟩;go_wp2_with fail;apply(MD s _ hs).mono;rintro e w2 ⟨rfl,c⟩;go_wp2;go_ret2;exact⟨rfl,b.trans (c.mono b.size)⟩
 rcases h with ⟨m,rfl,rfl⟩|⟨m,g,u,t,h⟩
 .go_enter func50,ntmps50;go_wp2_with fail;apply(Ql s _ hs).mono;rintro e w1 ⟨rfl,b⟩;go_wp2_with fail;apply(MD s _ hs).mono;rintro e w2 ⟨rfl,c⟩;have i:=b.trans (c.mono b.size);go_wp2_with fail;apply(LA s _ f _ hs o).mono;rintro e w3 ⟨rfl,d⟩;go_wp2;go_ret2;exact⟨rfl,i.trans (d.mono i.size)⟩
 rcases h with ⟨l,rfl,rfl⟩|⟨l,rfl,rfl⟩
 all_goals
  go_enter func50,ntmps50;go_wp2_with fail;apply(Ql s _ hs).mono;rintro e w1 ⟨rfl,b⟩;go_wp2_with fail;apply(MD s _ hs).mono;rintro e w2 ⟨rfl,c⟩;have i:=b.trans (c.mono b.size);go_wp2_with fail;apply(LA s _ f _ hs o).mono;rintro e w3 ⟨rfl,d⟩;have n:=i.trans (d.mono i.size);go_wp2_with fail;apply(DR s _ g _ hs t).mono;rintro e x ⟨rfl,j⟩;go_wp2;go_ret2;exact⟨rfl,n.trans (j.mono n.size)⟩
def Ku(ad:Option Addr)(len cap:Nat)(w:World)(z:len<=maxLen)(h:len=0\/8<len):
  Cp 26 #[.slice ad len cap] w λe' w'=>e'=.returned (.tuple #[I6 1,I6 0,I6 0])/\w'=w:=by
 unfold maxLen at z;rcases h with h|h
 .subst h;go_enter func26,ntmps26;go_wp2;go_ret3;exact⟨rfl,rfl⟩
 have h0:((len:Int)==0)=false:=Qp
 go_enter func26,ntmps26;go_wp2;go_ret3;exact⟨rfl,rfl⟩
def RL(b off:Nat)(f:Nat->ByteArray)(n:Nat)(w:World):Prop:=∀i,i<n->w.cell? ⟨b,off+i,none⟩=some (.string (f i))
def RL.below{z:Nat}{f:Nat->ByteArray}(h:RL b z f n w)(J:b<B)(H:Below B w w'):RL b z f n w':=λi a=>by
 rw[H.cell (p:=(a_ b (z+i))) J];exact h i a
def JD(f:Nat->ByteArray)(n:Nat)(e r a:Int):Prop:=
 (∃i:Nat,i<n/\(∀j,j<i->Rf.iW (f j).data.toList 0 0)/\Rf.iW (f i).data.toList e a/\e≠0/\r=i) \/
 ((∀j,j<n->Rf.iW (f j).data.toList 0 0/\(f j).size<=40)/\r=0/\a=0 /\
  ∃vs:Nat->Int,(∀j,j<n->∃g,Rf.cnt g true (f j).data.toList=some (vs j))/\e=if 96<X8 vs n then 7 else 0)
def Pb(b Y cap n:Nat)(f:Nat->ByteArray)(e r a:Int)(w:World)(h1:1<=n)(h8:n<=8)(Z:b<w.heap.size)(hm:∀i,i<n->(f i).size<=maxLen)(hr:RL b Y f n w)(h:JD f n e r a):
  Cp 26 #[.slice (some (a_ b Y)) n cap] w λe' w'=>e'=.returned (.tuple #[I6 e,I6 r,I6 a])/\Bl w w':=by
 have Q:((n:Int)==0)=false:=dU.2 Qo;have y:=hyd hm;have z:=hyd hr;rcases h with ⟨J,D,q,I,O,rfl⟩|⟨q,rfl,rfl,vs,u,rfl⟩
 .have l:=hyd q;have B:=hyd I;have R:(e==0)=false:=by simpa using O
  go_enter func26,ntmps26;go_wp2
  go_loopw [5] (λi w'=>∃k:Nat,k<=J/\i=I6 k/\Bl w w') (λi _=>9-(intOf i).toNat)
  .exact⟨0,Qo,rfl,Zk _ _⟩
  obtain⟨k,K,rfl,p⟩:=hrel;have o:=z.o.below Z p k Qo;by_cases G:k=J
  .subst G;go_wp2_with fail;apply(PV (f k) e a _ (y k D) B).mono;rintro e' w1 ⟨rfl,d⟩;go_wp2;go_ret3;exact⟨rfl,p.trans (d.mono p.size)⟩
  have E:k<J:=Qo
  go_wp2_with fail;apply(PV (f k) 0 0 _ (y k Qo) (l k E)).mono;rintro e' w1 ⟨rfl,d⟩;go_wp2;go_roundw
  .exact⟨k+1,Qo,Qg,p.trans (d.mono p.size)⟩
  simp[intOf];omega
 have l:=hyd q;have A:=hyd u;have C:∀k,k<=n->0<=X8 vs k/\X8 vs k<=9094947017729282*k:=by
  intro k
  induction k with
  |zero=>intro _;simp[X8]
  |succ k ih=>
   intro K;have:=ih Qo;let⟨g,v⟩:=u k Qo;have h2:=Rf.jc v (by have:=(q k Qo).2;simpa using this);simp only[X8];omega
 have t:=hyd C;go_enter func26,ntmps26;go_wp2
 go_loopw [5] (λi w'=>∃k:Nat,k<=n/\i=I6 k/\Bl w w') (λi _=>9-(intOf i).toNat)
 .exact⟨0,Qo,rfl,Zk _ _⟩
 obtain⟨k,K,rfl,p⟩:=hrel;by_cases s:k<n
 .have o:=z.o.below Z p k s;go_wp2_with fail;apply(PV (f k) 0 0 _ (y k s) (l k s).1).mono;rintro e' w1 ⟨rfl,d⟩;go_wp2;go_roundw
  .exact⟨k+1,Qo,Qg,p.trans (d.mono p.size)⟩
  simp[intOf];omega
 go_wp2
 go_loopw [8,9] (λx i w'=>∃k:Nat,k<=n/\i=I6 k/\x=I6 (X8 vs k)/\Bl w w') (λ_ i _=>9-(intOf i).toNat)
 .exact⟨0,Qo,rfl,rfl,p⟩
 obtain⟨j,F,rfl,rfl,m⟩:=hrel;have M:=t.o j F;by_cases c:j<n
 .have o:=z.o.below Z m j c;have N:=t.o (j+1) c;let⟨g,v⟩:=A.o j c;have P:=Rf.jc v (by have:=(l j c).2;simpa using this);have HS:Hid (X8 vs (j+1)=X8 vs j+vs j):=rfl;go_wp2_with fail;apply((N9 g).1 (f j) (vs j) _ (l j c).2 v).mono;rintro e' w1 ⟨rfl,d⟩;go_wp2;go_roundw
  .exact⟨j+1,Qo,Qg,by rw[HS.o],m.trans (d.mono m.size)⟩
  simp[intOf];omega
 have H:j=n:=Qo
 subst H;by_cases L:96<X8 vs j
 .go_wp2;go_ret3;exact⟨by first|rfl|rw[p_],m⟩
 go_wp2;go_ret3;exact⟨by first|rfl|rw[g_],m⟩
def tx(ts:List Tq):List UInt8:=XW (ts.map Tq.t)
def UX(a b:List Tq):tx (a++b)=tx a++tx b:=by simp[tx,XT]
def Sk(a:Tq)(b:List Tq):tx (a::b)=a.t.w++tx b:=by simp[tx,XN]
def KP:tx []=[]:=rfl
def QL(L:List (List Tq × Rx))(x:List Tq × Rx):tx (((x::L).map (·.1)).flatten)=tx x.1++tx ((L.map (·.1)).flatten):=by simp[UX]
variable {ts:List Tq}{e:Rx}
def Fk{f:Nat}(h:Pp f 0 ts e):(∀q∈ts,UC q)/\∃F,Is F false (ts.map Tq.t) e.sz/\∃q r,ts=q::r/\(q.t.kd=1\/q.t.kd=2):=by
 let⟨h1,F,h0,_,_⟩:=Sq f 0 ts e h;exact⟨h1,F,h0 rfl⟩
def Kh{f:Nat}(h:Pp f 0 ts e):∃c w,tx ts=c::w/\c≠124/\QJ c=false:=by
 obtain⟨h0,F,h1,q,r,rfl,g⟩:=Fk h;have a:=h0 q Qs;let⟨c,w,d,hs,b,_⟩:=WS a.1;refine⟨c,w++tx r,by rw[Sk,d];rfl,λe=>by have:=b.1 e;omega,?_⟩;cases hsb:QJ c
 .rfl
 have:=hs.1 hsb;unfold X3 at this;omega
def I4{f:Nat}(h:Pp f 0 ts e)(r:List UInt8)(z:∀c r',r=c::r'->QJ c=false):Rf.iV (tx ts++r)=some (tx ts).length:=by
 let⟨_,F,h1,_⟩:=Fk h;let⟨base,a,b,e2,j,g⟩:=Vv F _ _ h1;have k:=Oq (λi d=>(e2 i d).1);unfold tx;have ha:Rf.jw (XW (ts.map Tq.t)++r)=some base.length:=by rw[b,Zs];exact g _
 rw[Rf.iV,ha];simp only;rw[Nj a e2 _ base.length _ r (by rw[b,Zs,eL]) z (by rw[Zl,b,Zl];omega),b,Zl]
def CE{f:Nat}(h:Pp f 0 ts e){t:Tq}(z:UC t)(hs:X3 t.t):Rf.split (tx ts++t.t.w)=some (tx ts).length:=by
 let⟨_,F,h1,_⟩:=Fk h;let⟨base,a,b,e2,k,g⟩:=Vv F _ _ h1;let⟨c,w,i,_⟩:=WS z.1;have l:=Oq (λj d=>(e2 j d).1);unfold tx;have ha:Rf.jw (XW (ts.map Tq.t)++t.t.w)=some base.length:=by rw[b,Zs];exact g _
 rw[Rf.split,ha];simp only;rw[NG a e2 t.t z.1 hs _ base.length base.length _ (by rw[b,Zs,eL]) (by rw[Zl,i,b,Zl,dZ];omega),b,Zl]
def J3{t:Tq}(z:UC t)(H:t.t.kd=1):Rf.split t.t.w=some t.t.w.length:=by
 have h2:=z.1;have g:PZ t.t.w:=by
  rcases h2 with h|h|h|h|h|h|h|h
  all_goals first|(exact absurd h.1 Qo)|exact h.2
 have f:Rf.jw t.t.w=some t.t.w.length:=by
  rcases g with ⟨c,d,hs⟩|⟨e,v0,d,a⟩|⟨e,d,b⟩
  .unfold SW at hs;rw[d,Rf.jw]
   (try simp only)
   rw[dG (λe=>hs (by simp[e])),dG (λe=>hs (by simp[e])),dG (λe=>hs (by simp[e]))];rfl
  .have:=a [];rw[dv]at this;rw[d,Rf.jw];simp only[dB];rw[this];rfl
  let⟨fa,inn,hs⟩:=b [] 0;rw[dv]at hs;rw[d,Rf.jw];simp only;rw[dG Qd,dF trivial,hs];simp
 rw[Rf.split,f];simp only;rw[Rf.jy,eQ]
def yQ{a:Tq}(h:UC a)(z:a.t.kd=2):a.t.w=[40]:=by
 rcases h.1 with h|h|h|h|h|h|h|h
 all_goals first|(exact absurd h.1 Qo)|exact h.2
def yX{a:Tq}(h:UC a)(z:a.t.kd=3):a.t.w=[41]:=by
 rcases h.1 with h|h|h|h|h|h|h|h
 all_goals first|(exact absurd h.1 Qo)|exact h.2
def xY{a:Tq}(h:UC a)(z:a.t.kd=4):a.t.w=[124]:=by
 rcases h.1 with h|h|h|h|h|h|h|h
 all_goals first|(exact absurd h.1 Qo)|exact h.2
def Iy{f:Nat}{inn:List Tq}(h:Pp f 2 inn e):Rf.split (40::(tx inn++[41]))=some (40::(tx inn++[41])).length:=by
 let⟨_,F,_,_,h2⟩:=Sq f 2 inn e h;have g:=h2 (Zg _);let⟨C,c1,c2⟩:=xF F true _ _ g;have b:Rf.jw (40::(XW (inn.map Tq.t)++[41]))=some (40::(XW (inn.map Tq.t)++[41])).length:=by
  rw[Rf.jw];simp only;rw[dG Qd,dG Qd,dF trivial,Rf.jg,Zw];simp only;rw[dG Qd,dG Qd,dF trivial];have d:(XW (inn.map Tq.t)++[41]).length=(XW (inn.map Tq.t)).length+1:=Qs
  obtain⟨v,i⟩:∃v,(XW (inn.map Tq.t)++[41]).length+1=(v+1)+C:=⟨(XW (inn.map Tq.t)).length+1-C,Qo⟩;have a:(40::(XW (inn.map Tq.t)++[41])).drop (0+1)=XW (inn.map Tq.t)++[41]:=Qs
  have c:(40::(XW (inn.map Tq.t)++[41])).drop (0+1+(XW (inn.map Tq.t)).length)=[41]:=by rw[<-YU,a,eL]
  rw[i,c2 _ _ (v+1) (0+1) [41] Qo a,Rf.jg,c];simp only;rw[dG Qd,dG Qd,dG Qd,dF trivial,dF Qd];simp;omega
 unfold tx;rw[Rf.split,b];simp only;rw[Rf.jy,eQ]
def Kj{f:Nat}(h:Pp f 0 ts e):∃G,Rf.cnt G false (tx ts)=some (e.sz:Int):=by
 let⟨_,F,h1,_⟩:=Fk h;let⟨G,a⟩:=Bn F false _ _ h1;exact⟨0+G,a 0⟩
def Rf.rowFrom(p:List UInt8):Nat->Nat->Option Nat
 |0,_=>none
 |f+1,n=>
  match p.drop n with
  |[]=>some n
  |c::r=>
   if c=124 then some n
   else match Rf.iV (c::r)with
    |none=>none
    |some k=>Rf.rowFrom p f (n+k)
def EU(r:List UInt8):Prop:=∀c r',r=c::r'->QJ c=false
def MN{f:Nat}{L:List (List Tq × Rx)}(h:∀x∈L,Pp f 0 x.1 x.2){r:List UInt8}(z:EU r):EU (tx ((L.map (·.1)).flatten)++r):=by
 rcases L with _|⟨x,L⟩
 .simpa[tx,XW]using z
 let⟨c,w,a,_,hs⟩:=Kh (h x Qs);rw[QL,a];intro b d e;simp only[Zt]at e;injection e with e1 e2;rw[<-e1];exact hs
def DB{r:List UInt8}(h:∀c r',r=c::r'->c=124):EU r:=λc r' e=>by rw[h c r' e];decide
def yV{f:Nat}:∀(L:List (List Tq × Rx)),(∀x∈L,Pp f 0 x.1 x.2)->∀(p:List UInt8) (i g:Nat) (r:List UInt8),p.drop i=tx ((L.map (·.1)).flatten)++r->(∀c r',r=c::r'->c=124)->L.length<g->Rf.rowFrom p g i=some (i+(tx ((L.map (·.1)).flatten)).length):=by
 intro L
 induction L with
 |nil=>
  intro _ p i g r a d k;obtain⟨g,rfl⟩:∃q,g=q+1:=⟨g-1,Qo⟩;simp only[eJ,List.flatten_nil,KP,dz,eO,eP]at a ⊢;rw[Rf.rowFrom,a];rcases r with _|⟨c,r'⟩
  .rfl
  simp only[d c r' rfl,dB]
 |cons x L ih=>
  intro h p i g r a d k;obtain⟨g,rfl⟩:∃q,g=q+1:=⟨g-1,Qo⟩;have n:=h x Qs;let⟨c,w,m,o,_⟩:=Kh n;rw[QL,Zs]at a;have l:=I4 n _ (MN (L:=L) (λy j=>h y (by simp[j])) (DB d));have e:p.drop (i+(tx x.1).length)=tx ((L.map (·.1)).flatten)++r:=by rw[<-YU,a,eL]
  have b:=a;rw[m,Zt]at b l;rw[Rf.rowFrom,b];simp only[dG o,l];rw[show(c::w).length=(tx x.1).length by rw[m],ih (λy j=>h y (by simp[j])) p _ g r e d (by simp at k;omega),QL,Zl,ZN]
def Ki{f:Nat}(h:Pp f 0 ts e):1<=(tx ts).length:=by
 let⟨c,w,a,_⟩:=Kh h;rw[a];simp
def Pv{f:Nat}:∀ {L:List (List Tq × Rx)},(∀x∈L,Pp f 0 x.1 x.2)->L.length<=(tx ((L.map (·.1)).flatten)).length
 |[],_=>Qs
 |x::L,h=>by
  have:=Pv (L:=L) (λy a=>h y (by simp[a]));have:=Ki (h x Qs);rw[QL,Zl,dZ];omega
def Ax(s:ByteArray)(n g:Nat)(w:World)(hs:s.size<=40)(h:Rf.rowFrom s.data.toList g 0=some n):
  Cp 146 #[.string s] w λe w'=>e=.returned (I6 n)/\Bl w w':=by
 go_enter func146,ntmps146;go_wp2
 go_loopw [3] (λi w'=>∃(g k:Nat),i=I6 k/\k<=s.size/\Bl w w'/\Hid (Rf.rowFrom s.data.toList g k=some n)) (λi _=>s.size-(intOf i).toNat)
 .exact⟨g,0,rfl,Qo,Zk _ _,h⟩
 clear h;obtain⟨g,k,rfl,z,o,HS⟩:=hrel;rcases g with _|g
 .exact absurd HS.o (by simp[Rf.rowFrom])
 have b:=HS.o;clear HS;rcases hd:s.data.toList.drop k with _|⟨c,r⟩
 .simp only[Rf.rowFrom,hd,Zp]at b;have x:s.size<=k:=by simpa using hd
  have j:Hid ((k:Int)=(n:Int)):=by show _=_;omega
  clear hd b;go_wp2;go_ret;exact⟨Y2 j.o,o⟩
 let⟨x,l,v⟩:=YT hd;simp only[Rf.rowFrom,hd]at b;by_cases a:c=124
 .have d:((s[k].toNat:Int)==124)=true:=by rw[l,a];rfl
  have f:((s[k].toNat:Int) != 124)=false:=by rw[l,a];rfl
  rw[dF a,Zp]at b;have j:Hid ((k:Int)=(n:Int)):=by show _=_;omega
  clear b hd l v a;go_wp2;go_ret;exact⟨Y2 j.o,o⟩
 have d:((s[k].toNat:Int)==124)=false:=by rw[l];exact Yl a
 have f:((s[k].toNat:Int) != 124)=true:=by simp only[bne,d];rfl
 rw[dG a]at b;rcases hp:Rf.iV (c::r)with _|m
 .rw[hp]at b;cases b
 let⟨A,B⟩:=Rf.jb hp;rw[hp]at b;simp only at b;have u:(c::r).length=s.size-k:=by rw[<-hd];simp
 have t:Rf.iV (s.extract k s.size).data.toList=some m:=by rw[Sx,hd];exact hp
 have j:=hyd b;have y:k+m<=s.size:=Qo
 clear b hd l v a hp;go_wp2_with fail;apply(PE _ m _ (WD s _ _ hs) t).mono;rintro e w1 ⟨rfl,p⟩;have q:=o.trans (p.mono o.size);go_wp2;go_roundw
 .exact⟨g,k+m,Qg,Qo,q,j⟩
 simp[intOf];omega
def Ii(s:ByteArray)(m le:Int)(w:World)(hs:s.size<=40)(h:Rf.most s.data.toList=some m)(Y:xS s.data.toList le):
  Cp 165 #[.string s] w λe w'=>e=.returned (.tuple #[I6 le,I6 m])/\Bl w w':=by
 let⟨M,S,f,I,J,k⟩:=Y;rcases hd:s.data.toList.drop 0 with _|⟨c,_|⟨x,_|⟨y,r⟩⟩⟩
 .rw[Zw]at hd;rw[hd]at h;simp[Rf.most]at h
 .rw[Zw]at hd;rw[hd]at h;simp[Rf.most]at h
 .rw[Zw]at hd;rw[hd]at h;simp[Rf.most]at h
 let⟨N,D,v⟩:=YT hd;let⟨q,i,l⟩:=YT v;let⟨t,j,n⟩:=YT l;rw[Zw]at hd;rw[hd]at h f;simp only[Rf.most]at h;have E:=q;have F:=t;have a:=i;have b:=j;have B:M=s[1]:=by
  rw[a];injection f with _ e;injection e with e _;exact e.symm
 subst B;have O:(1:Int)<(s.size:Int):=Qo
 have P:(2:Int)<(s.size:Int):=Qo
 rw[<-a]at h;cases hdx:Rf.iT s[1].toNat
 .rw[hdx]at h;cases h
 rw[hdx,dF rfl]at h;have C:=hyd k;by_cases d:y=44
 .have H:((s[2].toNat:Int)==44)=true:=by rw[b,d];rfl
  rw[dF d]at h;rcases r with _|⟨z,R⟩
  .cases h
  let⟨u,o,A⟩:=YT n;have G:=u;have g:=o;have Q:(3:Int)<(s.size:Int):=Qo
  simp only[<-g]at h;cases hdz:Rf.iT s[3].toNat
  .rw[hdz]at h;cases h
  rw[hdz,dF rfl]at h;have hz:48<=(s[3].toNat:Int)/\(s[3].toNat:Int)<=57:=by simpa[Rf.iT]using hdz
  let⟨K,L⟩:=hz;have p:=Zh h;subst p;clear hd D v i l j n a b h hdx d o A g hdz f k;go_enter func165,ntmps165;go_wp2
  go_quiet (fail)
  go_wp2;go_ret2;rw[C.o];exact⟨rfl,YR _ _ _⟩
 have H:((s[2].toNat:Int)==44)=false:=by rw[b];exact Yl d
 rw[dG d]at h;have p:=Zh h;subst p;clear hd D v i l j n a b h hdx d f k;go_enter func165,ntmps165;go_wp2;go_ret2;rw[C.o];exact⟨rfl,Zk _ _⟩
