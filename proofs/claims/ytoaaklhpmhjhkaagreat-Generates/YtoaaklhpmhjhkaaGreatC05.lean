import Derived.WalkSpells
import Derived.WalkLawsBesides
import Derived.Deep.QuietTactic
import Derived.BigQuiet
import Derived.Deep.RegionHeld3
import Derived.Test.YtoaaklhpmhjhkaaGreatSp
import Derived.Test.YtoaaklhpmhjhkaaGreatC01
set_option maxRecDepth 100000
set_option maxHeartbeats 4000000
set_option linter.all false
namespace Go.Proofs.YtoaaklhpmhjhkaaGreat
open Go.RowKit
theorem Uj (c : Int) (w : World) :
  Cp 188 #[.int .u8 c] w λe w' => e = .returned (.bool (Rf.digit c)) /\ w' = w := by
 go_enter Tryz.func188, Tryz.ntmps188
 go_wp2
 all_goals
  go_ret;refine ⟨YN ?_, rfl⟩
  first|(simp [Rf.digit, *]; done)|(simp [Rf.digit, *]; omega)
theorem Im (c : Int) (w : World) :
  Cp 187 #[.int .u8 c] w λe w' => e = .returned (.bool (Rf.hex c)) /\ w' = w := by
 go_enter Tryz.func187, Tryz.ntmps187;go_wp2_with fail;refine (Uj c _).mono ?_;rintro e w' ⟨rfl, rfl⟩;go_wp2
 all_goals
  go_ret;refine ⟨YN ?_, rfl⟩
  first|(simp [Rf.hex, *]; done)|(simp [Rf.hex, *]; omega)
theorem Pf (s:ByteArray) (c:Int) (w:World) (hs:s.size<=1000):
  Cp 162 #[.string s,.int .u8 c] w λe w'=>e=.returned (.bool (Rf.has s.data.toList c))/\w'=w:=by
 go_enter Tryz.func162,Tryz.ntmps162
 go_wp2
 go_loop [5] (λi=>∃k:Nat,k<=s.size/\i=I6 k/\Hid (Rf.has s.data.toList c=Rf.has (s.data.toList.drop k) c)) (λi=>s.size-(intOf i).toNat)
 ·exact⟨0,Nat.zero_le _,rfl,rfl⟩
 obtain⟨k,h,rfl,HS⟩:=hrel;by_cases b:k<s.size
 ·have g:=Sp s k b;have d:=hyd g;by_cases f:((s[k].toNat:Int)==c)=true
  ·go_wp2
   go_ret;refine⟨YN ?_,rfl⟩;rw[HS.out,d.out];simp[Rf.has,f]
  have a:((s[k].toNat:Int)==c)=false:=by simpa using f
  go_wp2
  go_round
  ·exact⟨k+1,by omega,by go_num,by show _=_;rw[HS.out,d.out];simp[Rf.has,a]⟩
  simp[intOf];omega
 go_wp2
 go_ret;refine⟨YN ?_,rfl⟩;rw[HS.out,List.drop_eq_nil_of_le (by simp;omega)];rfl
theorem I7 (c:Int) (w:World) (h0:0<=c) (h1:c<256) (y:Rf.hex c=true):
  Cp 190 #[.int .u8 c] w λe w'=>e=.returned (I6 (Rf.number c))/\w'=w:=by
 cases hd:Rf.digit c
 ·have a:97<=c/\c<=102:=by simp[Rf.hex,hd]at y;exact y
  go_enter Tryz.func190,Tryz.ntmps190;go_wp2_with fail;refine(Uj c _).mono ?_;rintro e w' ⟨rfl,rfl⟩;go_wp2;go_ret;refine⟨YY ?_,rfl⟩;simp[Rf.number,hd]
 have a:48<=c/\c<=57:=by simp[Rf.digit]at hd;exact hd
 go_enter Tryz.func190,Tryz.ntmps190;go_wp2_with fail;refine(Uj c _).mono ?_;rintro e w' ⟨rfl,rfl⟩;go_wp2;go_ret;refine⟨YY ?_,rfl⟩;simp[Rf.number,hd]
structure Rd (b:Nat) (m bk o:Int) (w:World):Prop where
 c0:w.cell? ⟨b,0,none⟩=some (.int .i64 m)
 c1:w.cell? ⟨b,1,none⟩=some (.int .i64 bk)
 c2:w.cell? ⟨b,2,none⟩=some (.int .i64 o)
 f0:w.frozen? ⟨b,0,none⟩=false
 f1:w.frozen? ⟨b,1,none⟩=false
 f2:w.frozen? ⟨b,2,none⟩=false
variable {a' b' bk:Int}{B b g n:Nat}{f f':N_}{w w':World}
theorem Rd.set0 {m o:Int} (h:Rd b m bk o w) (x:Int):Rd b x bk o (w.setCell (a_ b 0) (I6 x)):=by
 obtain⟨c0,c1,c2,a,c,d⟩:=h;refine⟨?_,?_,?_,?_,?_,?_⟩<;>go_simp
theorem Rd.set1 {m o:Int} (h:Rd b m bk o w) (x:Int):Rd b m x o (w.setCell (a_ b 1) (I6 x)):=by
 obtain⟨c0,c1,c2,a,c,d⟩:=h;refine⟨?_,?_,?_,?_,?_,?_⟩<;>go_simp
theorem Rd.set2 {m o:Int} (h:Rd b m bk o w) (x:Int):Rd b m bk x (w.setCell (a_ b 2) (I6 x)):=by
 obtain⟨c0,c1,c2,a,c,d⟩:=h;refine⟨?_,?_,?_,?_,?_,?_⟩<;>go_simp
theorem Rd.drew {m o:Int} (h:Rd b m bk o w):Rd b m bk o w.drew:=⟨h.c0,h.c1,h.c2,h.f0,h.f1,h.f2⟩
theorem Yp (w:World) (b k:Nat) (v:Value):Below b w (w.setCell (a_ b k) v):=
 (Zk b w).setCell (p:=(a_ b k)) (Zg b) v
def SM (b:Nat) (w:World) (x:Rf.RS) (e:Ending) (w':World):Prop:=e=.returned (.bool x.ok)/\Rd b x.m x.bk x.o w'/\Below b w w'
theorem XM (b:Nat) (m bk o:Int) (ok:Bool) (y:Int) (w:World) (h:Rd b m bk o w):
  Cp 186 #[pT b,.bool ok,I6 y] w (SM b w (Rf.to m bk o ok y)):=by
 cases ok
 ·go_enter Tryz.func186,Tryz.ntmps186
  go_wp2
  go_ret;exact⟨rfl,h,Zk _ _⟩
 have a:=h.set0 y;obtain⟨c0,c1,c2,c,d,e⟩:=h;go_enter Tryz.func186,Tryz.ntmps186
 go_wp2
 go_ret;exact⟨rfl,a,Yp _ _ _ _⟩
theorem Un (b:Nat) (m bk o:Int) (c y:Int) (w:World) (h:Rd b m bk o w):
  Cp 202 #[pT b,.int .u8 c,I6 y] w (SM b w (Rf.inner m bk o c y)):=by
 by_cases a:c=92
 ·subst a;have d:=(h.set1 y).set0 2;obtain⟨c0,c1,c2,g,i,j⟩:=h;go_enter Tryz.func202,Tryz.ntmps202
  go_wp2
  go_ret;exact⟨rfl,d,(Yp _ _ _ _).trans (Yp _ _ _ _)⟩
 have k:(c==92)=false:=by simpa using a
 have f:Rf.inner m bk o c y=Rf.to m bk o (!Rf.has Rf.notInner c) y:=by unfold Rf.inner;rw[if_neg a]
 rw[f];go_enter Tryz.func202,Tryz.ntmps202;go_wp2_with fail;refine(Pf _ c _ (by decide)).mono ?_;rintro e w' ⟨rfl,rfl⟩;go_wp2_with fail;refine(XM b m bk o _ y _ h).mono ?_;rintro e w1 ⟨rfl,h1,h2⟩;go_wp2;go_ret;exact⟨rfl,h1,h2⟩
theorem KA (b : Nat) (m bk o : Int) (c : Int) (w : World) (h : Rd b m bk o w) (y : -1000 <= o) (z : o <= 1000) :
  Cp 203 #[.pointer (some ⟨b, 0, none⟩), .int .u8 c] w (SM b w (Rf.outside m bk o c)) := by
 have h1 := h.set1 1;have h2 := h.set2 (o + 1);have h3 := h.set2 (o-1);obtain ⟨c0, c1, c2, u, v, x⟩ := id h;by_cases e : c = 92
 ·subst e;go_enter Tryz.func203, Tryz.ntmps203;go_wp2_with fail;refine (XM b m 1 o true 2 _ h1).mono ?_;rintro e w1 ⟨rfl, d, a⟩;go_wp2;go_ret;exact ⟨rfl, d, (Yp _ _ _ _).trans a⟩
 by_cases e : c = 91
 ·subst e;go_enter Tryz.func203, Tryz.ntmps203;go_wp2_with fail;refine (XM b m bk o true 9 _ h).mono ?_;rintro e w1 ⟨rfl, d, a⟩;go_wp2;go_ret;exact ⟨rfl, d, a⟩
 by_cases e : c = 40
 ·subst e;go_enter Tryz.func203, Tryz.ntmps203;go_wp2_with fail;refine (XM b m bk (o + 1) true 0 _ h2).mono ?_;rintro e w1 ⟨rfl, d, a⟩;go_wp2;go_ret;exact ⟨rfl, d, (Yp _ _ _ _).trans a⟩
 by_cases e : c = 41
 ·subst e;go_enter Tryz.func203, Tryz.ntmps203;go_wp2_with fail;refine (XM b m bk (o-1) _ 1 _ h3).mono ?_;rintro e w1 ⟨rfl, d, a⟩;go_wp2;go_ret;exact ⟨rfl, d, (Yp _ _ _ _).trans a⟩
 by_cases e : c = 124
 ·subst e;go_enter Tryz.func203, Tryz.ntmps203;go_wp2_with fail;refine (XM b m bk o true 0 _ h).mono ?_;rintro e w1 ⟨rfl, d, a⟩;go_wp2;go_ret;exact ⟨rfl, d, a⟩
 by_cases e : c = 42 \/ c = 43 \/ c = 63
 ·have f : Rf.outside m bk o c = ⟨m == 1, m, bk, o⟩ := by simp [Rf.outside, *]
  rw [f]; clear f;rcases e with e|e|e <;>
  ·subst e;go_enter Tryz.func203, Tryz.ntmps203;go_wp2;go_ret;exact ⟨rfl, h, Zk _ _⟩
 have n : (c == 42) = false := by simp; omega
 have p : (c == 43) = false := by simp; omega
 have q : (c == 63) = false := by simp; omega
 by_cases e : c = 123
 ·subst e;go_enter Tryz.func203, Tryz.ntmps203;go_wp2_with fail;refine (XM b m bk o _ 5 _ h).mono ?_;rintro e w1 ⟨rfl, d, a⟩;go_wp2;go_ret;exact ⟨rfl, d, a⟩
 by_cases e : c = 93 \/ c = 125
 ·have f : Rf.outside m bk o c = ⟨false, m, bk, o⟩ := by simp [Rf.outside, *]
  rw [f]; clear f;rcases e with e|e <;>
  ·subst e;go_enter Tryz.func203, Tryz.ntmps203;go_wp2;go_ret;exact ⟨rfl, h, Zk _ _⟩
 have f : Rf.outside m bk o c = Rf.to m bk o true 1 := by simp [Rf.outside, Rf.to, *]
 rw [f]; clear f;have s : (c == 92) = false := by simp; omega
 have r : (c == 91) = false := by simp; omega
 have k : (c == 40) = false := by simp; omega
 have l : (c == 41) = false := by simp; omega
 have i : (c == 124) = false := by simp; omega
 have g : (c == 123) = false := by simp; omega
 have t : (c == 93) = false := by simp; omega
 have j : (c == 125) = false := by simp; omega
 go_enter Tryz.func203, Tryz.ntmps203;go_wp2_with fail;refine (XM b m bk o true 1 _ h).mono ?_;rintro e w1 ⟨rfl, d, a⟩;go_wp2;go_ret;exact ⟨rfl, d, a⟩
theorem Fs (b : Nat) (m bk o : Int) (c : Int) (w : World) (h : Rd b m bk o w) (y : -1000 <= o) (z : o <= 1000) :
  Cp 189 #[.pointer (some ⟨b, 0, none⟩), .int .u8 c] w (SM b w (Rf.rest m bk o c)) := by
 obtain ⟨c0, c1, c2, q, r, s⟩ := id h;by_cases e : m = 9
 ·subst e;by_cases e : c = 94
  ·subst e;go_enter Tryz.func189, Tryz.ntmps189;go_wp2_with fail;refine (XM b 9 bk o true 10 _ h).mono ?_;rintro e w1 ⟨rfl, d, a⟩;go_wp2;go_ret;exact ⟨rfl, d, a⟩
  have f : Rf.rest 9 bk o c = Rf.inner 9 bk o c 11 := by simp [Rf.rest, *]
  have n : (c == 94) = false := by simpa using e
  rw [f]; clear f e;go_enter Tryz.func189, Tryz.ntmps189;go_wp2_with fail;refine (Un b 9 bk o c 11 _ h).mono ?_;rintro e w1 ⟨rfl, d, a⟩;go_wp2;go_ret;exact ⟨rfl, d, a⟩
 by_cases e : m = 10
 ·subst e;go_enter Tryz.func189, Tryz.ntmps189;go_wp2_with fail;refine (Un b 10 bk o c 11 _ h).mono ?_;rintro e w1 ⟨rfl, d, a⟩;go_wp2;go_ret;exact ⟨rfl, d, a⟩
 by_cases e : m = 11
 ·subst e;by_cases e : c = 45
  ·subst e;go_enter Tryz.func189, Tryz.ntmps189;go_wp2_with fail;refine (XM b 11 bk o true 12 _ h).mono ?_;rintro e w1 ⟨rfl, d, a⟩;go_wp2;go_ret;exact ⟨rfl, d, a⟩
  by_cases e : c = 93
  ·subst e;go_enter Tryz.func189, Tryz.ntmps189;go_wp2_with fail;refine (XM b 11 bk o true 1 _ h).mono ?_;rintro e w1 ⟨rfl, d, a⟩;go_wp2;go_ret;exact ⟨rfl, d, a⟩
  have f : Rf.rest 11 bk o c = Rf.inner 11 bk o c 11 := by simp [Rf.rest, *]
  have n : (c == 45) = false := by simp; omega
  have g : (c == 93) = false := by simp; omega
  rw [f]; clear f;go_enter Tryz.func189, Tryz.ntmps189;go_wp2_with fail;refine (Un b 11 bk o c 11 _ h).mono ?_;rintro e w1 ⟨rfl, d, a⟩;go_wp2;go_ret;exact ⟨rfl, d, a⟩
 by_cases e : m = 12
 ·subst e;go_enter Tryz.func189, Tryz.ntmps189;go_wp2_with fail;refine (Un b 12 bk o c 13 _ h).mono ?_;rintro e w1 ⟨rfl, d, a⟩;go_wp2;go_ret;exact ⟨rfl, d, a⟩
 by_cases e : m = 13
 ·subst e;by_cases e : c = 93
  ·subst e;go_enter Tryz.func189, Tryz.ntmps189;go_wp2_with fail;refine (XM b 13 bk o true 1 _ h).mono ?_;rintro e w1 ⟨rfl, d, a⟩;go_wp2;go_ret;exact ⟨rfl, d, a⟩
  have f : Rf.rest 13 bk o c = Rf.inner 13 bk o c 11 := by simp [Rf.rest, *]
  have g : (c == 93) = false := by simp; omega
  rw [f]; clear f;go_enter Tryz.func189, Tryz.ntmps189;go_wp2_with fail;refine (Un b 13 bk o c 11 _ h).mono ?_;rintro e w1 ⟨rfl, d, a⟩;go_wp2;go_ret;exact ⟨rfl, d, a⟩
 have f : Rf.rest m bk o c = Rf.outside m bk o c := by simp [Rf.rest, *]
 rw [f]; clear f;have p : (m == 9) = false := by simp; omega
 have i : (m == 10) = false := by simp; omega
 have j : (m == 11) = false := by simp; omega
 have k : (m == 12) = false := by simp; omega
 have l : (m == 13) = false := by simp; omega
 go_enter Tryz.func189, Tryz.ntmps189;go_wp2_with fail;refine (KA b m bk o c _ h y z).mono ?_;rintro e w1 ⟨rfl, d, a⟩;go_wp2;go_ret;exact ⟨rfl, d, a⟩
theorem MY (b:Nat) (bk o:Int) (w:World) (h:Rd b 2 bk o w):
  Cp 158 #[pT b,.int .u8 110] w (SM b w (Rf.to 2 bk o true bk)):=by
 obtain⟨c0,c1,c2,g,i,j⟩:=id h;go_enter Tryz.func158,Tryz.ntmps158;go_wp2;refine wp_region_held_drew (S:=λw'=>w'.cell? (a_ b 1)=some (I6 bk)) (by kernel_rfl) (by simpa using c1) (λhHeld=>?_);refine tQ 0 ?_
 refine tQ 1 ?_
 refine tQ 2 ?_
 refine tQ 3 ?_
 refine tQ 4 ?_
 refine tQ 5 ?_
 refine tQ 6 ?_
 refine tQ 7 ?_
 refine tQ 8 ?_
 refine tQ 9 ?_
 refine tQ 10 ?_
 refine tQ 11 ?_
 refine tQ 12 ?_
 refine tQ 13 ?_
 refine tQ 14 ?_
 refine wpAnyH_ready (rs:=[15]) (by kernel_rfl) (by simp) ?_;refine AllReadyH.cons (o:=?o15) ?hi15 (λK d=>?_) AllReadyH.nil
 case hi15=>simp only[gel];rfl
 go_simp;refine(XM b 2 bk o _ bk _ (by exact h.drew)).mono ?_;rintro e w' ⟨rfl,c,f⟩;have a:Below b w w':=(Zk _ _).drew.trans f;go_wp2;refine d.out _ _ (by exact c.c1) (λhHeld=>?_)
 (try simp only[psm])
 refine tQ 16 ?_
 refine wpAnyH_done (by kernel_rfl) ?_ _;go_wp2;go_ret;exact⟨rfl,c,a⟩
theorem MZ (b:Nat) (bk o:Int) (w:World) (h:Rd b 2 bk o w):
  Cp 158 #[pT b,.int .u8 116] w (SM b w (Rf.to 2 bk o true bk)):=by
 obtain⟨c0,c1,c2,g,i,j⟩:=id h;go_enter Tryz.func158,Tryz.ntmps158;go_wp2;refine wp_region_held_drew (S:=λw'=>w'.cell? (a_ b 1)=some (I6 bk)) (by kernel_rfl) (by simpa using c1) (λhHeld=>?_);refine tQ 0 ?_
 refine tQ 1 ?_
 refine tQ 2 ?_
 refine tQ 3 ?_
 refine tQ 4 ?_
 refine tQ 5 ?_
 refine tQ 6 ?_
 refine tQ 7 ?_
 refine tQ 8 ?_
 refine tQ 9 ?_
 refine tQ 10 ?_
 refine tQ 11 ?_
 refine tQ 12 ?_
 refine tQ 13 ?_
 refine tQ 14 ?_
 refine wpAnyH_ready (rs:=[15]) (by kernel_rfl) (by simp) ?_;refine AllReadyH.cons (o:=?o15) ?hi15 (λK d=>?_) AllReadyH.nil
 case hi15=>simp only[gel];rfl
 go_simp;refine(XM b 2 bk o _ bk _ (by exact h.drew)).mono ?_;rintro e w' ⟨rfl,c,f⟩;have a:Below b w w':=(Zk _ _).drew.trans f;go_wp2;refine d.out _ _ (by exact c.c1) (λhHeld=>?_)
 (try simp only[psm])
 refine tQ 16 ?_
 refine wpAnyH_done (by kernel_rfl) ?_ _;go_wp2;go_ret;exact⟨rfl,c,a⟩
theorem KL (b : Nat) (bk o : Int) (c : Int) (w : World) (h : Rd b 2 bk o w) :
  Calls Tryz.prog 158 #[.pointer (some ⟨b, 0, none⟩), .int .u8 c] w (SM b w (Rf.read 2 bk o c)) := by
 obtain ⟨c0, c1, c2, f0, f1, f2⟩ := id h;by_cases e : c = 120
 ·subst e;go_enter Tryz.func158, Tryz.ntmps158;go_wp2_with fail;refine (XM b 2 bk o true 3 _ h).mono ?_;rintro e w1 ⟨rfl, hr, hb⟩;go_wp2;go_ret;exact ⟨rfl, hr, hb⟩
 ·have hx : Rf.read 2 bk o c = Rf.to 2 bk o (c == 110 || c == 116 || Rf.has Rf.marks c) bk := by simp [Rf.read, *]
  have e120 : (c == 120) = false := by simpa using e
  rw [hx]; clear hx e;cases e110 : (c == 110)
  ·cases e116 : (c == 116)
   ·go_enter Tryz.func158, Tryz.ntmps158;go_wp2
    go_region_held3 (λw' => w'.cell? ⟨b, 1, none⟩ = some (I6 bk)) (go_keep) (first|(go_at_call 162; refine (Pf _ c _ (by decide)).mono ?_; rintro e w' ⟨rfl, rfl⟩)|(go_at_call 186; refine (XM b 2 bk o _ bk _ (by exact h.drew)).mono ?_; rintro e w' ⟨rfl, hr, hb⟩; have hc1 : w'.cell? ⟨b, 1, none⟩ = some (I6 bk) := hr.c1; have hbb : Below b w w' := (Below.refl _ _).drew.trans hb; clear hb))
    go_wp2;go_ret;exact ⟨rfl, hr, hbb⟩
   ·have hc : c = 116 := by simpa using e116
    subst hc;exact MZ b bk o w h
  ·have hc : c = 110 := by simpa using e110
   subst hc;exact MY b bk o w h
theorem Rc (b : Nat) (m bk o : Int) (c : Int) (w : World) (h : Rd b m bk o w) (y : -1000 <= o) (z : o <= 1000) :
  Calls Tryz.prog 158 #[.pointer (some ⟨b, 0, none⟩), .int .u8 c] w (SM b w (Rf.read m bk o c)) := by
 by_cases e : m = 2
 ·subst e; exact KL b bk o c w h
 obtain ⟨c0, c1, c2, f0, f1, f2⟩ := id h;by_cases e : m = 3
 ·subst e;go_enter Tryz.func158, Tryz.ntmps158;go_wp2_with fail;refine (Im c _).mono ?_;rintro e w1 ⟨rfl, rfl⟩;go_wp2_with fail;refine (XM b 3 bk o _ 4 _ h).mono ?_;rintro e w1 ⟨rfl, hr, hb⟩;go_wp2;go_ret;exact ⟨rfl, hr, hb⟩
 by_cases e : m = 4
 ·subst e;go_enter Tryz.func158, Tryz.ntmps158;go_wp2
  go_region_held3 (λw' => w'.cell? ⟨b, 1, none⟩ = some (I6 bk)) (go_keep) (first|(go_at_call 187; refine (Im c _).mono ?_; rintro e w' ⟨rfl, rfl⟩)|(go_at_call 186; refine (XM b 4 bk o _ bk _ (by exact h.drew)).mono ?_; rintro e w' ⟨rfl, hr, hb⟩; have hc1 : w'.cell? ⟨b, 1, none⟩ = some (I6 bk) := hr.c1; have hbb : Below b w w' := (Below.refl _ _).drew.trans hb; clear hb))
  go_wp2;go_ret;exact ⟨rfl, hr, hbb⟩
 by_cases e : m = 5
 ·subst e;go_enter Tryz.func158, Tryz.ntmps158;go_wp2_with fail;refine (Uj c _).mono ?_;rintro e w1 ⟨rfl, rfl⟩;go_wp2_with fail;refine (XM b 5 bk o _ 6 _ h).mono ?_;rintro e w1 ⟨rfl, hr, hb⟩;go_wp2;go_ret;exact ⟨rfl, hr, hb⟩
 by_cases e : m = 6
 ·subst e;by_cases e : c = 44
  ·subst e;go_enter Tryz.func158, Tryz.ntmps158;go_wp2_with fail;refine (XM b 6 bk o true 7 _ h).mono ?_;rintro e w1 ⟨rfl, hr, hb⟩;go_wp2;go_ret;exact ⟨rfl, hr, hb⟩
  have hx : Rf.read 6 bk o c = Rf.to 6 bk o (c == 125) 1 := by simp [Rf.read, *]
  have hc2 : (c == 44) = false := by simp; omega
  rw [hx]; clear hx;go_enter Tryz.func158, Tryz.ntmps158;go_wp2_with fail;refine (XM b 6 bk o _ 1 _ h).mono ?_;rintro e w1 ⟨rfl, hr, hb⟩;go_wp2;go_ret;exact ⟨rfl, hr, hb⟩
 by_cases e : m = 7
 ·subst e;go_enter Tryz.func158, Tryz.ntmps158;go_wp2_with fail;refine (Uj c _).mono ?_;rintro e w1 ⟨rfl, rfl⟩;go_wp2_with fail;refine (XM b 7 bk o _ 8 _ h).mono ?_;rintro e w1 ⟨rfl, hr, hb⟩;go_wp2;go_ret;exact ⟨rfl, hr, hb⟩
 by_cases e : m = 8
 ·subst e;go_enter Tryz.func158, Tryz.ntmps158;go_wp2_with fail;refine (XM b 8 bk o _ 1 _ h).mono ?_;rintro e w1 ⟨rfl, hr, hb⟩;go_wp2;go_ret;exact ⟨rfl, hr, hb⟩
 have hx : Rf.read m bk o c = Rf.rest m bk o c := by simp [Rf.read, *]
 rw [hx]; clear hx;have e2 : (m == 2) = false := by simp; omega
 have e3 : (m == 3) = false := by simp; omega
 have e4 : (m == 4) = false := by simp; omega
 have e5 : (m == 5) = false := by simp; omega
 have e6 : (m == 6) = false := by simp; omega
 have e7 : (m == 7) = false := by simp; omega
 have e8 : (m == 8) = false := by simp; omega
 go_enter Tryz.func158, Tryz.ntmps158;go_wp2_with fail;refine (Fs b m bk o c _ h y z).mono ?_;rintro e w1 ⟨rfl, hr, hb⟩;go_wp2;go_ret;exact ⟨rfl, hr, hb⟩
theorem Rf.near_ite {o:Int}{p:Prop} [Decidable p] {x y:Rf.RS} (z:o-1<=x.o/\x.o<=o+1) (H:o-1<=y.o/\y.o<=o+1):o-1<=(if p then x else y).o/\(if p then x else y).o<=o+1:=by
 split
 ·exact z
 exact H
theorem Rf.near_inner (m bk o c y:Int):o-1<=(Rf.inner m bk o c y).o/\(Rf.inner m bk o c y).o<=o+1:=by
 unfold Rf.inner;exact Rf.near_ite ⟨by simp;omega,by simp;omega⟩ ⟨by simp[Rf.to];omega,by simp[Rf.to];omega⟩
theorem Rf.near_outside (m bk o c:Int):o-1<=(Rf.outside m bk o c).o/\(Rf.outside m bk o c).o<=o+1:=by
 unfold Rf.outside
 repeat' (refine Rf.near_ite ?_ ?_)
 all_goals (constructor<;>simp[Rf.to]<;>omega)
theorem Rf.read_o (m bk o c:Int):o-1<=(Rf.read m bk o c).o/\(Rf.read m bk o c).o<=o+1:=by
 unfold Rf.read
 repeat' (refine Rf.near_ite ?_ ?_)
 all_goals first|exact Rf.near_rest ..|(constructor<;>simp[Rf.to]<;>omega)
theorem QQ (s:ByteArray) (w:World) (hs:s.size<=40):
  Cp 108 #[.string s] w λe w'=>e=.returned (I6 (Rf.form s.data.toList))/\Bl w w':=by
 go_enter Tryz.func108,Tryz.ntmps108;go_wp2
 go_loopw [4] (λi w'=>∃(k:Nat) (m bk o:Int),k<=s.size/\i=I6 k/\Rd w.heap.size m bk o w'/\Bl w w'/\-k<=o/\o<=k/\Hid (Rf.form s.data.toList=Rf.formFrom m bk o k (s.data.toList.drop k))) (λi _=>s.size-(intOf i).toNat)
 ·refine⟨0,0,0,0,Nat.zero_le _,rfl,⟨?_,?_,?_,?_,?_,?_⟩,(Zk _ _).alloc (Zg _) _,by omega,by omega,rfl⟩<;>go_simp
 obtain⟨k,m,bk,o,v,rfl,d,b,n,p,HS⟩:=hrel;obtain⟨c0,c1,c2,r,t,u⟩:=id d;by_cases g:k<s.size
 ·have h:=hyd (Sp s k g);have q:=Rf.read_o m bk o (s[k].toNat);cases hok:(Rf.read m bk o (s[k].toNat)).ok
  ·have a:=hyd hok;go_wp2_with fail;refine(Rc _ m bk o _ _ d (by omega) (by omega)).mono ?_;rintro e w1 ⟨rfl,j,f⟩;rw[a.out];go_wp2;go_ret;refine⟨YY ?_,b.trans f⟩;rw[HS.out,h.out];simp[Rf.formFrom,a.out]
  have a:=hyd hok;go_wp2_with fail;refine(Rc _ m bk o _ _ d (by omega) (by omega)).mono ?_;rintro e w1 ⟨rfl,j,f⟩;rw[a.out];go_wp2;go_roundw
  ·exact⟨k+1,_,_,_,by omega,by go_num,j,b.trans f,by omega,by omega,by show _=_;rw[HS.out,h.out];simp[Rf.formFrom,a.out]⟩
  simp[intOf];omega
 have l:s.data.toList.drop k=[]:=List.drop_eq_nil_of_le (by simp;omega);have c:=hyd l;by_cases h0:0<o
 ·go_wp2;go_ret;refine⟨YY ?_,b⟩;rw[HS.out,c.out];simp[Rf.formFrom,h0];omega
 by_cases h1:1<m
 ·go_wp2;go_ret;refine⟨YY ?_,b⟩;rw[HS.out,c.out];simp[Rf.formFrom,h1];omega
 go_wp2;go_ret;refine⟨YY ?_,b⟩;rw[HS.out,c.out];simp[Rf.formFrom];omega
theorem NE (s:ByteArray) (w:World) (hs:s.size<=40):
  Cp 109 #[.string s] w λe w'=>e=.returned (I6 (Rf.deep s.data.toList))/\Bl w w':=by
 go_enter Tryz.func109,Tryz.ntmps109;go_wp2
 go_loopw [4] (λi w'=>∃(k:Nat) (m bk o:Int),k<=s.size/\i=I6 k/\Rd w.heap.size m bk o w'/\Bl w w'/\-k<=o/\o<=k/\Hid (Rf.deep s.data.toList=Rf.deepFrom m bk o k (s.data.toList.drop k))) (λi _=>s.size-(intOf i).toNat)
 ·refine⟨0,0,0,0,Nat.zero_le _,rfl,⟨?_,?_,?_,?_,?_,?_⟩,(Zk _ _).alloc (Zg _) _,by omega,by omega,rfl⟩<;>go_simp
 obtain⟨k,m,bk,o,x,rfl,c,b,p,q,HS⟩:=hrel;obtain⟨c0,c1,c2,t,u,v⟩:=id c;by_cases f:k<s.size
 ·have g:=hyd (Sp s k f);have r:=Rf.read_o m bk o (s[k].toNat);by_cases l:6<(Rf.read m bk o (s[k].toNat)).o
  ·go_wp2_with fail;refine(Rc _ m bk o _ _ c (by omega) (by omega)).mono ?_;rintro e w1 ⟨rfl,a,d⟩;have j:=a.c2;go_wp2;go_ret;refine⟨YY ?_,b.trans d⟩;rw[HS.out,g.out];simp[Rf.deepFrom,l]
  go_wp2_with fail;refine(Rc _ m bk o _ _ c (by omega) (by omega)).mono ?_;rintro e w1 ⟨rfl,a,d⟩;have j:=a.c2;go_wp2;go_roundw
  ·exact⟨k+1,_,_,_,by omega,by go_num,a,b.trans d,by omega,by omega,by show _=_;rw[HS.out,g.out];simp only[Rf.deepFrom];rw[g_]⟩
  simp[intOf];omega
 have n:s.data.toList.drop k=[]:=List.drop_eq_nil_of_le (by simp;omega);have h:=hyd n;go_wp2;go_ret;refine⟨YY ?_,b⟩;rw[HS.out,h.out];rfl
theorem OO {a b:Int} (h:a=a') (y:b=b'):Ending.returned (.tuple #[I6 a,I6 b])=.returned (.tuple #[I6 a',I6 b']):=by rw[h,y]
theorem Iu (s:ByteArray) (k:Nat) (v:Int) (n:Nat) (w:World) (hs:s.size<=40) (h:Rf.one (s.data.toList.drop k)=some (v,n)):
  Cp 159 #[.string s,I6 k] w λe w'=>e=.returned (.tuple #[I6 v,I6 ((k+n:Nat):Int)])/\∃q,w'=w.drewN q:=by
 rcases hd:s.data.toList.drop k with _|⟨c,r⟩
 ·rw[hd]at h;cases h
 obtain⟨R,t,I⟩:=YT hd;rw[hd]at h;by_cases o:c=92
 ·subst o;have M:((s[k].toNat:Int)==92)=true:=by rw[t];rfl
  rcases r with _|⟨d,P⟩
  ·cases h
  obtain⟨N,f,l⟩:=YT I;clear hd t I;by_cases a:d=110
  ·have F:((s[k+1].toNat:Int)==110)=true:=by rw[f,a];rfl
   have p:v=10/\n=2:=by simp[Rf.one,a]at h;exact⟨h.1.symm,h.2.symm⟩
   obtain⟨rfl,rfl⟩:=p;clear f l h a;go_enter Tryz.func159,Tryz.ntmps159;go_wp2;go_ret2;exact⟨OO rfl (by omega),0,rfl⟩
  have F:((s[k+1].toNat:Int)==110)=false:=by rw[f];exact Yn a
  by_cases b:d=116
  ·have G:((s[k+1].toNat:Int)==116)=true:=by rw[f,b];rfl
   have p:v=9/\n=2:=by simp[Rf.one,b]at h;exact⟨h.1.symm,h.2.symm⟩
   obtain⟨rfl,rfl⟩:=p;clear f l h a b;go_enter Tryz.func159,Tryz.ntmps159;go_wp2;go_ret2;exact⟨OO rfl (by omega),0,rfl⟩
  have G:((s[k+1].toNat:Int)==116)=false:=by rw[f];exact Yn b
  by_cases g:d=120
  ·have H:((s[k+1].toNat:Int)==120)=true:=by rw[f,g];rfl
   subst g;rcases P with _|⟨x,_|⟨y,Q⟩⟩
   ·simp[Rf.one]at h
   ·simp[Rf.one]at h
   obtain⟨A,u,C⟩:=YT l;obtain⟨B,z,J⟩:=YT C;have O:Rf.hex x.toNat=true/\Rf.hex y.toNat=true/\v=Rf.number x.toNat*16+Rf.number y.toNat/\n=4:=by
    simp only[Rf.one,if_true]at h;rw[if_neg (by decide),if_neg (by decide)]at h;by_cases m:(Rf.hex x.toNat&&Rf.hex y.toNat)=true
    ·rw[if_pos m]at h;simp only[Zp,Prod.mk.injEq]at h;rw[ZS]at m;exact⟨m.1,m.2,h.1.symm,h.2.symm⟩
    rw[if_neg m]at h;cases h
   obtain⟨D,E,rfl,rfl⟩:=O;have K:=A;have L:=B;have i:s[k+2]=x:=u;have j:s[k+3]=y:=z;rw[<-i]at D;rw[<-j]at E;rw[<-i,<-j];have S:(0:Int)<=k+2/\(k:Int)+2<(s.size:Int):=by omega
   have T:(0:Int)<=k+3/\(k:Int)+3<(s.size:Int):=by omega
   have U:=QO s[k+2];have V:=QO s[k+3];have W:=Rf.number_lt (s[k+2].toNat) D;have X:=Rf.number_lt (s[k+3].toNat) E;clear f l h a b C J u z i j A B;go_enter Tryz.func159,Tryz.ntmps159;go_wp2
   go_quiet ((go_at_call 190;exact Calls.quiet_of_same (I7 _ _ (by omega) (by assumption) (by assumption))))
   go_wp2;go_ret2;exact⟨OO (by first|rfl|omega) (by omega),nq,rfl⟩
  have H:((s[k+1].toNat:Int)==120)=false:=by rw[f];exact Yn g
  have p:v=s[k+1].toNat/\n=2:=by simp[Rf.one,a,b,g]at h;rw[f];exact⟨h.1.symm,h.2.symm⟩
  obtain⟨rfl,rfl⟩:=p;clear f l h a b g;go_enter Tryz.func159,Tryz.ntmps159;go_wp2;go_ret2;exact⟨OO (Qf _) (by omega),0,rfl⟩
 have M:((s[k].toNat:Int)==92)=false:=by rw[t];exact Yn o
 have p:v=s[k].toNat/\n=1:=by simp[Rf.one,o]at h;rw[t];exact⟨h.1.symm,h.2.symm⟩
 obtain⟨rfl,rfl⟩:=p;clear t I h o hd;go_enter Tryz.func159,Tryz.ntmps159;go_wp2;go_ret2;exact⟨OO (Qf _) (by omega),0,rfl⟩
theorem Wl (s:ByteArray) (k:Nat) (i:Int) (v:Int) (n:Nat) (w:World) (hs:s.size<=40) (y:i=k) (h:Rf.one (s.data.toList.drop k)=some (v,n)):
  Cp 159 #[.string s,I6 i] w λe w'=>e=.returned (.tuple #[I6 v,I6 ((k+n:Nat):Int)])/\∃q,w'=w.drewN q:=by
 subst y;exact Iu s k v n w hs h
def Yb (g:Nat) (f:Nat->Bool) (w:World):Prop:=∀k,k<256->w.cell? ⟨g,k,none⟩=some (.bool (f k))/\w.frozen? ⟨g,k,none⟩=false
theorem Yb.drewN (h:Yb g f w) (q:Nat):Yb g f (w.drewN q):=λk a=>by
 have:=h k a;refine⟨?_,?_⟩<;>go_simp
theorem Yb.set (h:Yb g f w) (j:Nat) (y:j<256) (b:Bool):Yb g (λk=>if k=j then b else f k) (w.setCell (a_ g j) (.bool b)):=λk l=>by
 obtain⟨a,m⟩:=h k l;obtain⟨c,i⟩:=h j y;refine⟨?_,?_⟩
 ·by_cases e:k=j
  ·subst e;simp;go_simp
  simp only[if_neg e];rw[World.cell?_setCell_other _ _ _ _ (by intro d;cases d;exact e rfl)];exact a
 go_simp
theorem Yb.congr (h:Yb g f w) (e:∀k,k<256->f k=f' k):Yb g f' w:=λk a=>by
 rw[<-e k a];exact h k a
theorem YR (B:Nat) (w:World) (q:Nat):Below B w (w.drewN q):=⟨rfl,rfl,rfl,Zg _,λ_ _=>rfl⟩
def blank:Array Value:=madeCells #[.bool false] 256
theorem Et (k:Nat) (h:k<256):blank[k]?=some (.bool false):=by
 simp[blank,madeCells,h,Nat.mod_one]
theorem Gv:∃i,Tryz.prog.info? 4=some i/\i.zero=some (.bool false)/\i.size=1/\i.bytes=1:=by
 have h1:(Tryz.prog.info? 4).isSome=true:=by kernel_rfl
 obtain⟨i,a⟩:=Zx.1 h1;refine⟨i,a,?_,?_,?_⟩
 ·have:((Tryz.prog.info? 4).bind (·.zero))=some (.bool false):=by kernel_rfl
  rw[a]at this;exact this
 ·have:((Tryz.prog.info? 4).map (·.size))=some 1:=by kernel_rfl
  rw[a]at this;simpa using this
 have:((Tryz.prog.info? 4).map (·.bytes))=some 1:=by kernel_rfl
 rw[a]at this;simpa using this
theorem My (w:World):(Instr.makeSlice 78 (I6 256) (I6 256)).run Tryz.prog w=.ok (.slice (some (a_ w.heap.size 0)) 256 256) (w.alloc (.cells blank 4)):=by
 obtain⟨i,b,hz,c,a⟩:=Gv;have h:=run_make (P:=Tryz.prog) w 78 4 i (.bool false) u_m b hz .i64 .i64 256 256 (by decide) (by decide) (by rw[a];decide) (by decide);rw[c]at h;exact h
theorem Yb.blank (w:World) (t:TypeId):Yb w.heap.size (λ_=>false) (w.alloc (.cells blank t)):=λk a=>by
 refine⟨?_,?_⟩
 ·rw[World.cell?_alloc_new];exact Et k a
 ·go_simp
theorem Wz (inb:N_) (a:Int) (y:Nat) (_:y<256):inb y=(inb y || (decide (a<=(y:Int))&&decide ((y:Int)<a))):=by
 rw[Bool.eq_iff_iff];simp;omega
theorem V0 (inb:N_) (a:Int) (t:Nat) (h:a<=t) (y:Nat) (_:y<256):(if y=t then true else (inb y || (decide (a<=(y:Int))&&decide ((y:Int)<t))))=(inb y || (decide (a<=(y:Int))&&decide ((y:Int)<t+1))):=by
 by_cases e:y=t
 ·subst e;rw[if_pos rfl];cases inb y<;>simp<;>omega
 rw[if_neg e];cases inb y
 ·rw[Bool.false_or,Bool.false_or,Bool.eq_iff_iff];simp;omega
 rfl
theorem Vi (inb:N_) (a b t:Int) (_h0:a<=t) (h1:t=a\/t<=b+1) (z:¬t<=b) (y:Nat) (_:y<256):(inb y || (decide (a<=(y:Int))&&decide ((y:Int)<t)))=(inb y || (decide (a<=(y:Int))&&decide ((y:Int)<=b))):=by
 cases inb y
 ·rw[Bool.false_or,Bool.false_or,Bool.eq_iff_iff];simp;omega
 rfl
theorem Iy (s:ByteArray) (k:Nat) (j:Nat) (fa:Int) (inn:N_) (w:World) (hs:s.size<=40) (h:Rf.set (s.data.toList.drop (k+1)) k=some (j,fa,inn)):
  Cp 160 #[.string s,I6 k] w λe w'=>e=.returned (.tuple #[.slice (some (a_ w.heap.size 0)) 256 256,I6 j,I6 fa])/\Yb w.heap.size inn w'/\Bl w w':=by
 rcases hd:s.data.toList.drop (k+1)with _|⟨c,r⟩
 ·rw[hd]at h;cases h
 obtain⟨hk,O,U⟩:=YT hd;rw[hd]at h;have hm:=My w;by_cases R:c=94
 ·have Y:((s[k+1].toNat:Int)==94)=true:=by rw[O,R];rfl
  obtain⟨Q,u,h0,hj,hi⟩:∃Q u,Rf.items (r.length+1) (s.data.toList.drop (k+2)) (k+2) (-1) (λ_=>false)=some (Q,fa,u)/\j=Q+1/\inn=λx=>u x != true:=by
   simp only[Rf.set,R,if_true]at h;rw[U];cases hx:Rf.items (r.length+1) r (k+2) (-1) (λ_=>false)with
   |none=>rw[hx]at h;cases h
   |some x=>
    rw[hx]at h;simp only[Option.map_some,Zp,Prod.mk.injEq]at h;exact⟨x.1,x.2.2,by rw[<-h.2.1],h.1.symm,h.2.2.symm⟩
  subst hj;subst hi;clear O U hd R h;go_enter Tryz.func160,Tryz.ntmps160;go_wp2;clear hm
  go_loopw [1,8] (λi fl w'=>∃(f m:Nat) (fb:Int) (inb:N_),i=I6 m/\fl=I6 fb/\Yb w.heap.size inb w'/\Bl w w'/\Hid (Rf.items f (s.data.toList.drop m) m fb inb=some (Q,fa,u))) (λi _ _=>s.size-(intOf i).toNat)
  ·exact⟨_,k+2,-1,λ_=>false,by go_num,rfl,Yb.blank w _,(Zk _ _).alloc (Zg _) _,h0⟩
  obtain⟨f,m,fb,inb,rfl,rfl,I,J,HS⟩:=hrel;rcases f with _|f
  ·exact absurd HS.out (by simp[Rf.items])
  rcases hd:s.data.toList.drop m with _|⟨c,r⟩
  ·have:=HS.out;rw[hd]at this;simp[Rf.items]at this
  obtain⟨ah,O,U⟩:=YT hd;have A:=HS.out;rw[hd]at A;by_cases o:c=93
  ·have Y:((s[m].toNat:Int)==93)=true:=by rw[O,o];rfl
   have hR:m=Q/\fb=fa/\inb=u:=by
    simp only[Rf.items,o,if_true,Zp,Prod.mk.injEq]at A;exact A
   obtain⟨rfl,rfl,rfl⟩:=hR;clear O U hd A HS h0 o;go_wp2
   go_loopw [14] (λi w'=>∃E:Nat,E<=256/\i=I6 E/\Yb w.heap.size (λx=>if x<E then !inb x else inb x) w'/\Bl w w') (λi _=>256-(intOf i).toNat)
   ·exact⟨0,by omega,rfl,I.congr (by simp),J⟩
   obtain⟨E,ai,rfl,l,p⟩:=hrel;by_cases T:E<256
   ·obtain⟨K,P⟩:=l E T;simp only[Nat.lt_irrefl,if_false]at K;have C:=l.set E T (!inb E);go_wp2;go_roundw
    ·refine⟨E+1,by omega,by go_num,C.congr (λy _=>?_),p.trans (Yp _ _ _ _)⟩;by_cases X:y=E
     ·subst X;simp
     by_cases e2:y<E
     ·simp[X,e2,Nat.lt_succ_of_lt e2]
     simp[X,e2,show ¬y<E+1 by omega]
    simp[intOf];omega
   go_wp2;go_ret3;exact⟨by first|rfl|(simp;done)|go_num,l.congr (λy hy=>by simp[show y<E by omega]),p⟩
  have Y:((s[m].toNat:Int)==93)=false:=by rw[O];exact Yn o
  rcases ho:Rf.one (c::r)with _|⟨a,n⟩
  ·simp only[Rf.items,if_neg o,ho]at A;cases A
  have M:Rf.one (s.data.toList.drop m)=some (a,n):=by rw[hd];exact ho
  obtain⟨ab,ac,ak,al⟩:=Rf.one_bd ho;rcases hd2:(c::r).drop n with _|⟨d,l'⟩
  ·simp only[Rf.items,if_neg o,ho,hd2]at A;cases A
  have D:s.data.toList.drop (m+n)=d::l':=by rw[<-List.drop_drop,hd];exact hd2
  obtain⟨aj,L,N⟩:=YT D;by_cases B:d=45
  ·have S:((s[m+n].toNat:Int)==45)=true:=by rw[L,B];rfl
   rcases ho2:Rf.one l' with _|⟨b,n'⟩
   ·simp only[Rf.items,if_neg o,ho,hd2,if_pos B,ho2]at A;cases A
   have G:Rf.one (s.data.toList.drop (m+n+1))=some (b,n'):=by rw[N];exact ho2
   obtain⟨ae,af,Z,aa⟩:=Rf.one_bd ho2;have g:Hid (Rf.items f (s.data.toList.drop (m+n+1+n')) (m+n+1+n') (if b<a/\fb<0 then (m:Int) else fb) (λy=>inb y || (decide (a<=(y:Int))&&decide ((y:Int)<=b)))=some (Q,fa,u)):=by
    show _=_;simp only[Rf.items,if_neg o,ho,hd2,if_pos B,ho2]at A;rw[<-List.drop_drop,N];exact A
   clear O U hd A HS h0 o L N hd2 D B;by_cases W:b<a/\fb<0
   ·rw[if_pos W]at g;go_wp2_with fail;refine(Wl s m _ a n _ hs rfl M).mono ?_;rintro e w1 ⟨rfl,q,rfl⟩;go_wp2_with fail;refine(Wl s (m+n+1) _ b n' _ hs (by omega) G).mono ?_;rintro e w1 ⟨rfl,q2,rfl⟩;clear ho M ho2 G;go_wp2
    go_loopw [13] (λx w'=>∃t:Int,x=I6 t/\a<=t/\(t=a\/t<=b+1)/\Yb w.heap.size (λy=>inb y || (decide (a<=(y:Int))&&decide ((y:Int)<t))) w'/\Bl w w') (λx _=>(257-intOf x).toNat)
    ·exact⟨a,rfl,Int.le_refl _,Or.inl rfl,Yb.congr (by first|exact I|exact I.drewN _|exact(I.drewN _).drewN _) (Wz inb a),by first|exact J|exact J.trans (YR _ _ _)|exact(J.trans (YR _ _ _)).trans (YR _ _ _)⟩
    obtain⟨t,rfl,v,H,l,p⟩:=hrel;by_cases F:t<=b
    ·first
     |(exfalso;omega)
     |(
       obtain⟨z,rfl⟩:=ZA (show 0<=t by omega);obtain⟨K,P⟩:=l z (by omega);have C:=l.set z (by omega) true;have V:(z:Int)<256:=by omega
       go_wp2;go_roundw
       ·exact⟨(z:Int)+1,rfl,by omega,by omega,C.congr (V0 inb a z v),p.trans (Yp _ _ _ _)⟩
       simp[intOf];omega)
    go_wp2;go_roundw
    ·exact⟨f,m+n+1+n',(m:Int),_,by go_num,rfl,l.congr (Vi inb a b t v H F),p,g⟩
    simp[intOf];omega
   rw[if_neg W]at g;have hg:b<a->¬fb<0:=λh1 h2=>W ⟨h1,h2⟩
   clear W;by_cases ag:b<a
   all_goals
    go_wp2_with fail;refine(Wl s m _ a n _ hs rfl M).mono ?_;rintro e w1 ⟨rfl,q,rfl⟩;go_wp2_with fail;refine(Wl s (m+n+1) _ b n' _ hs (by omega) G).mono ?_;rintro e w1 ⟨rfl,q2,rfl⟩;go_wp2
    go_loopw [13] (λx w'=>∃t:Int,x=I6 t/\a<=t/\(t=a\/t<=b+1)/\Yb w.heap.size (λy=>inb y || (decide (a<=(y:Int))&&decide ((y:Int)<t))) w'/\Bl w w') (λx _=>(257-intOf x).toNat)
    ·exact⟨a,rfl,Int.le_refl _,Or.inl rfl,Yb.congr (by first|exact I|exact I.drewN _|exact(I.drewN _).drewN _) (Wz inb a),by first|exact J|exact J.trans (YR _ _ _)|exact(J.trans (YR _ _ _)).trans (YR _ _ _)⟩
    obtain⟨t,rfl,v,H,l,p⟩:=hrel;by_cases F:t<=b
    ·first
     |(exfalso;omega)
     |(
       obtain⟨z,rfl⟩:=ZA (show 0<=t by omega);obtain⟨K,P⟩:=l z (by omega);have C:=l.set z (by omega) true;have V:(z:Int)<256:=by omega
       go_wp2;go_roundw
       ·exact⟨(z:Int)+1,rfl,by omega,by omega,C.congr (V0 inb a z v),p.trans (Yp _ _ _ _)⟩
       simp[intOf];omega)
    go_wp2;go_roundw
    ·exact⟨f,m+n+1+n',fb,_,by go_num,rfl,l.congr (Vi inb a b t v H F),p,g⟩
    simp[intOf];omega
  have S:((s[m+n].toNat:Int)==45)=false:=by rw[L];exact Yn B
  have g:Hid (Rf.items f (s.data.toList.drop (m+n)) (m+n) fb (λy=>inb y || (decide (a<=(y:Int))&&decide ((y:Int)<=a)))=some (Q,fa,u)):=by
   show _=_;simp only[Rf.items,if_neg o,ho,hd2,if_neg B]at A;rw[D];exact A
  clear O U hd A HS h0 o L N hd2 D B;go_wp2_with fail;refine(Wl s m _ a n _ hs rfl M).mono ?_;rintro e w1 ⟨rfl,q,rfl⟩;go_wp2
  go_loopw [13] (λx w'=>∃t:Int,x=I6 t/\a<=t/\(t=a\/t<=a+1)/\Yb w.heap.size (λy=>inb y || (decide (a<=(y:Int))&&decide ((y:Int)<t))) w'/\Bl w w') (λx _=>(257-intOf x).toNat)
  ·exact⟨a,rfl,Int.le_refl _,Or.inl rfl,Yb.congr (by first|exact I|exact I.drewN _|exact(I.drewN _).drewN _) (Wz inb a),by first|exact J|exact J.trans (YR _ _ _)|exact(J.trans (YR _ _ _)).trans (YR _ _ _)⟩
  obtain⟨t,rfl,v,H,l,p⟩:=hrel;by_cases F:t<=a
  ·first
   |(exfalso;omega)
   |(
     obtain⟨z,rfl⟩:=ZA (show 0<=t by omega);obtain⟨K,P⟩:=l z (by omega);have C:=l.set z (by omega) true;have V:(z:Int)<256:=by omega
     go_wp2;go_roundw
     ·exact⟨(z:Int)+1,rfl,by omega,by omega,C.congr (V0 inb a z v),p.trans (Yp _ _ _ _)⟩
     simp[intOf];omega)
  go_wp2;go_roundw
  ·exact⟨f,m+n,fb,_,by go_num,rfl,l.congr (Vi inb a a t v H F),p,g⟩
  simp[intOf];omega
 have Y:((s[k+1].toNat:Int)==94)=false:=by rw[O];exact Yn R
 obtain⟨Q,u,h0,hj,hi⟩:∃Q u,Rf.items (r.length+2) (s.data.toList.drop (k+1)) (k+1) (-1) (λ_=>false)=some (Q,fa,u)/\j=Q+1/\inn=λx=>u x != false:=by
  simp only[Rf.set,R,if_false]at h;rw[hd];cases hx:Rf.items (r.length+2) (c::r) (k+1) (-1) (λ_=>false)with
  |none=>rw[hx]at h;cases h
  |some x=>
   rw[hx]at h;simp only[Option.map_some,Zp,Prod.mk.injEq]at h;exact⟨x.1,x.2.2,by rw[<-h.2.1],h.1.symm,h.2.2.symm⟩
 subst hj;subst hi;clear O U hd R h;go_enter Tryz.func160,Tryz.ntmps160;go_wp2;clear hm
 go_loopw [1,8] (λi fl w'=>∃(f m:Nat) (fb:Int) (inb:N_),i=I6 m/\fl=I6 fb/\Yb w.heap.size inb w'/\Bl w w'/\Hid (Rf.items f (s.data.toList.drop m) m fb inb=some (Q,fa,u))) (λi _ _=>s.size-(intOf i).toNat)
 ·exact⟨_,k+1,-1,λ_=>false,by go_num,rfl,Yb.blank w _,(Zk _ _).alloc (Zg _) _,h0⟩
 obtain⟨f,m,fb,inb,rfl,rfl,I,J,HS⟩:=hrel;rcases f with _|f
 ·exact absurd HS.out (by simp[Rf.items])
 rcases hd:s.data.toList.drop m with _|⟨c,r⟩
 ·have:=HS.out;rw[hd]at this;simp[Rf.items]at this
 obtain⟨ah,O,U⟩:=YT hd;have A:=HS.out;rw[hd]at A;by_cases o:c=93
 ·have Y:((s[m].toNat:Int)==93)=true:=by rw[O,o];rfl
  have hR:m=Q/\fb=fa/\inb=u:=by
   simp only[Rf.items,o,if_true,Zp,Prod.mk.injEq]at A;exact A
  obtain⟨rfl,rfl,rfl⟩:=hR;clear O U hd A HS h0 o;go_wp2
  go_loopw [14] (λi w'=>∃E:Nat,E<=256/\i=I6 E/\Yb w.heap.size (λx=>if x<E then inb x else inb x) w'/\Bl w w') (λi _=>256-(intOf i).toNat)
  ·exact⟨0,by omega,rfl,I.congr (by simp),J⟩
  obtain⟨E,ai,rfl,l,p⟩:=hrel;by_cases T:E<256
  ·obtain⟨K,P⟩:=l E T;simp only[Nat.lt_irrefl,if_false]at K;have C:=l.set E T (inb E);go_wp2;go_roundw
   ·refine⟨E+1,by omega,by go_num,C.congr (λy _=>?_),p.trans (Yp _ _ _ _)⟩;by_cases X:y=E
    ·subst X;simp
    by_cases e2:y<E
    ·simp[X,e2,Nat.lt_succ_of_lt e2]
    simp[X,e2,show ¬y<E+1 by omega]
   simp[intOf];omega
  go_wp2;go_ret3;exact⟨by first|rfl|(simp;done)|go_num,l.congr (λy hy=>by simp[show y<E by omega]),p⟩
 have Y:((s[m].toNat:Int)==93)=false:=by rw[O];exact Yn o
 rcases ho:Rf.one (c::r)with _|⟨a,n⟩
 ·simp only[Rf.items,if_neg o,ho]at A;cases A
 have M:Rf.one (s.data.toList.drop m)=some (a,n):=by rw[hd];exact ho
 obtain⟨ab,ac,ak,al⟩:=Rf.one_bd ho;rcases hd2:(c::r).drop n with _|⟨d,l'⟩
 ·simp only[Rf.items,if_neg o,ho,hd2]at A;cases A
 have D:s.data.toList.drop (m+n)=d::l':=by rw[<-List.drop_drop,hd];exact hd2
 obtain⟨aj,L,N⟩:=YT D;by_cases B:d=45
 ·have S:((s[m+n].toNat:Int)==45)=true:=by rw[L,B];rfl
  rcases ho2:Rf.one l' with _|⟨b,n'⟩
  ·simp only[Rf.items,if_neg o,ho,hd2,if_pos B,ho2]at A;cases A
  have G:Rf.one (s.data.toList.drop (m+n+1))=some (b,n'):=by rw[N];exact ho2
  obtain⟨ae,af,Z,aa⟩:=Rf.one_bd ho2;have g:Hid (Rf.items f (s.data.toList.drop (m+n+1+n')) (m+n+1+n') (if b<a/\fb<0 then (m:Int) else fb) (λy=>inb y || (decide (a<=(y:Int))&&decide ((y:Int)<=b)))=some (Q,fa,u)):=by
   show _=_;simp only[Rf.items,if_neg o,ho,hd2,if_pos B,ho2]at A;rw[<-List.drop_drop,N];exact A
  clear O U hd A HS h0 o L N hd2 D B;by_cases W:b<a/\fb<0
  ·rw[if_pos W]at g;go_wp2_with fail;refine(Wl s m _ a n _ hs rfl M).mono ?_;rintro e w1 ⟨rfl,q,rfl⟩;go_wp2_with fail;refine(Wl s (m+n+1) _ b n' _ hs (by omega) G).mono ?_;rintro e w1 ⟨rfl,q2,rfl⟩;clear ho M ho2 G;go_wp2
   go_loopw [13] (λx w'=>∃t:Int,x=I6 t/\a<=t/\(t=a\/t<=b+1)/\Yb w.heap.size (λy=>inb y || (decide (a<=(y:Int))&&decide ((y:Int)<t))) w'/\Bl w w') (λx _=>(257-intOf x).toNat)
   ·exact⟨a,rfl,Int.le_refl _,Or.inl rfl,Yb.congr (by first|exact I|exact I.drewN _|exact(I.drewN _).drewN _) (Wz inb a),by first|exact J|exact J.trans (YR _ _ _)|exact(J.trans (YR _ _ _)).trans (YR _ _ _)⟩
   obtain⟨t,rfl,v,H,l,p⟩:=hrel;by_cases F:t<=b
   ·first
    |(exfalso;omega)
    |(
      obtain⟨z,rfl⟩:=ZA (show 0<=t by omega);obtain⟨K,P⟩:=l z (by omega);have C:=l.set z (by omega) true;have V:(z:Int)<256:=by omega
      go_wp2;go_roundw
      ·exact⟨(z:Int)+1,rfl,by omega,by omega,C.congr (V0 inb a z v),p.trans (Yp _ _ _ _)⟩
      simp[intOf];omega)
   go_wp2;go_roundw
   ·exact⟨f,m+n+1+n',(m:Int),_,by go_num,rfl,l.congr (Vi inb a b t v H F),p,g⟩
   simp[intOf];omega
  rw[if_neg W]at g;have hg:b<a->¬fb<0:=λh1 h2=>W ⟨h1,h2⟩
  clear W;by_cases ag:b<a
  all_goals
   go_wp2_with fail;refine(Wl s m _ a n _ hs rfl M).mono ?_;rintro e w1 ⟨rfl,q,rfl⟩;go_wp2_with fail;refine(Wl s (m+n+1) _ b n' _ hs (by omega) G).mono ?_;rintro e w1 ⟨rfl,q2,rfl⟩;go_wp2
   go_loopw [13] (λx w'=>∃t:Int,x=I6 t/\a<=t/\(t=a\/t<=b+1)/\Yb w.heap.size (λy=>inb y || (decide (a<=(y:Int))&&decide ((y:Int)<t))) w'/\Bl w w') (λx _=>(257-intOf x).toNat)
   ·exact⟨a,rfl,Int.le_refl _,Or.inl rfl,Yb.congr (by first|exact I|exact I.drewN _|exact(I.drewN _).drewN _) (Wz inb a),by first|exact J|exact J.trans (YR _ _ _)|exact(J.trans (YR _ _ _)).trans (YR _ _ _)⟩
   obtain⟨t,rfl,v,H,l,p⟩:=hrel;by_cases F:t<=b
   ·first
    |(exfalso;omega)
    |(
      obtain⟨z,rfl⟩:=ZA (show 0<=t by omega);obtain⟨K,P⟩:=l z (by omega);have C:=l.set z (by omega) true;have V:(z:Int)<256:=by omega
      go_wp2;go_roundw
      ·exact⟨(z:Int)+1,rfl,by omega,by omega,C.congr (V0 inb a z v),p.trans (Yp _ _ _ _)⟩
      simp[intOf];omega)
   go_wp2;go_roundw
   ·exact⟨f,m+n+1+n',fb,_,by go_num,rfl,l.congr (Vi inb a b t v H F),p,g⟩
   simp[intOf];omega
 have S:((s[m+n].toNat:Int)==45)=false:=by rw[L];exact Yn B
 have g:Hid (Rf.items f (s.data.toList.drop (m+n)) (m+n) fb (λy=>inb y || (decide (a<=(y:Int))&&decide ((y:Int)<=a)))=some (Q,fa,u)):=by
  show _=_;simp only[Rf.items,if_neg o,ho,hd2,if_neg B]at A;rw[D];exact A
 clear O U hd A HS h0 o L N hd2 D B;go_wp2_with fail;refine(Wl s m _ a n _ hs rfl M).mono ?_;rintro e w1 ⟨rfl,q,rfl⟩;go_wp2
 go_loopw [13] (λx w'=>∃t:Int,x=I6 t/\a<=t/\(t=a\/t<=a+1)/\Yb w.heap.size (λy=>inb y || (decide (a<=(y:Int))&&decide ((y:Int)<t))) w'/\Bl w w') (λx _=>(257-intOf x).toNat)
 ·exact⟨a,rfl,Int.le_refl _,Or.inl rfl,Yb.congr (by first|exact I|exact I.drewN _|exact(I.drewN _).drewN _) (Wz inb a),by first|exact J|exact J.trans (YR _ _ _)|exact(J.trans (YR _ _ _)).trans (YR _ _ _)⟩
 obtain⟨t,rfl,v,H,l,p⟩:=hrel;by_cases F:t<=a
 ·first
  |(exfalso;omega)
  |(
    obtain⟨z,rfl⟩:=ZA (show 0<=t by omega);obtain⟨K,P⟩:=l z (by omega);have C:=l.set z (by omega) true;have V:(z:Int)<256:=by omega
    go_wp2;go_roundw
    ·exact⟨(z:Int)+1,rfl,by omega,by omega,C.congr (V0 inb a z v),p.trans (Yp _ _ _ _)⟩
    simp[intOf];omega)
 go_wp2;go_roundw
 ·exact⟨f,m+n,fb,_,by go_num,rfl,l.congr (Vi inb a a t v H F),p,g⟩
 simp[intOf];omega
theorem OD (s:ByteArray) (k:Nat) (i:Int) (j:Nat) (fa:Int) (inn:N_) (w:World) (hs:s.size<=40) (y:i=k) (h:Rf.set (s.data.toList.drop (k+1)) k=some (j,fa,inn)):
  Cp 160 #[.string s,I6 i] w λe w'=>e=.returned (.tuple #[.slice (some (a_ w.heap.size 0)) 256 256,I6 j,I6 fa])/\Yb w.heap.size inn w'/\Bl w w':=by
 subst y;exact Iy s k j fa inn w hs h
theorem MF (s:ByteArray) (v:Int) (f0:Nat) (w:World) (hs:s.size<=40) (h:Rf.valueFrom s.data.toList f0 0=some v):
  Cp 110 #[.string s] w λe w'=>e=.returned (I6 v)/\Bl w w':=by
 go_enter Tryz.func110,Tryz.ntmps110;go_wp2
 go_loopw [3] (λi w'=>∃(f k:Nat),i=I6 k/\Bl w w'/\Hid (Rf.valueFrom s.data.toList f k=some v)) (λi _=>s.size-(intOf i).toNat)
 ·exact⟨f0,0,rfl,Zk _ _,h⟩
 clear h;obtain⟨f,k,rfl,C,HS⟩:=hrel;rcases f with _|f
 ·exact absurd HS.out (by simp[Rf.valueFrom])
 have b:=HS.out;clear HS;rcases hd:s.data.toList.drop k with _|⟨c,r⟩
 ·simp only[Rf.valueFrom,hd,Zp]at b;have Y:s.size<=k:=by simpa using hd
  clear hd;go_wp2;go_ret;exact⟨YY b,C⟩
 obtain⟨Y,u,G⟩:=YT hd;simp only[Rf.valueFrom,hd]at b;by_cases g:c=92
 ·have Q:((s[k].toNat:Int)==92)=true:=by rw[u,g];rfl
  rw[if_pos g]at b;rcases ho:Rf.one (c::r)with _|⟨a,n⟩
  ·rw[ho]at b;cases b
  have F:Rf.one (s.data.toList.drop k)=some (a,n):=by rw[hd];exact ho
  obtain⟨W,X,aa,ab⟩:=Rf.one_bd ho;rw[ho]at b;have t:=hyd b;clear b hd u G g ho;go_wp2_with fail;refine(Wl s k _ a n _ hs rfl F).mono ?_;rintro e w1 ⟨rfl,q,rfl⟩;go_wp2;go_roundw
  ·exact⟨f,k+n,by go_num,C.trans (YR _ _ _),t⟩
  simp[intOf];omega
 have S:((s[k].toNat:Int)==92)=false:=by rw[u];exact Yn g
 rw[if_neg g]at b;by_cases l:c=91
 ·have Q:((s[k].toNat:Int)==91)=true:=by rw[u,l];rfl
  rw[if_pos l]at b;rcases ho:Rf.set r k with _|⟨j,fa,inn⟩
  ·rw[ho]at b;cases b
  have F:Rf.set (s.data.toList.drop (k+1)) k=some (j,fa,inn):=by rw[G];exact ho
  have hj:=Rf.set_ge ho;rw[ho]at b;simp only at b;by_cases N:0<=fa
  ·rw[if_pos N]at b;have t:=hyd b;clear b hd u G g l ho;go_wp2_with fail;refine(OD s k _ j fa inn _ hs rfl F).mono ?_;rintro e w1 ⟨rfl,V,J⟩;go_wp2;go_ret;exact⟨YY (Zh t.out),C.trans (J.mono C.size)⟩
  rw[if_neg N]at b;have t:=hyd b;clear b hd u G g l ho;go_wp2_with fail;refine(OD s k _ j fa inn _ hs rfl F).mono ?_;rintro e w1 ⟨rfl,V,J⟩;go_wp2;go_roundw
  ·exact⟨f,j,rfl,C.trans (J.mono C.size),t⟩
  simp[intOf];omega
 have R:((s[k].toNat:Int)==91)=false:=by rw[u];exact Yn l
 rw[if_neg l]at b;by_cases d:c=123
 ·have Q:((s[k].toNat:Int)==123)=true:=by rw[u,d];rfl
  rw[if_pos d]at b;rcases r with _|⟨x,_|⟨y,r'⟩⟩
  ·cases b
  ·cases b
  obtain⟨Z,B,H⟩:=YT G;obtain⟨E,D,I⟩:=YT H;have T:k+2<s.size:=E;have m:s[k+2]=y:=D;have i1:(0:Int)<=k+1/\(k:Int)+1<(s.size:Int):=by omega
  have i2:(0:Int)<=k+2/\(k:Int)+2<(s.size:Int):=by omega
  simp only at b;by_cases o:y=44
  ·have M:((s[k+2].toNat:Int)==44)=true:=by rw[m,o];rfl
   rw[if_pos o]at b;rcases r' with _|⟨z,ac⟩
   ·cases b
   obtain⟨L,K,O⟩:=YT I;have U:k+3<s.size:=L;have p:s[k+3]=z:=K;have i3:(0:Int)<=k+3/\(k:Int)+3<(s.size:Int):=by omega
   simp only at b;by_cases A:z.toNat<x.toNat
   ·rw[if_pos A]at b;have t:Hid (some (k:Int)=some v):=b;rw[<-B,<-p]at A;have P:(s[k+3].toNat:Int)<(s[k+1].toNat:Int):=by omega
    clear b hd u G g l d B H D I K O m p E L o A;go_wp2
    go_quiet (fail)
    go_wp2;go_ret;exact⟨YY (Zh t.out),C.trans (YR _ _ _)⟩
   rw[if_neg A]at b;have t:Hid (Rf.valueFrom s.data.toList f (k+1)=some v):=b;rw[<-B,<-p]at A;have P:¬(s[k+3].toNat:Int)<(s[k+1].toNat:Int):=by omega
   clear b hd u G g l d B H D I K O m p E L o A;go_wp2
   go_quiet (fail)
   go_wp2;go_roundw
   ·exact⟨f,k+1,by go_num,C.trans (YR _ _ _),t⟩
   simp[intOf];omega
  have M:((s[k+2].toNat:Int)==44)=false:=by rw[m];exact Yn o
  rw[if_neg o]at b;have t:=hyd b;clear b hd u G g l d B H D I m E o;go_wp2
  go_quiet (fail)
  go_wp2;go_roundw
  ·exact⟨f,k+1,by go_num,C.trans (YR _ _ _),t⟩
  simp[intOf];omega
 have Q:((s[k].toNat:Int)==123)=false:=by rw[u];exact Yn d
 rw[if_neg d]at b;have t:=hyd b;clear b hd u G g l d;go_wp2
 go_quiet (fail)
 go_wp2;go_roundw
 ·exact⟨f,k+1,by go_num,C.trans (YR _ _ _),t⟩
 simp[intOf];omega
theorem Gp (s:ByteArray) (v:Int) (Y:Nat) (w:World) (hs:s.size<=40) (h:Rf.emptyFrom s.data.toList Y 0=some v):
  Cp 111 #[.string s] w λe w'=>e=.returned (I6 v)/\Bl w w':=by
 go_enter Tryz.func111,Tryz.ntmps111;go_wp2
 go_loopw [3] (λi w'=>∃(f k:Nat),i=I6 k/\Bl w w'/\Hid (Rf.emptyFrom s.data.toList f k=some v)) (λi _=>s.size-(intOf i).toNat)
 ·exact⟨Y,0,rfl,Zk _ _,h⟩
 clear h;obtain⟨f,k,rfl,z,HS⟩:=hrel;rcases f with _|f
 ·exact absurd HS.out (by simp[Rf.emptyFrom])
 have b:=HS.out;clear HS;rcases hd:s.data.toList.drop k with _|⟨c,r⟩
 ·simp only[Rf.emptyFrom,hd,Zp]at b;have O:s.size<=k:=by simpa using hd
  clear hd;go_wp2;go_ret;exact⟨YY b,z⟩
 obtain⟨O,t,C⟩:=YT hd;simp only[Rf.emptyFrom,hd]at b;by_cases g:c=92
 ·have M:((s[k].toNat:Int)==92)=true:=by rw[t,g];rfl
  rw[if_pos g]at b;rcases ho:Rf.one (c::r)with _|⟨a,n⟩
  ·rw[ho]at b;cases b
  have o:Rf.one (s.data.toList.drop k)=some (a,n):=by rw[hd];exact ho
  obtain⟨K,L,R,S⟩:=Rf.one_bd ho;rw[ho]at b;have y:=hyd b;clear b hd t C g ho;go_wp2_with fail;refine(Wl s k _ a n _ hs rfl o).mono ?_;rintro e w1 ⟨rfl,q,rfl⟩;go_wp2;go_roundw
  ·exact⟨f,k+n,by go_num,z.trans (YR _ _ _),y⟩
  simp[intOf];omega
 have I:((s[k].toNat:Int)==92)=false:=by rw[t];exact Yn g
 rw[if_neg g]at b;by_cases m:c=91
 ·have M:((s[k].toNat:Int)==91)=true:=by rw[t,m];rfl
  rw[if_pos m]at b;rcases ho:Rf.set r k with _|⟨j,fa,inn⟩
  ·rw[ho]at b;cases b
  have o:Rf.set (s.data.toList.drop (k+1)) k=some (j,fa,inn):=by rw[C];exact ho
  have T:=Rf.set_ge ho;rw[ho]at b;have y:=hyd b;clear b hd t C g m ho;go_wp2_with fail;refine(OD s k _ j fa inn _ hs rfl o).mono ?_;rintro e w1 ⟨rfl,J,F⟩;have A:=z.trans (F.mono z.size);clear o;go_wp2
  go_loop [7,8] (λn x=>∃l:Nat,l<=256/\x=I6 l/\n=I6 (Rf.cntTo inn l)) (λ_ x=>256-(intOf x).toNat)
  ·exact⟨0,by omega,rfl,rfl⟩
  obtain⟨l,P,rfl,rfl⟩:=hrel;have Q:=Rf.cntTo_le inn l;by_cases G:l<256
  ·obtain⟨B,N⟩:=J l G;cases hin:inn l
   ·rw[hin]at B;have D:Hid (Rf.cntTo inn (l+1)=Rf.cntTo inn l):=by show _=_;simp[Rf.cntTo,hin]
    clear hin;go_wp2
    go_round
    ·exact⟨l+1,by omega,by go_num,by rw[D.out]⟩
    simp[intOf];omega
   rw[hin]at B;have D:Hid (Rf.cntTo inn (l+1)=Rf.cntTo inn l+1):=by show _=_;simp[Rf.cntTo,hin]
   clear hin;go_wp2
   go_round
   ·exact⟨l+1,by omega,by go_num,by rw[D.out];go_num⟩
   simp[intOf];omega
  have u:l=256:=by omega
  subst u;by_cases h0:Rf.cntTo inn 256=0
  ·have E:((Rf.cntTo inn 256:Int)==0)=true:=by simp[h0]
   have d:=y.out;rw[if_pos h0]at d;have p:Hid (some (k:Int)=some v):=d;clear d h0;go_wp2;go_ret;exact⟨YY (Zh p.out),A⟩
  have E:((Rf.cntTo inn 256:Int)==0)=false:=by simp[h0]
  have d:=y.out;rw[if_neg h0]at d;have p:Hid (Rf.emptyFrom s.data.toList f j=some v):=d;clear d h0;go_wp2;go_roundw
  ·exact⟨f,j,rfl,A,p⟩
  simp[intOf];omega
 have H:((s[k].toNat:Int)==91)=false:=by rw[t];exact Yn m
 rw[if_neg m]at b;have y:=hyd b;clear b hd t C g m;go_wp2;go_roundw
 ·exact⟨f,k+1,by go_num,z,y⟩
 simp[intOf];omega
theorem Rk (s:ByteArray) (k:Nat) (i:Int) (n:Nat) (w:World) (hs:s.size<=40) (y:i=k) (h:Rf.suffixed s.data.toList k=some n):
  Cp 163 #[.string s,I6 i] w λe w'=>e=.returned (I6 n)/\w'=w:=by
 subst y;rcases hd:s.data.toList.drop k with _|⟨c,r⟩
 ·simp[Rf.suffixed,hd]at h
 obtain⟨o,a,j⟩:=YT hd;simp only[Rf.suffixed,hd]at h;by_cases e:c=123
 ·have l:((s[k].toNat:Int)==123)=true:=by rw[a,e];rfl
  rw[if_pos e]at h;clear hd a j e;go_enter Tryz.func163,Tryz.ntmps163;go_wp2
  go_loop [1] (λi=>∃(f d:Nat),i=I6 d/\Hid (Rf.closeFrom s.data.toList f d=some n)) (λi=>s.size-(intOf i).toNat)
  ·exact⟨_,k,rfl,h⟩
  clear h;obtain⟨f,d,rfl,HS⟩:=hrel;rcases f with _|f
  ·exact absurd HS.out (by simp[Rf.closeFrom])
  have b:=HS.out;clear HS;rcases hd:s.data.toList.drop d with _|⟨c,r⟩
  ·simp[Rf.closeFrom,hd]at b
  obtain⟨m,a,j⟩:=YT hd;simp only[Rf.closeFrom,hd]at b;by_cases e:c=125
  ·have l:((s[d].toNat:Int)==125)=true:=by rw[a,e];rfl
   rw[if_pos e]at b;have g:=hyd b;clear b hd a j e;go_wp2;go_ret;exact⟨YY (by have:=Zh g.out;omega),rfl⟩
  have l:((s[d].toNat:Int)==125)=false:=by rw[a];exact Yn e
  rw[if_neg e]at b;have g:=hyd b;clear b hd a j e;go_wp2
  go_round
  ·exact⟨f,d+1,by go_num,g⟩
  simp[intOf];omega
 have l:((s[k].toNat:Int)==123)=false:=by rw[a];exact Yn e
 rw[if_neg e]at h;have g:=hyd h;clear hd a j e h;go_enter Tryz.func163,Tryz.ntmps163;go_wp2;go_ret;exact⟨YY (by have:=Zh g.out;omega),rfl⟩
theorem JH (s:ByteArray) (n:Nat) (w:World) (hs:s.size<=40) (h:Rf.atom s.data.toList=some n):
  Cp 161 #[.string s] w λe w'=>e=.returned (I6 n)/\Bl w w':=by
 rcases hd:s.data.toList.drop 0 with _|⟨c,r⟩
 ·rw[Zw]at hd;rw[hd]at h;cases h
 obtain⟨H,m,u⟩:=YT hd;have x:s.data.toList=c::r:=by rw[Zw]at hd;exact hd
 by_cases b:c=92
 ·have z:((s[0].toNat:Int)==92)=true:=by rw[m,b];rfl
  have ⟨a,ho⟩:∃a,Rf.one (s.data.toList.drop 0)=some (a,n):=by
   rw[x]at h ⊢;simp only[Rf.atom,if_pos b,Zw]at h ⊢;rcases ho:Rf.one (c::r)with _|⟨a,n'⟩
   ·rw[ho]at h;cases h
   rw[ho]at h;simp at h;subst h;exact⟨a,rfl⟩
  clear hd m u x b h;go_enter Tryz.func161,Tryz.ntmps161;go_wp2_with fail;refine(Wl s 0 _ a n _ hs rfl ho).mono ?_;rintro e w1 ⟨rfl,q,rfl⟩;go_wp2;go_ret;exact⟨YY (by omega),YR _ _ _⟩
 have C:((s[0].toNat:Int)==92)=false:=by rw[m];exact Yn b
 by_cases d:c=91
 ·have z:((s[0].toNat:Int)==91)=true:=by rw[m,d];rfl
  have ⟨fa,inn,ho⟩:∃fa inn,Rf.set (s.data.toList.drop (0+1)) 0=some (n,fa,inn):=by
   rw[u];rw[x]at h;simp only[Rf.atom,if_neg b,if_pos d]at h;rcases ho:Rf.set r 0 with _|⟨n',fa,inn⟩
   ·rw[ho]at h;cases h
   rw[ho]at h;simp at h;subst h;exact⟨fa,inn,rfl⟩
  clear hd m u x b h d;go_enter Tryz.func161,Tryz.ntmps161;go_wp2_with fail;refine(OD s 0 _ n fa inn _ hs rfl ho).mono ?_;rintro e w1 ⟨rfl,I,v⟩;go_wp2;go_ret;exact⟨rfl,v⟩
 have B:((s[0].toNat:Int)==91)=false:=by rw[m];exact Yn d
 by_cases l:c=40
 ·have z:((s[0].toNat:Int)==40)=true:=by rw[m,l];rfl
  have G:Rf.groupFrom s.data.toList (r.length+2) 0 0=some n:=by
   rw[x]at h ⊢;simp only[Rf.atom,if_neg b,if_neg d,if_pos l]at h;exact h
  clear hd m u x b h d l;go_enter Tryz.func161,Tryz.ntmps161;go_wp2
  go_loopw [8,9] (λo i w'=>∃(f k:Nat) (op:Int),i=I6 k/\o=I6 op/\-(k:Int)<=op/\op<=k/\Bl w w'/\Hid (Rf.groupFrom s.data.toList f k op=some n)) (λ_ i _=>s.size-(intOf i).toNat)
  ·exact⟨_,0,0,rfl,rfl,by omega,by omega,Zk _ _,G⟩
  clear G;obtain⟨f,k,op,rfl,rfl,O,P,v,HS⟩:=hrel;rcases f with _|f
  ·exact absurd HS.out (by simp[Rf.groupFrom])
  have g:=HS.out;clear HS;rcases hd:s.data.toList.drop k with _|⟨c,r⟩
  ·simp only[Rf.groupFrom,hd,Zp]at g;have H:s.size<=k:=by simpa using hd
   have t:=hyd g;clear hd g;go_wp2;go_ret;exact⟨YY (by have:=t.out;omega),v⟩
  obtain⟨H,m,u⟩:=YT hd;simp only[Rf.groupFrom,hd]at g;by_cases b:c=92
  ·have z:((s[k].toNat:Int)==92)=true:=by rw[m,b];rfl
   rw[if_pos b]at g;rcases ho:Rf.one (c::r)with _|⟨a,n'⟩
   ·rw[ho]at g;cases g
   have y:Rf.one (s.data.toList.drop k)=some (a,n'):=by rw[hd];exact ho
   obtain⟨J,K,M,N⟩:=Rf.one_bd ho;rw[ho]at g;have t:=hyd g;clear g hd m u b ho;go_wp2_with fail;refine(Wl s k _ a n' _ hs rfl y).mono ?_;rintro e w1 ⟨rfl,q,rfl⟩;go_wp2;go_roundw
   ·exact⟨f,k+n',op,by go_num,rfl,by omega,by omega,v.trans (YR _ _ _),t⟩
   simp[intOf];omega
  have C:((s[k].toNat:Int)==92)=false:=by rw[m];exact Yn b
  rw[if_neg b]at g;by_cases d:c=91
  ·have z:((s[k].toNat:Int)==91)=true:=by rw[m,d];rfl
   rw[if_pos d]at g;rcases ho:Rf.set r k with _|⟨j,fa,inn⟩
   ·rw[ho]at g;cases g
   have y:Rf.set (s.data.toList.drop (k+1)) k=some (j,fa,inn):=by rw[u];exact ho
   have Q:=Rf.set_ge ho;rw[ho]at g;have t:=hyd g;clear g hd m u b d ho;go_wp2_with fail;refine(OD s k _ j fa inn _ hs rfl y).mono ?_;rintro e w1 ⟨rfl,I,E⟩;go_wp2;go_roundw
   ·exact⟨f,j,op,rfl,rfl,by omega,by omega,v.trans (E.mono v.size),t⟩
   simp[intOf];omega
  have B:((s[k].toNat:Int)==91)=false:=by rw[m];exact Yn d
  rw[if_neg d]at g;by_cases l:c=40
  ·have z:((s[k].toNat:Int)==40)=true:=by rw[m,l];rfl
   rw[if_pos l]at g;have t:=hyd g;clear g hd m u b d l;go_wp2;go_roundw
   ·exact⟨f,k+1,op+1,by go_num,rfl,by omega,by omega,v,t⟩
   simp[intOf];omega
  have A:((s[k].toNat:Int)==40)=false:=by rw[m];exact Yn l
  rw[if_neg l]at g;by_cases p:c=41
  ·have z:((s[k].toNat:Int)==41)=true:=by rw[m,p];rfl
   rw[if_pos p]at g;by_cases h1:op-1=0
   ·rw[if_pos h1]at g;have t:=hyd g;have D:((op-1)==0)=true:=by simp;omega
    clear g hd m u b d l p h1;go_wp2;go_ret;exact⟨YY (by have:=Zh t.out;omega),v⟩
   rw[if_neg h1]at g;have t:=hyd g;have D:((op-1)==0)=false:=by simp;omega
   clear g hd m u b d l p h1;go_wp2;go_roundw
   ·exact⟨f,k+1,op-1,by go_num,rfl,by omega,by omega,v,t⟩
   simp[intOf];omega
  have F:((s[k].toNat:Int)==41)=false:=by rw[m];exact Yn p
  rw[if_neg p]at g;have t:=hyd g;clear g hd m u b d l p;go_wp2;go_roundw
  ·exact⟨f,k+1,op,by go_num,rfl,by omega,by omega,v,t⟩
  simp[intOf];omega
 have A:((s[0].toNat:Int)==40)=false:=by rw[m];exact Yn l
 have L:n=1:=by
  rw[x]at h;simp only[Rf.atom,if_neg b,if_neg d,if_neg l,Zp]at h;exact h.symm
 subst L;clear hd m u x b h d l;go_enter Tryz.func161,Tryz.ntmps161;go_wp2;go_ret;exact⟨rfl,Zk _ _⟩
theorem Qu (s:ByteArray) (n:Nat) (w:World) (hs:s.size<=40) (h:Rf.piece s.data.toList=some n):
  Cp 112 #[.string s] w λe w'=>e=.returned (I6 n)/\Bl w w':=by
 rcases ha:Rf.atom s.data.toList with _|n0
 ·simp[Rf.piece,ha]at h
 simp only[Rf.piece,ha]at h;go_enter Tryz.func112,Tryz.ntmps112;go_wp2_with fail;refine(JH s n0 _ hs ha).mono ?_;rintro e w1 ⟨rfl,j⟩;clear ha;go_wp2
 go_loop [3] (λi=>∃(f k:Nat),i=I6 k/\Hid (Rf.pieceFrom s.data.toList f k=some n)) (λi=>s.size-(intOf i).toNat)
 ·exact⟨_,n0,rfl,h⟩
 clear h;obtain⟨f,k,rfl,HS⟩:=hrel;rcases f with _|f
 ·exact absurd HS.out (by simp[Rf.pieceFrom])
 have a:=HS.out;clear HS;rcases hd:s.data.toList.drop k with _|⟨c,r⟩
 ·simp only[Rf.pieceFrom,hd,Zp]at a;have o:s.size<=k:=by simpa using hd
  have b:=hyd a;clear hd a;go_wp2;go_ret;exact⟨YY (by have:=b.out;omega),j⟩
 obtain⟨o,g,l⟩:=YT hd;simp only[Rf.pieceFrom,hd]at a;rw[<-g]at a;cases hh:Rf.has Rf.suffixes s[k].toNat
 ·rw[hh]at a;have b:=hyd a;have d:=hyd hh;clear a hd g l hh;go_wp2_with fail;refine(Pf _ _ _ (by decide)).mono ?_;rintro e w' ⟨rfl,rfl⟩;rw[show Rf.has (ByteArray.data { data:=#[42,43,63,123] }).toList ↑s[k].toNat=false from d.out];go_wp2;go_ret;exact⟨YY (by have:=Zh b.out;omega),j⟩
 rw[hh]at a;rcases hsf:Rf.suffixed s.data.toList k with _|n'
 ·rw[hsf]at a;simp at a
 rw[hsf]at a;have m:=Rf.suffixed_gt hsf;have b:=hyd a;have d:=hyd hh;clear a hd g l hh;go_wp2_with fail;refine(Pf _ _ _ (by decide)).mono ?_;rintro e w' ⟨rfl,rfl⟩;rw[show Rf.has (ByteArray.data { data:=#[42,43,63,123] }).toList ↑s[k].toNat=true from d.out];go_wp2_with fail;refine(Rk s k _ n' _ hs rfl hsf).mono ?_;rintro e w' ⟨rfl,rfl⟩;go_wp2
 go_round
 ·exact⟨f,n',rfl,b⟩
 simp[intOf];omega
theorem Uk (s:ByteArray) (a b:Nat):(s.extract a b).data.toList=(s.data.toList.take b).drop a:=by
 simp[ByteArray.data_extract,List.extract_eq_take_drop,List.drop_take]
theorem EE (s:ByteArray) (b:Nat):(s.extract 0 b).data.toList=s.data.toList.take b:=by
 rw[Uk];rfl
theorem SU (s:ByteArray) (a:Nat):(s.extract a s.size).data.toList=s.data.toList.drop a:=by
 rw[Uk,List.take_of_length_le (by simp)]
theorem WM (s:ByteArray) (a b:Nat) (h:s.size<=40):(s.extract a b).size<=40:=by
 simp[ByteArray.size_extract];omega
theorem Uu (s:ByteArray) (n:Nat) (w:World) (hs:s.size<=40) (h:Rf.split s.data.toList=some n):
  Cp 164 #[.string s] w λe w'=>e=.returned (.tuple #[.string (s.extract 0 n),.string (s.extract n s.size)])/\Bl w w':=by
 rcases ha:Rf.atom s.data.toList with _|n0
 ·simp[Rf.split,ha]at h
 simp only[Rf.split,ha]at h;have h0:n0<=s.size:=by have:=(Rf.atom_le ha).2;simpa using this
 go_enter Tryz.func164,Tryz.ntmps164;go_wp2_with fail;refine(JH s n0 _ hs ha).mono ?_;rintro e w1 ⟨rfl,d⟩;go_wp2
 go_loop [4,5] (λi j=>∃(f k c:Nat),i=I6 k/\j=I6 c/\c<=s.size/\Hid (Rf.splitFrom s.data.toList f k c=some n)) (λi _=>s.size-(intOf i).toNat)
 ·exact⟨_,n0,n0,rfl,rfl,h0,h⟩
 obtain⟨f,k,c0,rfl,rfl,g,HS⟩:=hrel;rcases f with _|f
 ·exact absurd HS.out (by simp[Rf.splitFrom])
 have a:=HS.out;rcases hd:s.data.toList.drop k with _|⟨c,r⟩
 ·simp only[Rf.splitFrom,hd,Zp]at a;have m:s.size<=k:=by simpa using hd
  subst a;have q:(0:Int)<=c0/\(c0:Int)<=(s.size:Int):=by omega
  go_wp2
  go_quiet (fail)
  go_wp2;go_ret2;exact⟨rfl,d.trans (YR _ _ _)⟩
 obtain⟨m,o,p⟩:=YT hd;simp only[Rf.splitFrom,hd]at a;rcases hsf:Rf.suffixed s.data.toList k with _|n'
 ·rw[hsf]at a;simp at a
 rw[hsf]at a;have l:=Rf.suffixed_gt hsf;have b:=hyd a;go_wp2_with fail;refine(Rk s k _ n' _ hs rfl hsf).mono ?_;rintro e w' ⟨rfl,rfl⟩;go_wp2
 go_round
 ·exact⟨f,n',k,rfl,rfl,by omega,b⟩
 simp[intOf];omega
theorem IO (s:ByteArray) (m:Int) (w:World) (hs:s.size<=40) (h:Rf.most s.data.toList=some m):
  Cp 165 #[.string s] w λe w'=>∃l:Int,e=.returned (.tuple #[I6 l,I6 m])/\Bl w w':=by
 rcases hd:s.data.toList.drop 0 with _|⟨c,_|⟨x,_|⟨y,r⟩⟩⟩
 ·rw[Zw]at hd;rw[hd]at h;simp[Rf.most]at h
 ·rw[Zw]at hd;rw[hd]at h;simp[Rf.most]at h
 ·rw[Zw]at hd;rw[hd]at h;simp[Rf.most]at h
 obtain⟨K,A,u⟩:=YT hd;obtain⟨p,g,j⟩:=YT u;obtain⟨q,i,k⟩:=YT j;rw[Zw]at hd;rw[hd]at h;simp only[Rf.most]at h;have B:=p;have C:=q;have d:=g;have a:=i;have L:(1:Int)<(s.size:Int):=by omega
 have M:(2:Int)<(s.size:Int):=by omega
 rw[<-d]at h;cases hdx:Rf.digit s[1].toNat
 ·rw[hdx]at h;cases h
 rw[hdx,if_pos rfl]at h;have F:48<=(s[1].toNat:Int)/\(s[1].toNat:Int)<=57:=by simpa[Rf.digit]using hdx
 obtain⟨G,H⟩:=F;by_cases b:y=44
 ·have E:((s[2].toNat:Int)==44)=true:=by rw[a,b];rfl
  rw[if_pos b]at h;rcases r with _|⟨z,O⟩
  ·cases h
  obtain⟨t,n,v⟩:=YT k;have D:=t;have f:=n;have N:(3:Int)<(s.size:Int):=by omega
  simp only[<-f]at h;cases hdz:Rf.digit s[3].toNat
  ·rw[hdz]at h;cases h
  rw[hdz,if_pos rfl]at h;have hz:48<=(s[3].toNat:Int)/\(s[3].toNat:Int)<=57:=by simpa[Rf.digit]using hdz
  obtain⟨I,J⟩:=hz;have o:=Zh h;subst o;clear hd A u g j i k d a h hdx b n v f hdz;go_enter Tryz.func165,Tryz.ntmps165;go_wp2
  go_quiet (fail)
  go_wp2;go_ret2;exact⟨_,rfl,YR _ _ _⟩
 have E:((s[2].toNat:Int)==44)=false:=by rw[a];exact Yn b
 rw[if_neg b]at h;have o:=Zh h;subst o;clear hd A u g j i k d a h hdx b;go_enter Tryz.func165,Tryz.ntmps165;go_wp2;go_ret2;exact⟨_,rfl,Zk _ _⟩
theorem Ik (s:ByteArray) (k n:Nat):(s.extract k (k+n)).data.toList=(s.data.toList.drop k).take n:=by
 rw[Uk,List.drop_take];congr 1;omega
def Nn (f:Nat):Prop:=∀(s:ByteArray) (v:Int) (w:World),s.size<=40->Rf.cnt f true s.data.toList=some v ->
 Calls Tryz.prog 51 #[.string s] w λe w'=>e=.returned (.int .i64 v)/\Below w.heap.size w w'
def Le (f:Nat):Prop:=∀(s:ByteArray) (v:Int) (w:World),s.size<=40->Rf.cnt f false s.data.toList=some v ->
 Calls Tryz.prog 113 #[.string s] w λe w'=>e=.returned (.int .i64 v)/\Below w.heap.size w w'
theorem KD (f:Nat) (ih:∀g,g<f->Le g):Nn f:=by
 intro s v w hs h;have N:=Rf.cnt_small h (by simpa using hs);go_enter Tryz.func51,Tryz.ntmps51;go_wp2
 go_loopw [3,4] (λn i w'=>∃(g k:Nat) (a b:Int),g<=f/\i=I6 k/\n=I6 a/\0<=a/\k<=s.size/\a+b=v/\Bl w w'/\Hid (Rf.cnt g true (s.data.toList.drop k)=some b)) (λ_ i _=>s.size-(intOf i).toNat)
 ·exact⟨f,0,0,v,Zg _,rfl,rfl,by omega,by omega,by omega,Zk _ _,h⟩
 clear h;obtain⟨g,k,a,b,M,rfl,rfl,ha,H,l,p,HS⟩:=hrel;rcases g with _|g
 ·exact absurd HS.out (by simp[Rf.cnt])
 have j:=HS.out;clear HS;rcases hd:s.data.toList.drop k with _|⟨c,r⟩
 ·simp only[Rf.cnt,hd,Zp]at j;have G:s.size<=k:=by simpa using hd
  have u:Hid (a=v):=by show _=_;omega
  clear hd j l;go_wp2;go_ret;exact⟨YY u.out,p⟩
 obtain⟨G,q,C⟩:=YT hd;simp only[Rf.cnt,hd]at j;by_cases d:c=124
 ·have m:((s[k].toNat:Int)==124)=true:=by rw[q,d];rfl
  rw[if_pos d,<-C]at j;have u:=hyd j;have t:=hyd l;clear j hd q C d l;go_wp2;go_roundw
  ·exact⟨g,k+1,a,b,by omega,by go_num,rfl,ha,by omega,t,p,u⟩
  simp[intOf];omega
 have m:((s[k].toNat:Int)==124)=false:=by rw[q];exact Yn d
 rw[if_neg d]at j;rcases hp:Rf.piece (c::r)with _|n
 ·rw[hp]at j;cases j
 obtain⟨I,J⟩:=Rf.piece_le hp;rw[hp]at j;simp only at j;rcases hx:Rf.cnt g false ((c::r).take n)with _|x
 ·rw[hx]at j;simp at j
 rcases hy:Rf.cnt g true ((c::r).drop n)with _|y
 ·rw[hx,hy]at j;simp at j
 rw[hx,hy]at j;simp only[Zp]at j;have E:(c::r).length=s.size-k:=by rw[<-hd];simp
 have B:Rf.piece (s.extract k s.size).data.toList=some n:=by rw[SU,hd];exact hp
 have D:Rf.cnt g false (s.extract k (k+n)).data.toList=some x:=by rw[Ik,hd];exact hx
 have K:=Rf.cnt_small hx (by rw[List.length_take];omega);have L:=Rf.cnt_small hy (by rw[List.length_drop];omega);have F:Hid (Rf.cnt g true (s.data.toList.drop (k+n))=some y):=by show _=_;rw[<-List.drop_drop,hd];exact hy
 have t:Hid (a+x+y=v):=by show _=_;omega
 have⟨ax,hkn⟩:a+x<=9094947017729282/\k+n<=s.size:=by omega
 clear j hd q C d l hp hx hy;go_wp2_with fail;refine(Qu _ n _ (WM s _ _ hs) B).mono ?_;rintro e w1 ⟨rfl,z⟩;go_wp2_with fail;refine(ih g (by omega) _ x _ (WM s _ _ hs) D).mono ?_;rintro e w2 ⟨rfl,A⟩;go_wp2;go_roundw
 ·have o:=p.trans (z.mono p.size);exact⟨g,k+n,a+x,y,by omega,by go_num,rfl,by omega,hkn,t.out,o.trans (A.mono o.size),F⟩
 simp[intOf];omega
theorem G9 (f:Nat) (ih:∀g,g<f->Le g) (Y:∀g,g<f->Nn g):Le f:=by
 intro s v w hs h;have P:=Rf.cnt_small h (by simpa using hs);rcases f with _|f
 ·simp[Rf.cnt]at h
 have L:=ih f (by omega);have E:=Y f (by omega);clear ih Y;simp only[Rf.cnt]at h;rcases hsp:Rf.split s.data.toList with _|a
 ·rw[hsp]at h;cases h
 have q:=Rf.split_le hsp;rw[hsp]at h;simp only at h;have M:a<=s.size:=by simpa using q
 rcases hd:s.data.toList.drop a with _|⟨u,K⟩
 ·rw[hd]at h;have B:a=s.size:=by
    have:s.size<=a:=by simpa using hd
    omega
  subst B;rcases hl:s.data.toList.drop 0 with _|⟨c,r⟩
  ·rw[Zw]at hl;rw[hl]at h;simp at h
  obtain⟨N,p,x⟩:=YT hl;rw[Zw]at hl;by_cases d:c=40
  ·have G:((s[0].toNat:Int)==40)=true:=by rw[p,d];rfl
   rw[hl]at h;simp only[if_pos d]at h;have H:r.length=s.size-1:=by rw[<-x];simp
   by_cases y:r.length=0
   ·rw[if_pos y]at h;cases h
   rw[if_neg y]at h;have t:Rf.cnt f true (s.extract 1 (s.size-1)).data.toList=some v:=by
    rw[Uk,List.drop_take,x,show s.size-1-1=r.length-1 by omega];exact h
   have h2:1<=s.size-1:=by omega
   clear hl p x h d hd q y H;go_enter Tryz.func113,Tryz.ntmps113;go_wp2_with fail;refine(Uu s _ _ hs hsp).mono ?_;rintro e w1 ⟨rfl,k⟩;go_wp2_with fail;refine(E _ v _ (WM s _ _ hs) t).mono ?_;rintro e w2 ⟨rfl,j⟩;go_wp2;go_ret;exact⟨rfl,k.trans (j.mono k.size)⟩
  have G:((s[0].toNat:Int)==40)=false:=by rw[p];exact Yn d
  rw[hl]at h;simp only[if_neg d,Zp]at h;subst h;clear hl p x d hd q;go_enter Tryz.func113,Tryz.ntmps113;go_wp2_with fail;refine(Uu s _ _ hs hsp).mono ?_;rintro e w1 ⟨rfl,k⟩;go_wp2;go_ret;exact⟨rfl,k⟩
 obtain⟨N,p,x⟩:=YT hd;rw[hd]at h;simp only at h;rcases hx:Rf.cnt f false (s.data.toList.take a)with _|n
 ·rw[hx]at h;cases h
 rw[hx]at h;simp only at h;have C:Rf.cnt f false (s.extract 0 a).data.toList=some n:=by rw[EE];exact hx
 have i:(s.extract a s.size).data.toList=u::K:=by rw[SU,hd]
 have J:0<(s.extract a s.size).size:=by
  have:(s.extract a s.size).data.toList.length=K.length+1:=by rw[i];rfl
  simp at this;simp;omega
 have o:(s.extract a s.size)[0]=u:=by
  have:=NO (s.extract a s.size) 0 J;rw[this,i];rfl
 have I:(s.extract a s.size).size<=40:=WM s _ _ hs;have z:=hyd (Uu s a w hs hsp);generalize s.extract a s.size=ub at *;have O:ub.toList.isEmpty=false:=by rw[ByteArray.toList_eq,i];rfl
 by_cases b:u=123
 ·rw[if_pos b]at h;have G:((ub[0].toNat:Int)==123)=true:=by rw[o,b];rfl
  rcases t:Rf.most (u::K)with _|m
  ·rw[t]at h;cases h
  rw[t]at h;simp only[Option.map_some,Zp]at h;obtain⟨Q,R,m2⟩:=Rf.most_bd t;rw[<-i]at t;have D:=hyd h;have S:0<=n*m/\n*m<=9094947017729282:=by rw[h];exact P
  clear h o i hx hd p x b;go_enter Tryz.func113,Tryz.ntmps113;go_wp2_with fail;refine z.out.mono ?_;rintro e w1 ⟨rfl,k⟩;go_wp2_with fail;refine(L _ n _ (WM s _ _ hs) C).mono ?_;rintro e w2 ⟨rfl,j⟩;go_wp2_with fail;refine(IO ub m _ I t).mono ?_;rintro e w3 ⟨l,rfl,F⟩;go_wp2;go_ret;have A:=k.trans (j.mono k.size);exact⟨YY D,A.trans (F.mono A.size)⟩
 rw[if_neg b]at h;have G:((ub[0].toNat:Int)==123)=false:=by rw[o];exact Yn b
 have D:=hyd (Zh h);clear h o i hx hd p x b;go_enter Tryz.func113,Tryz.ntmps113;go_wp2_with fail;refine z.out.mono ?_;rintro e w1 ⟨rfl,k⟩;go_wp2_with fail;refine(L _ n _ (WM s _ _ hs) C).mono ?_;rintro e w2 ⟨rfl,j⟩;go_wp2;go_ret;exact⟨YY D,k.trans (j.mono k.size)⟩
theorem Pd:∀f:Nat,Nn f/\Le f:=by
 intro f
 induction f using Nat.strongRecOn with
 |ind f ih=>exact⟨KD f (λg a=>(ih g a).2),G9 f (λg a=>(ih g a).2) (λg a=>(ih g a).1)⟩
theorem QC (s:ByteArray) (e a:Int) (w:World) (y:s.size<=maxLen) (h:Rf.WrongIs s.data.toList e a):
  Cp 50 #[.string s] w λe' w'=>e'=.returned (.tuple #[I6 e,I6 a])/\Bl w w':=by
 unfold maxLen at y;rcases h with ⟨k,rfl,rfl⟩|⟨k,h⟩
 ·have r:40<s.size:=by simpa using k
  go_enter Tryz.func50,Tryz.ntmps50;go_wp2;go_ret2;exact⟨rfl,Zk _ _⟩
 have hs:s.size<=40:=by simpa using k
 rcases h with ⟨q,rfl,rfl⟩|⟨q,h⟩
 ·go_enter Tryz.func50,Tryz.ntmps50;go_wp2_with fail;refine(QQ s _ hs).mono ?_;rintro e w1 ⟨rfl,b⟩;go_wp2;go_ret2;exact⟨rfl,b⟩
 rcases h with ⟨p,rfl,rfl⟩|⟨p,f,v,o,h⟩
 ·go_enter Tryz.func50,Tryz.ntmps50;go_wp2_with fail;refine(QQ s _ hs).mono ?_;rintro e w1 ⟨rfl,b⟩;go_wp2_with fail;refine(NE s _ hs).mono ?_;rintro e w2 ⟨rfl,c⟩;go_wp2;go_ret2;exact⟨rfl,b.trans (c.mono b.size)⟩
 rcases h with ⟨m,rfl,rfl⟩|⟨m,g,u,t,h⟩
 ·go_enter Tryz.func50,Tryz.ntmps50;go_wp2_with fail;refine(QQ s _ hs).mono ?_;rintro e w1 ⟨rfl,b⟩;go_wp2_with fail;refine(NE s _ hs).mono ?_;rintro e w2 ⟨rfl,c⟩;have i:=b.trans (c.mono b.size);go_wp2_with fail;refine(MF s _ f _ hs o).mono ?_;rintro e w3 ⟨rfl,d⟩;go_wp2;go_ret2;exact⟨rfl,i.trans (d.mono i.size)⟩
 rcases h with ⟨l,rfl,rfl⟩|⟨l,rfl,rfl⟩
 all_goals
  go_enter Tryz.func50,Tryz.ntmps50;go_wp2_with fail;refine(QQ s _ hs).mono ?_;rintro e w1 ⟨rfl,b⟩;go_wp2_with fail;refine(NE s _ hs).mono ?_;rintro e w2 ⟨rfl,c⟩;have i:=b.trans (c.mono b.size);go_wp2_with fail;refine(MF s _ f _ hs o).mono ?_;rintro e w3 ⟨rfl,d⟩;have n:=i.trans (d.mono i.size);go_wp2_with fail;refine(Gp s _ g _ hs t).mono ?_;rintro e x ⟨rfl,j⟩;go_wp2;go_ret2;exact⟨rfl,n.trans (j.mono n.size)⟩
theorem LQ (ad:Option Addr) (len cap:Nat) (w:World) (y:len<=maxLen) (h:len=0\/8<len):
  Cp 26 #[.slice ad len cap] w λe' w'=>e'=.returned (.tuple #[I6 1,I6 0,I6 0])/\w'=w:=by
 unfold maxLen at y;rcases h with h|h
 ·subst h;go_enter Tryz.func26,Tryz.ntmps26;go_wp2;go_ret3;exact⟨rfl,rfl⟩
 have h0:((len:Int)==0)=false:=by simp;omega
 go_enter Tryz.func26,Tryz.ntmps26;go_wp2;go_ret3;exact⟨rfl,rfl⟩
def Sg (b off:Nat) (f:Nat->ByteArray) (n:Nat) (w:World):Prop:=∀i,i<n->w.cell? ⟨b,off+i,none⟩=some (.string (f i))
theorem Sg.below {y:Nat}{f:Nat->ByteArray} (h:Sg b y f n w) (H:b<B) (z:Below B w w'):Sg b y f n w':=λi a=>by
 rw[z.cell (p:=(a_ b (y+i))) H];exact h i a
def K2 (f:Nat->ByteArray) (n:Nat) (e r a:Int):Prop:=
 (∃i:Nat,i<n/\(∀j,j<i->Rf.WrongIs (f j).data.toList 0 0)/\Rf.WrongIs (f i).data.toList e a/\e≠0/\r=i) \/
 ((∀j,j<n->Rf.WrongIs (f j).data.toList 0 0/\(f j).size<=40)/\r=0/\a=0 /\
  ∃vs:Nat->Int,(∀j,j<n->∃g,Rf.cnt g true (f j).data.toList=some (vs j))/\e=if 96<Ye vs n then 7 else 0)
theorem P0 (b Y cap n:Nat) (f:Nat->ByteArray) (e r a:Int) (w:World) (h1:1<=n) (h8:n<=8) (Z:b<w.heap.size) (hm:∀i,i<n->(f i).size<=maxLen) (hr:Sg b Y f n w) (h:K2 f n e r a):
  Cp 26 #[.slice (some (a_ b Y)) n cap] w λe' w'=>e'=.returned (.tuple #[I6 e,I6 r,I6 a])/\Bl w w':=by
 have Q:((n:Int)==0)=false:=beq_eq_false_iff_ne.2 (by omega);have y:=hyd hm;have z:=hyd hr;rcases h with ⟨J,D,q,I,O,rfl⟩|⟨q,rfl,rfl,vs,u,rfl⟩
 ·have l:=hyd q;have B:=hyd I;have R:(e==0)=false:=by simpa using O
  go_enter Tryz.func26,Tryz.ntmps26;go_wp2
  go_loopw [5] (λi w'=>∃k:Nat,k<=J/\i=I6 k/\Bl w w') (λi _=>9-(intOf i).toNat)
  ·exact⟨0,by omega,rfl,Zk _ _⟩
  obtain⟨k,K,rfl,p⟩:=hrel;have o:=z.out.below Z p k (by omega);by_cases G:k=J
  ·subst G;go_wp2_with fail;refine(QC (f k) e a _ (y k D) B).mono ?_;rintro e' w1 ⟨rfl,d⟩;go_wp2;go_ret3;exact⟨rfl,p.trans (d.mono p.size)⟩
  have E:k<J:=by omega
  go_wp2_with fail;refine(QC (f k) 0 0 _ (y k (by omega)) (l k E)).mono ?_;rintro e' w1 ⟨rfl,d⟩;go_wp2;go_roundw
  ·exact⟨k+1,by omega,by go_num,p.trans (d.mono p.size)⟩
  simp[intOf];omega
 have l:=hyd q;have A:=hyd u;have C:∀k,k<=n->0<=Ye vs k/\Ye vs k<=9094947017729282*k:=by
  intro k
  induction k with
  |zero=>intro _;simp[Ye]
  |succ k ih=>
   intro K;have:=ih (by omega);obtain⟨g,v⟩:=u k (by omega);have h2:=Rf.cnt_small v (by have:=(q k (by omega)).2;simpa using this);simp only[Ye];omega
 have t:=hyd C;go_enter Tryz.func26,Tryz.ntmps26;go_wp2
 go_loopw [5] (λi w'=>∃k:Nat,k<=n/\i=I6 k/\Bl w w') (λi _=>9-(intOf i).toNat)
 ·exact⟨0,by omega,rfl,Zk _ _⟩
 obtain⟨k,K,rfl,p⟩:=hrel;by_cases s:k<n
 ·have o:=z.out.below Z p k s;go_wp2_with fail;refine(QC (f k) 0 0 _ (y k s) (l k s).1).mono ?_;rintro e' w1 ⟨rfl,d⟩;go_wp2;go_roundw
  ·exact⟨k+1,by omega,by go_num,p.trans (d.mono p.size)⟩
  simp[intOf];omega
 go_wp2
 go_loopw [8,9] (λx i w'=>∃k:Nat,k<=n/\i=I6 k/\x=I6 (Ye vs k)/\Bl w w') (λ_ i _=>9-(intOf i).toNat)
 ·exact⟨0,by omega,rfl,rfl,p⟩
 obtain⟨j,F,rfl,rfl,m⟩:=hrel;have M:=t.out j F;by_cases c:j<n
 ·have o:=z.out.below Z m j c;have N:=t.out (j+1) c;obtain⟨g,v⟩:=A.out j c;have P:=Rf.cnt_small v (by have:=(l j c).2;simpa using this);have HS:Hid (Ye vs (j+1)=Ye vs j+vs j):=rfl;go_wp2_with fail;refine((Pd g).1 (f j) (vs j) _ (l j c).2 v).mono ?_;rintro e' w1 ⟨rfl,d⟩;go_wp2;go_roundw
  ·exact⟨j+1,by omega,by go_num,by rw[HS.out],m.trans (d.mono m.size)⟩
  simp[intOf];omega
 have H:j=n:=by omega
 subst H;by_cases L:96<Ye vs j
 ·go_wp2;go_ret3;exact⟨by first|rfl|rw[p_],m⟩
 go_wp2;go_ret3;exact⟨by first|rfl|rw[g_],m⟩
end Go.Proofs.YtoaaklhpmhjhkaaGreat
