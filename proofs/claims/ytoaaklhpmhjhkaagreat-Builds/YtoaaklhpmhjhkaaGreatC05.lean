import Derived.Test.YtoaaklhpmhjhkaaGreatRows
import Derived.WalkSpells
import Derived.WalkLawsBesides
import Derived.Deep.QuietTactic
import Derived.BigQuiet
import Derived.Deep.RegionHeld3
import Derived.Test.YtoaaklhpmhjhkaaGreatC01
set_option maxRecDepth 100000
set_option maxHeartbeats 4000000
set_option linter.all false
namespace Go.Proofs.YtoaaklhpmhjhkaaGreat
open Go.RowKit
theorem q2A (c : Int) (w : World) :
  Calls Tryz.prog 188 #[.int .u8 c] w λe w' => e = .returned (.bool (Rf.digit c)) /\ w' = w := by
 go_enter Tryz.func188, Tryz.ntmps188
 go_wp2
 all_goals
  go_ret;refine ⟨q0v ?_, rfl⟩
  first|(simp [Rf.digit, *]; done)|(simp [Rf.digit, *]; omega)
theorem y0G (c : Int) (w : World) :
  Calls Tryz.prog 187 #[.int .u8 c] w λe w' => e = .returned (.bool (Rf.hex c)) /\ w' = w := by
 go_enter Tryz.func187, Tryz.ntmps187;go_wp2_with fail;refine (q2A c _).mono ?_;rintro e w' ⟨rfl, rfl⟩;go_wp2_with fail
 all_goals
  go_ret;refine ⟨q0v ?_, rfl⟩
  first|(simp [Rf.hex, *]; done)|(simp [Rf.hex, *]; omega)
theorem q6t (s:ByteArray) (c:Int) (w:World) (hs:s.size<=1000):
  Calls Tryz.prog 162 #[.string s,.int .u8 c] w λe w'=>e=.returned (.bool (Rf.has s.data.toList c))/\w'=w:=by
 go_enter Tryz.func162,Tryz.ntmps162
 go_wp2
 go_loop [5] (λi=>∃k:Nat,k<=s.size/\i=.int .i64 k/\Hid (Rf.has s.data.toList c=Rf.has (s.data.toList.drop k) c)) (λi=>s.size-(intOf i).toNat)
 ·exact⟨0,Nat.zero_le _,rfl,rfl⟩
 obtain⟨k,h,rfl,HS⟩:=hrel;by_cases d:k<s.size
 ·have g:=q3w s k d;have f:=hyd g;clear g;by_cases a:((s[k].toNat:Int)==c)=true
  ·go_wp2
   go_ret;refine⟨q0v ?_,rfl⟩;rw[HS.out,f.out];simp[Rf.has,a]
  have b:((s[k].toNat:Int)==c)=false:=by simpa using a
  clear a
  go_wp2
  go_round
  ·exact⟨k+1,by omega,by go_num,by show _=_;rw[HS.out,f.out];simp[Rf.has,b]⟩
  simp[intOf];omega
 go_wp2
 go_ret;refine⟨q0v ?_,rfl⟩;rw[HS.out,List.drop_eq_nil_of_le (by simp;omega)];rfl
theorem q9v (c:Int) (w:World) (h0:0<=c) (h1:c<256) (hx:Rf.hex c=true):
  Calls Tryz.prog 190 #[.int .u8 c] w λe w'=>e=.returned (.int .i64 (Rf.number c))/\w'=w:=by
 cases hd:Rf.digit c
 ·have a:97<=c/\c<=102:=by simp[Rf.hex,hd]at hx;exact hx
  go_enter Tryz.func190,Tryz.ntmps190;go_wp2_with fail;refine(q2A c _).mono ?_;rintro e w' ⟨rfl,rfl⟩;go_wp2_with fail;go_ret;refine⟨q0l ?_,rfl⟩;simp[Rf.number,hd]
 have a:48<=c/\c<=57:=by simp[Rf.digit]at hd;exact hd
 go_enter Tryz.func190,Tryz.ntmps190;go_wp2_with fail;refine(q2A c _).mono ?_;rintro e w' ⟨rfl,rfl⟩;go_wp2_with fail;go_ret;refine⟨q0l ?_,rfl⟩;simp[Rf.number,hd]
structure Rd (b:Nat) (m bk o:Int) (w:World):Prop where
 c0:w.cell? ⟨b,0,none⟩=some (.int .i64 m)
 c1:w.cell? ⟨b,1,none⟩=some (.int .i64 bk)
 c2:w.cell? ⟨b,2,none⟩=some (.int .i64 o)
 f0:w.frozen? ⟨b,0,none⟩=false
 f1:w.frozen? ⟨b,1,none⟩=false
 f2:w.frozen? ⟨b,2,none⟩=false
variable {a' b' bk : Int}{b g : Nat}{w : World}
theorem Rd.set0 {m o:Int} (h:Rd b m bk o w) (x:Int):Rd b x bk o (w.setCell ⟨b,0,none⟩ (.int .i64 x)):=by
 obtain⟨c0,c1,c2,a,c,d⟩:=h;refine⟨?_,?_,?_,?_,?_,?_⟩<;>go_simp
theorem Rd.set1 {m o:Int} (h:Rd b m bk o w) (x:Int):Rd b m x o (w.setCell ⟨b,1,none⟩ (.int .i64 x)):=by
 obtain⟨c0,c1,c2,a,c,d⟩:=h;refine⟨?_,?_,?_,?_,?_,?_⟩<;>go_simp
theorem Rd.set2 {m o:Int} (h:Rd b m bk o w) (x:Int):Rd b m bk x (w.setCell ⟨b,2,none⟩ (.int .i64 x)):=by
 obtain⟨c0,c1,c2,a,c,d⟩:=h;refine⟨?_,?_,?_,?_,?_,?_⟩<;>go_simp
theorem Rd.drew {m o:Int} (h:Rd b m bk o w):Rd b m bk o w.drew:=⟨h.c0,h.c1,h.c2,h.f0,h.f1,h.f2⟩
theorem q0E (w:World) (b k:Nat) (v:Value):Below b w (w.setCell ⟨b,k,none⟩ v):=
 (Below.refl b w).setCell (p:=⟨b,k,none⟩) (Nat.le_refl b) v
def RdPost (b:Nat) (w:World) (x:Rf.RS) (e:Ending) (w':World):Prop:=e=.returned (.bool x.ok)/\Rd b x.m x.bk x.o w'/\Below b w w'
theorem q0Y (b:Nat) (m bk o:Int) (ok:Bool) (m':Int) (w:World) (h:Rd b m bk o w):
  Calls Tryz.prog 186 #[.pointer (some ⟨b,0,none⟩),.bool ok,.int .i64 m'] w (RdPost b w (Rf.to m bk o ok m')):=by
 cases ok
 ·go_enter Tryz.func186,Tryz.ntmps186
  go_wp2
  go_ret;exact⟨rfl,h,Below.refl _ _⟩
 have a:=h.set0 m';obtain⟨c0,c1,c2,c,d,e⟩:=h;go_enter Tryz.func186,Tryz.ntmps186
 go_wp2
 go_ret;exact⟨rfl,a,q0E _ _ _ _⟩
theorem q2z (b:Nat) (m bk o:Int) (c m':Int) (w:World) (h:Rd b m bk o w):
  Calls Tryz.prog 202 #[.pointer (some ⟨b,0,none⟩),.int .u8 c,.int .i64 m'] w (RdPost b w (Rf.inner m bk o c m')):=by
 by_cases a:c=92
 ·subst a;have f:=(h.set1 m').set0 2;obtain⟨c0,c1,c2,j,k,l⟩:=h;go_enter Tryz.func202,Tryz.ntmps202
  go_wp2
  go_ret;exact⟨rfl,f,(q0E _ _ _ _).trans (q0E _ _ _ _)⟩
 have n:(c==92)=false:=by simpa using a
 have d:Rf.inner m bk o c m'=Rf.to m bk o (!Rf.has Rf.notInner c) m':=by unfold Rf.inner;rw[if_neg a]
 rw[d];clear d a;go_enter Tryz.func202,Tryz.ntmps202;go_wp2_with fail;refine(q6t _ c _ (by decide)).mono ?_;rintro e w' ⟨rfl,rfl⟩;go_wp2_with fail;refine(q0Y b m bk o _ m' _ h).mono ?_;rintro e w1 ⟨rfl,g,i⟩;go_wp2_with fail;go_ret;exact⟨rfl,g,i⟩
theorem q7W (b : Nat) (m bk o : Int) (c : Int) (w : World) (h : Rd b m bk o w) (o0 : -1000 <= o) (o1 : o <= 1000) :
  Calls Tryz.prog 203 #[.pointer (some ⟨b, 0, none⟩), .int .u8 c] w (RdPost b w (Rf.outside m bk o c)) := by
 have u := h.set1 1;have v := h.set2 (o + 1);have x := h.set2 (o-1);obtain ⟨c0, c1, c2, y, z, A⟩ := id h;by_cases e : c = 92
 ·subst e;go_enter Tryz.func203, Tryz.ntmps203;go_wp2_with fail;refine (q0Y b m 1 o true 2 _ u).mono ?_;rintro e w1 ⟨rfl, d, a⟩;go_wp2_with fail;go_ret;exact ⟨rfl, d, (q0E _ _ _ _).trans a⟩
 by_cases e : c = 91
 ·subst e;go_enter Tryz.func203, Tryz.ntmps203;go_wp2_with fail;refine (q0Y b m bk o true 9 _ h).mono ?_;rintro e w1 ⟨rfl, d, a⟩;go_wp2_with fail;go_ret;exact ⟨rfl, d, a⟩
 by_cases e : c = 40
 ·subst e;go_enter Tryz.func203, Tryz.ntmps203;go_wp2_with fail;refine (q0Y b m bk (o + 1) true 0 _ v).mono ?_;rintro e w1 ⟨rfl, d, a⟩;go_wp2_with fail;go_ret;exact ⟨rfl, d, (q0E _ _ _ _).trans a⟩
 by_cases e : c = 41
 ·subst e;go_enter Tryz.func203, Tryz.ntmps203;go_wp2_with fail;refine (q0Y b m bk (o-1) _ 1 _ x).mono ?_;rintro e w1 ⟨rfl, d, a⟩;go_wp2_with fail;go_ret;exact ⟨rfl, d, (q0E _ _ _ _).trans a⟩
 by_cases e : c = 124
 ·subst e;go_enter Tryz.func203, Tryz.ntmps203;go_wp2_with fail;refine (q0Y b m bk o true 0 _ h).mono ?_;rintro e w1 ⟨rfl, d, a⟩;go_wp2_with fail;go_ret;exact ⟨rfl, d, a⟩
 by_cases e : c = 42 \/ c = 43 \/ c = 63
 ·have f : Rf.outside m bk o c = ⟨m == 1, m, bk, o⟩ := by simp [Rf.outside, *]
  rw [f]; clear f;rcases e with e|e|e <;>
  ·subst e;go_enter Tryz.func203, Tryz.ntmps203;go_wp2_with fail;go_ret;exact ⟨rfl, h, Below.refl _ _⟩
 have n : (c == 42) = false := by simp; omega
 have p : (c == 43) = false := by simp; omega
 have q : (c == 63) = false := by simp; omega
 by_cases e : c = 123
 ·subst e;go_enter Tryz.func203, Tryz.ntmps203;go_wp2_with fail;refine (q0Y b m bk o _ 5 _ h).mono ?_;rintro e w1 ⟨rfl, d, a⟩;go_wp2_with fail;go_ret;exact ⟨rfl, d, a⟩
 by_cases e : c = 93 \/ c = 125
 ·have f : Rf.outside m bk o c = ⟨false, m, bk, o⟩ := by simp [Rf.outside, *]
  rw [f]; clear f;rcases e with e|e <;>
  ·subst e;go_enter Tryz.func203, Tryz.ntmps203;go_wp2_with fail;go_ret;exact ⟨rfl, h, Below.refl _ _⟩
 have f : Rf.outside m bk o c = Rf.to m bk o true 1 := by simp [Rf.outside, Rf.to, *]
 rw [f]; clear f;have s : (c == 92) = false := by simp; omega
 have r : (c == 91) = false := by simp; omega
 have k : (c == 40) = false := by simp; omega
 have l : (c == 41) = false := by simp; omega
 have i : (c == 124) = false := by simp; omega
 have g : (c == 123) = false := by simp; omega
 have t : (c == 93) = false := by simp; omega
 have j : (c == 125) = false := by simp; omega
 go_enter Tryz.func203, Tryz.ntmps203;go_wp2_with fail;refine (q0Y b m bk o true 1 _ h).mono ?_;rintro e w1 ⟨rfl, d, a⟩;go_wp2_with fail;go_ret;exact ⟨rfl, d, a⟩
theorem y1n (b : Nat) (m bk o : Int) (c : Int) (w : World) (h : Rd b m bk o w) (o0 : -1000 <= o) (o1 : o <= 1000) :
  Calls Tryz.prog 189 #[.pointer (some ⟨b, 0, none⟩), .int .u8 c] w (RdPost b w (Rf.rest m bk o c)) := by
 obtain ⟨c0, c1, c2, q, r, s⟩ := id h;by_cases e : m = 9
 ·subst e;by_cases e : c = 94
  ·subst e;go_enter Tryz.func189, Tryz.ntmps189;go_wp2_with fail;refine (q0Y b 9 bk o true 10 _ h).mono ?_;rintro e w1 ⟨rfl, d, a⟩;go_wp2_with fail;go_ret;exact ⟨rfl, d, a⟩
  have f : Rf.rest 9 bk o c = Rf.inner 9 bk o c 11 := by simp [Rf.rest, *]
  have n : (c == 94) = false := by simpa using e
  rw [f]; clear f e;go_enter Tryz.func189, Tryz.ntmps189;go_wp2_with fail;refine (q2z b 9 bk o c 11 _ h).mono ?_;rintro e w1 ⟨rfl, d, a⟩;go_wp2_with fail;go_ret;exact ⟨rfl, d, a⟩
 by_cases e : m = 10
 ·subst e;go_enter Tryz.func189, Tryz.ntmps189;go_wp2_with fail;refine (q2z b 10 bk o c 11 _ h).mono ?_;rintro e w1 ⟨rfl, d, a⟩;go_wp2_with fail;go_ret;exact ⟨rfl, d, a⟩
 by_cases e : m = 11
 ·subst e;by_cases e : c = 45
  ·subst e;go_enter Tryz.func189, Tryz.ntmps189;go_wp2_with fail;refine (q0Y b 11 bk o true 12 _ h).mono ?_;rintro e w1 ⟨rfl, d, a⟩;go_wp2_with fail;go_ret;exact ⟨rfl, d, a⟩
  by_cases e : c = 93
  ·subst e;go_enter Tryz.func189, Tryz.ntmps189;go_wp2_with fail;refine (q0Y b 11 bk o true 1 _ h).mono ?_;rintro e w1 ⟨rfl, d, a⟩;go_wp2_with fail;go_ret;exact ⟨rfl, d, a⟩
  have f : Rf.rest 11 bk o c = Rf.inner 11 bk o c 11 := by simp [Rf.rest, *]
  have n : (c == 45) = false := by simp; omega
  have g : (c == 93) = false := by simp; omega
  rw [f]; clear f;go_enter Tryz.func189, Tryz.ntmps189;go_wp2_with fail;refine (q2z b 11 bk o c 11 _ h).mono ?_;rintro e w1 ⟨rfl, d, a⟩;go_wp2_with fail;go_ret;exact ⟨rfl, d, a⟩
 by_cases e : m = 12
 ·subst e;go_enter Tryz.func189, Tryz.ntmps189;go_wp2_with fail;refine (q2z b 12 bk o c 13 _ h).mono ?_;rintro e w1 ⟨rfl, d, a⟩;go_wp2_with fail;go_ret;exact ⟨rfl, d, a⟩
 by_cases e : m = 13
 ·subst e;by_cases e : c = 93
  ·subst e;go_enter Tryz.func189, Tryz.ntmps189;go_wp2_with fail;refine (q0Y b 13 bk o true 1 _ h).mono ?_;rintro e w1 ⟨rfl, d, a⟩;go_wp2_with fail;go_ret;exact ⟨rfl, d, a⟩
  have f : Rf.rest 13 bk o c = Rf.inner 13 bk o c 11 := by simp [Rf.rest, *]
  have g : (c == 93) = false := by simp; omega
  rw [f]; clear f;go_enter Tryz.func189, Tryz.ntmps189;go_wp2_with fail;refine (q2z b 13 bk o c 11 _ h).mono ?_;rintro e w1 ⟨rfl, d, a⟩;go_wp2_with fail;go_ret;exact ⟨rfl, d, a⟩
 have f : Rf.rest m bk o c = Rf.outside m bk o c := by simp [Rf.rest, *]
 rw [f]; clear f;have p : (m == 9) = false := by simp; omega
 have i : (m == 10) = false := by simp; omega
 have j : (m == 11) = false := by simp; omega
 have k : (m == 12) = false := by simp; omega
 have l : (m == 13) = false := by simp; omega
 go_enter Tryz.func189, Tryz.ntmps189;go_wp2_with fail;refine (q7W b m bk o c _ h o0 o1).mono ?_;rintro e w1 ⟨rfl, d, a⟩;go_wp2_with fail;go_ret;exact ⟨rfl, d, a⟩
theorem q5Z (b:Nat) (bk o:Int) (w:World) (h:Rd b 2 bk o w):
  Calls Tryz.prog 158 #[.pointer (some ⟨b,0,none⟩),.int .u8 110] w (RdPost b w (Rf.to 2 bk o true bk)):=by
 obtain⟨c0,c1,c2,j,k,l⟩:=id h;go_enter Tryz.func158,Tryz.ntmps158;go_wp2_with fail;refine wp_region_held_drew (S:=λw'=>w'.cell? ⟨b,1,none⟩=some (.int .i64 bk)) (by kernel_rfl) (by simpa using c1) (λhHeld=>?_);refine wpAnyH_take (i:=0) (oi:=?o0) (v:=?v0) ?hi0 ?hs0 ?hf0 ?hr0 ?hQ0 (Or.inl ⟨?hw0,?hy0⟩) ?hS0 ?rest0
 case hi0=>simp only[List.getElem?_toArray,List.getElem?_cons_zero];rfl
 case hs0=>kernel_rfl
 case hf0=>kernel_rfl
 case hr0=>kernel_rfl
 case hQ0=>exact λ_ _ _ h=>h
 case hS0=>assumption
 case hw0=>rfl
 case hy0=>intro w' a;(try dsimp only at a);go_simp;first|done|with_reducible rfl
 (try simp only[psm])
 refine wpAnyH_take (i:=1) (by simp only[gel];rfl) (by kernel_rfl) (by kernel_rfl) (by kernel_rfl) (by exact λ_ _ _ h=>h) (Or.inl ⟨by rfl,by intro w' a;(try dsimp only at a);go_simp;first|done|with_reducible rfl⟩) (by assumption) ?_
 (try simp only[psm])
 refine wpAnyH_take (i:=2) (by simp only[gel];rfl) (by kernel_rfl) (by kernel_rfl) (by kernel_rfl) (by exact λ_ _ _ h=>h) (Or.inl ⟨by rfl,by intro w' a;(try dsimp only at a);go_simp;first|done|with_reducible rfl⟩) (by assumption) ?_
 (try simp only[psm])
 refine wpAnyH_take (i:=3) (by simp only[gel];rfl) (by kernel_rfl) (by kernel_rfl) (by kernel_rfl) (by exact λ_ _ _ h=>h) (Or.inl ⟨by rfl,by intro w' a;(try dsimp only at a);go_simp;first|done|with_reducible rfl⟩) (by assumption) ?_
 (try simp only[psm])
 refine wpAnyH_take (i:=4) (v:=undef) (by simp only[gel];rfl) (by kernel_rfl) (by kernel_rfl) (by kernel_rfl) (by exact λ_ _ _ h=>h) (Or.inr ⟨by rfl,rfl⟩) (by assumption) ?_
 (try simp only[psm])
 refine wpAnyH_take (i:=5) (v:=undef) (by simp only[gel];rfl) (by kernel_rfl) (by kernel_rfl) (by kernel_rfl) (by exact λ_ _ _ h=>h) (Or.inr ⟨by rfl,rfl⟩) (by assumption) ?_
 (try simp only[psm])
 refine wpAnyH_take (i:=6) (by simp only[gel];rfl) (by kernel_rfl) (by kernel_rfl) (by kernel_rfl) (by exact λ_ _ _ h=>h) (Or.inl ⟨by rfl,by intro w' a;(try dsimp only at a);go_simp;first|done|with_reducible rfl⟩) (by assumption) ?_
 (try simp only[psm])
 refine wpAnyH_take (i:=7) (by simp only[gel];rfl) (by kernel_rfl) (by kernel_rfl) (by kernel_rfl) (by exact λ_ _ _ h=>h) (Or.inl ⟨by rfl,by intro w' a;(try dsimp only at a);go_simp;first|done|with_reducible rfl⟩) (by assumption) ?_
 (try simp only[psm])
 refine wpAnyH_take (i:=8) (v:=undef) (by simp only[gel];rfl) (by kernel_rfl) (by kernel_rfl) (by kernel_rfl) (by exact λ_ _ _ h=>h) (Or.inr ⟨by rfl,rfl⟩) (by assumption) ?_
 (try simp only[psm])
 refine wpAnyH_take (i:=9) (v:=undef) (by simp only[gel];rfl) (by kernel_rfl) (by kernel_rfl) (by kernel_rfl) (by exact λ_ _ _ h=>h) (Or.inr ⟨by rfl,rfl⟩) (by assumption) ?_
 (try simp only[psm])
 refine wpAnyH_take (i:=10) (by simp only[gel];rfl) (by kernel_rfl) (by kernel_rfl) (by kernel_rfl) (by exact λ_ _ _ h=>h) (Or.inl ⟨by rfl,by intro w' a;(try dsimp only at a);go_simp;first|done|with_reducible rfl⟩) (by assumption) ?_
 (try simp only[psm])
 refine wpAnyH_take (i:=11) (by simp only[gel];rfl) (by kernel_rfl) (by kernel_rfl) (by kernel_rfl) (by exact λ_ _ _ h=>h) (Or.inl ⟨by rfl,by intro w' a;(try dsimp only at a);go_simp;first|done|with_reducible rfl⟩) (by assumption) ?_
 (try simp only[psm])
 refine wpAnyH_take (i:=12) (by simp only[gel];rfl) (by kernel_rfl) (by kernel_rfl) (by kernel_rfl) (by exact λ_ _ _ h=>h) (Or.inl ⟨by rfl,by intro w' a;(try dsimp only at a);go_simp;first|done|with_reducible rfl⟩) (by assumption) ?_
 (try simp only[psm])
 refine wpAnyH_take (i:=13) (by simp only[gel];rfl) (by kernel_rfl) (by kernel_rfl) (by kernel_rfl) (by exact λ_ _ _ h=>h) (Or.inl ⟨by rfl,by intro w' a;(try dsimp only at a);go_simp;first|done|with_reducible rfl⟩) (by assumption) ?_
 (try simp only[psm])
 refine wpAnyH_take (i:=14) (by simp only[gel];rfl) (by kernel_rfl) (by kernel_rfl) (by kernel_rfl) (by exact λ_ _ _ h=>h) (Or.inl ⟨by rfl,by intro w' a;(try dsimp only at a);go_simp;first|done|with_reducible rfl⟩) (by assumption) ?_
 (try simp only[psm])
 refine wpAnyH_ready (rs:=[15]) (by kernel_rfl) (by simp) ?_;refine AllReadyH.cons (o:=?o15) ?hi15 (λK d=>?_) AllReadyH.nil
 case hi15=>simp only[gel];rfl
 go_simp;refine(q0Y b 2 bk o _ bk _ (by exact h.drew)).mono ?_;rintro e w' ⟨rfl,f,g⟩;have c:Below b w w':=(Below.refl _ _).drew.trans g;go_wp2_with fail;refine d.out _ _ (by exact f.c1) (λhHeld=>?_);clear d K
 (try simp only[psm])
 refine wpAnyH_take (i:=16) (by simp only[gel];rfl) (by kernel_rfl) (by kernel_rfl) (by kernel_rfl) (by exact λ_ _ _ h=>h) (Or.inl ⟨by rfl,by intro w' a;(try dsimp only at a);go_simp;first|done|with_reducible rfl⟩) (by assumption) ?_
 (try simp only[psm])
 refine wpAnyH_done (by kernel_rfl) ?_ _;go_wp2_with fail;go_ret;exact⟨rfl,f,c⟩
theorem q5Y (b:Nat) (bk o:Int) (w:World) (h:Rd b 2 bk o w):
  Calls Tryz.prog 158 #[.pointer (some ⟨b,0,none⟩),.int .u8 116] w (RdPost b w (Rf.to 2 bk o true bk)):=by
 obtain⟨c0,c1,c2,j,k,l⟩:=id h;go_enter Tryz.func158,Tryz.ntmps158;go_wp2_with fail;refine wp_region_held_drew (S:=λw'=>w'.cell? ⟨b,1,none⟩=some (.int .i64 bk)) (by kernel_rfl) (by simpa using c1) (λhHeld=>?_);refine wpAnyH_take (i:=0) (oi:=?o0) (v:=?v0) ?hi0 ?hs0 ?hf0 ?hr0 ?hQ0 (Or.inl ⟨?hw0,?hy0⟩) ?hS0 ?rest0
 case hi0=>simp only[List.getElem?_toArray,List.getElem?_cons_zero];rfl
 case hs0=>kernel_rfl
 case hf0=>kernel_rfl
 case hr0=>kernel_rfl
 case hQ0=>exact λ_ _ _ h=>h
 case hS0=>assumption
 case hw0=>rfl
 case hy0=>intro w' a;(try dsimp only at a);go_simp;first|done|with_reducible rfl
 (try simp only[psm])
 refine wpAnyH_take (i:=1) (by simp only[gel];rfl) (by kernel_rfl) (by kernel_rfl) (by kernel_rfl) (by exact λ_ _ _ h=>h) (Or.inl ⟨by rfl,by intro w' a;(try dsimp only at a);go_simp;first|done|with_reducible rfl⟩) (by assumption) ?_
 (try simp only[psm])
 refine wpAnyH_take (i:=2) (by simp only[gel];rfl) (by kernel_rfl) (by kernel_rfl) (by kernel_rfl) (by exact λ_ _ _ h=>h) (Or.inl ⟨by rfl,by intro w' a;(try dsimp only at a);go_simp;first|done|with_reducible rfl⟩) (by assumption) ?_
 (try simp only[psm])
 refine wpAnyH_take (i:=3) (by simp only[gel];rfl) (by kernel_rfl) (by kernel_rfl) (by kernel_rfl) (by exact λ_ _ _ h=>h) (Or.inl ⟨by rfl,by intro w' a;(try dsimp only at a);go_simp;first|done|with_reducible rfl⟩) (by assumption) ?_
 (try simp only[psm])
 refine wpAnyH_take (i:=4) (by simp only[gel];rfl) (by kernel_rfl) (by kernel_rfl) (by kernel_rfl) (by exact λ_ _ _ h=>h) (Or.inl ⟨by rfl,by intro w' a;(try dsimp only at a);go_simp;first|done|with_reducible rfl⟩) (by assumption) ?_
 (try simp only[psm])
 refine wpAnyH_take (i:=5) (by simp only[gel];rfl) (by kernel_rfl) (by kernel_rfl) (by kernel_rfl) (by exact λ_ _ _ h=>h) (Or.inl ⟨by rfl,by intro w' a;(try dsimp only at a);go_simp;first|done|with_reducible rfl⟩) (by assumption) ?_
 (try simp only[psm])
 refine wpAnyH_take (i:=6) (by simp only[gel];rfl) (by kernel_rfl) (by kernel_rfl) (by kernel_rfl) (by exact λ_ _ _ h=>h) (Or.inl ⟨by rfl,by intro w' a;(try dsimp only at a);go_simp;first|done|with_reducible rfl⟩) (by assumption) ?_
 (try simp only[psm])
 refine wpAnyH_take (i:=7) (by simp only[gel];rfl) (by kernel_rfl) (by kernel_rfl) (by kernel_rfl) (by exact λ_ _ _ h=>h) (Or.inl ⟨by rfl,by intro w' a;(try dsimp only at a);go_simp;first|done|with_reducible rfl⟩) (by assumption) ?_
 (try simp only[psm])
 refine wpAnyH_take (i:=8) (v:=undef) (by simp only[gel];rfl) (by kernel_rfl) (by kernel_rfl) (by kernel_rfl) (by exact λ_ _ _ h=>h) (Or.inr ⟨by rfl,rfl⟩) (by assumption) ?_
 (try simp only[psm])
 refine wpAnyH_take (i:=9) (v:=undef) (by simp only[gel];rfl) (by kernel_rfl) (by kernel_rfl) (by kernel_rfl) (by exact λ_ _ _ h=>h) (Or.inr ⟨by rfl,rfl⟩) (by assumption) ?_
 (try simp only[psm])
 refine wpAnyH_take (i:=10) (by simp only[gel];rfl) (by kernel_rfl) (by kernel_rfl) (by kernel_rfl) (by exact λ_ _ _ h=>h) (Or.inl ⟨by rfl,by intro w' a;(try dsimp only at a);go_simp;first|done|with_reducible rfl⟩) (by assumption) ?_
 (try simp only[psm])
 refine wpAnyH_take (i:=11) (by simp only[gel];rfl) (by kernel_rfl) (by kernel_rfl) (by kernel_rfl) (by exact λ_ _ _ h=>h) (Or.inl ⟨by rfl,by intro w' a;(try dsimp only at a);go_simp;first|done|with_reducible rfl⟩) (by assumption) ?_
 (try simp only[psm])
 refine wpAnyH_take (i:=12) (by simp only[gel];rfl) (by kernel_rfl) (by kernel_rfl) (by kernel_rfl) (by exact λ_ _ _ h=>h) (Or.inl ⟨by rfl,by intro w' a;(try dsimp only at a);go_simp;first|done|with_reducible rfl⟩) (by assumption) ?_
 (try simp only[psm])
 refine wpAnyH_take (i:=13) (by simp only[gel];rfl) (by kernel_rfl) (by kernel_rfl) (by kernel_rfl) (by exact λ_ _ _ h=>h) (Or.inl ⟨by rfl,by intro w' a;(try dsimp only at a);go_simp;first|done|with_reducible rfl⟩) (by assumption) ?_
 (try simp only[psm])
 refine wpAnyH_take (i:=14) (by simp only[gel];rfl) (by kernel_rfl) (by kernel_rfl) (by kernel_rfl) (by exact λ_ _ _ h=>h) (Or.inl ⟨by rfl,by intro w' a;(try dsimp only at a);go_simp;first|done|with_reducible rfl⟩) (by assumption) ?_
 (try simp only[psm])
 refine wpAnyH_ready (rs:=[15]) (by kernel_rfl) (by simp) ?_;refine AllReadyH.cons (o:=?o15) ?hi15 (λK d=>?_) AllReadyH.nil
 case hi15=>simp only[gel];rfl
 go_simp;refine(q0Y b 2 bk o _ bk _ (by exact h.drew)).mono ?_;rintro e w' ⟨rfl,f,g⟩;have c:Below b w w':=(Below.refl _ _).drew.trans g;go_wp2_with fail;refine d.out _ _ (by exact f.c1) (λhHeld=>?_);clear d K
 (try simp only[psm])
 refine wpAnyH_take (i:=16) (by simp only[gel];rfl) (by kernel_rfl) (by kernel_rfl) (by kernel_rfl) (by exact λ_ _ _ h=>h) (Or.inl ⟨by rfl,by intro w' a;(try dsimp only at a);go_simp;first|done|with_reducible rfl⟩) (by assumption) ?_
 (try simp only[psm])
 refine wpAnyH_done (by kernel_rfl) ?_ _;go_wp2_with fail;go_ret;exact⟨rfl,f,c⟩
theorem q7N (b : Nat) (bk o : Int) (c : Int) (w : World) (h : Rd b 2 bk o w) :
  Calls Tryz.prog 158 #[.pointer (some ⟨b, 0, none⟩), .int .u8 c] w (RdPost b w (Rf.read 2 bk o c)) := by
 obtain ⟨c0, c1, c2, f0, f1, f2⟩ := id h;by_cases e : c = 120
 ·subst e;go_enter Tryz.func158, Tryz.ntmps158;go_wp2_with fail;refine (q0Y b 2 bk o true 3 _ h).mono ?_;rintro e w1 ⟨rfl, hr, hb⟩;go_wp2_with fail;go_ret;exact ⟨rfl, hr, hb⟩
 ·have hx : Rf.read 2 bk o c = Rf.to 2 bk o (c == 110 || c == 116 || Rf.has Rf.marks c) bk := by simp [Rf.read, *]
  have e120 : (c == 120) = false := by simpa using e
  rw [hx]; clear hx e;cases e110 : (c == 110)
  ·cases e116 : (c == 116)
   ·go_enter Tryz.func158, Tryz.ntmps158;go_wp2_with fail
    go_region_held3 (λw' => w'.cell? ⟨b, 1, none⟩ = some (.int .i64 bk)) (go_keep) (first|(go_at_call 162; refine (q6t _ c _ (by decide)).mono ?_; rintro e w' ⟨rfl, rfl⟩)|(go_at_call 186; refine (q0Y b 2 bk o _ bk _ (by exact h.drew)).mono ?_; rintro e w' ⟨rfl, hr, hb⟩; have hc1 : w'.cell? ⟨b, 1, none⟩ = some (.int .i64 bk) := hr.c1; have hbb : Below b w w' := (Below.refl _ _).drew.trans hb; clear hb))
    go_wp2_with fail;go_ret;exact ⟨rfl, hr, hbb⟩
   ·have hc : c = 116 := by simpa using e116
    subst hc;exact q5Y b bk o w h
  ·have hc : c = 110 := by simpa using e110
   subst hc;exact q5Z b bk o w h
theorem q3Z (b : Nat) (m bk o : Int) (c : Int) (w : World) (h : Rd b m bk o w) (o0 : -1000 <= o) (o1 : o <= 1000) :
  Calls Tryz.prog 158 #[.pointer (some ⟨b, 0, none⟩), .int .u8 c] w (RdPost b w (Rf.read m bk o c)) := by
 by_cases e : m = 2
 ·subst e; exact q7N b bk o c w h
 obtain ⟨c0, c1, c2, f0, f1, f2⟩ := id h;by_cases e : m = 3
 ·subst e;go_enter Tryz.func158, Tryz.ntmps158;go_wp2_with fail;refine (y0G c _).mono ?_;rintro e w1 ⟨rfl, rfl⟩;go_wp2_with fail;refine (q0Y b 3 bk o _ 4 _ h).mono ?_;rintro e w1 ⟨rfl, hr, hb⟩;go_wp2_with fail;go_ret;exact ⟨rfl, hr, hb⟩
 by_cases e : m = 4
 ·subst e;go_enter Tryz.func158, Tryz.ntmps158;go_wp2_with fail
  go_region_held3 (λw' => w'.cell? ⟨b, 1, none⟩ = some (.int .i64 bk)) (go_keep) (first|(go_at_call 187; refine (y0G c _).mono ?_; rintro e w' ⟨rfl, rfl⟩)|(go_at_call 186; refine (q0Y b 4 bk o _ bk _ (by exact h.drew)).mono ?_; rintro e w' ⟨rfl, hr, hb⟩; have hc1 : w'.cell? ⟨b, 1, none⟩ = some (.int .i64 bk) := hr.c1; have hbb : Below b w w' := (Below.refl _ _).drew.trans hb; clear hb))
  go_wp2_with fail;go_ret;exact ⟨rfl, hr, hbb⟩
 by_cases e : m = 5
 ·subst e;go_enter Tryz.func158, Tryz.ntmps158;go_wp2_with fail;refine (q2A c _).mono ?_;rintro e w1 ⟨rfl, rfl⟩;go_wp2_with fail;refine (q0Y b 5 bk o _ 6 _ h).mono ?_;rintro e w1 ⟨rfl, hr, hb⟩;go_wp2_with fail;go_ret;exact ⟨rfl, hr, hb⟩
 by_cases e : m = 6
 ·subst e;by_cases e : c = 44
  ·subst e;go_enter Tryz.func158, Tryz.ntmps158;go_wp2_with fail;refine (q0Y b 6 bk o true 7 _ h).mono ?_;rintro e w1 ⟨rfl, hr, hb⟩;go_wp2_with fail;go_ret;exact ⟨rfl, hr, hb⟩
  have hx : Rf.read 6 bk o c = Rf.to 6 bk o (c == 125) 1 := by simp [Rf.read, *]
  have hc2 : (c == 44) = false := by simp; omega
  rw [hx]; clear hx;go_enter Tryz.func158, Tryz.ntmps158;go_wp2_with fail;refine (q0Y b 6 bk o _ 1 _ h).mono ?_;rintro e w1 ⟨rfl, hr, hb⟩;go_wp2_with fail;go_ret;exact ⟨rfl, hr, hb⟩
 by_cases e : m = 7
 ·subst e;go_enter Tryz.func158, Tryz.ntmps158;go_wp2_with fail;refine (q2A c _).mono ?_;rintro e w1 ⟨rfl, rfl⟩;go_wp2_with fail;refine (q0Y b 7 bk o _ 8 _ h).mono ?_;rintro e w1 ⟨rfl, hr, hb⟩;go_wp2_with fail;go_ret;exact ⟨rfl, hr, hb⟩
 by_cases e : m = 8
 ·subst e;go_enter Tryz.func158, Tryz.ntmps158;go_wp2_with fail;refine (q0Y b 8 bk o _ 1 _ h).mono ?_;rintro e w1 ⟨rfl, hr, hb⟩;go_wp2_with fail;go_ret;exact ⟨rfl, hr, hb⟩
 have hx : Rf.read m bk o c = Rf.rest m bk o c := by simp [Rf.read, *]
 rw [hx]; clear hx;have e2 : (m == 2) = false := by simp; omega
 have e3 : (m == 3) = false := by simp; omega
 have e4 : (m == 4) = false := by simp; omega
 have e5 : (m == 5) = false := by simp; omega
 have e6 : (m == 6) = false := by simp; omega
 have e7 : (m == 7) = false := by simp; omega
 have e8 : (m == 8) = false := by simp; omega
 go_enter Tryz.func158, Tryz.ntmps158;go_wp2_with fail;refine (y1n b m bk o c _ h o0 o1).mono ?_;rintro e w1 ⟨rfl, hr, hb⟩;go_wp2_with fail;go_ret;exact ⟨rfl, hr, hb⟩
theorem Rf.near_ite {o:Int}{p:Prop} [Decidable p] {x y:Rf.RS} (hx:o-1<=x.o/\x.o<=o+1) (hy:o-1<=y.o/\y.o<=o+1):o-1<=(if p then x else y).o/\(if p then x else y).o<=o+1:=by
 split
 ·exact hx
 exact hy
theorem Rf.near_inner (m bk o c m':Int):o-1<=(Rf.inner m bk o c m').o/\(Rf.inner m bk o c m').o<=o+1:=by
 unfold Rf.inner;exact Rf.near_ite ⟨by simp;omega,by simp;omega⟩ ⟨by simp[Rf.to];omega,by simp[Rf.to];omega⟩
theorem Rf.near_outside (m bk o c:Int):o-1<=(Rf.outside m bk o c).o/\(Rf.outside m bk o c).o<=o+1:=by
 unfold Rf.outside
 repeat' (refine Rf.near_ite ?_ ?_)
 all_goals (constructor<;>simp[Rf.to]<;>omega)
theorem Rf.read_o (m bk o c:Int):o-1<=(Rf.read m bk o c).o/\(Rf.read m bk o c).o<=o+1:=by
 unfold Rf.read
 repeat' (refine Rf.near_ite ?_ ?_)
 all_goals first|exact Rf.near_rest ..|(constructor<;>simp[Rf.to]<;>omega)
theorem q4g (s:ByteArray) (w:World) (hs:s.size<=40):
  Calls Tryz.prog 108 #[.string s] w λe w'=>e=.returned (.int .i64 (Rf.form s.data.toList))/\Below w.heap.size w w':=by
 go_enter Tryz.func108,Tryz.ntmps108;go_wp2_with fail
 go_loopw [4] (λi w'=>∃(k:Nat) (m bk o:Int),k<=s.size/\i=.int .i64 k/\Rd w.heap.size m bk o w'/\Below w.heap.size w w'/\-k<=o/\o<=k/\Hid (Rf.form s.data.toList=Rf.formFrom m bk o k (s.data.toList.drop k))) (λi _=>s.size-(intOf i).toNat)
 ·refine⟨0,0,0,0,Nat.zero_le _,rfl,⟨?_,?_,?_,?_,?_,?_⟩,(Below.refl _ _).alloc (Nat.le_refl _) _,by omega,by omega,rfl⟩<;>go_simp
 obtain⟨k,m,bk,o,y,rfl,d,b,q,r,HS⟩:=hrel;obtain⟨c0,c1,c2,u,v,x⟩:=id d;by_cases g:k<s.size
 ·have h:=hyd (q3w s k g);have t:=Rf.read_o m bk o (s[k].toNat);cases hok:(Rf.read m bk o (s[k].toNat)).ok
  ·have a:=hyd hok;clear hok;go_wp2_with fail;refine(q3Z _ m bk o _ _ d (by omega) (by omega)).mono ?_;rintro e w1 ⟨rfl,l,f⟩;rw[a.out];go_wp2_with fail;go_ret;refine⟨q0l ?_,b.trans f⟩;rw[HS.out,h.out];simp[Rf.formFrom,a.out]
  have a:=hyd hok;clear hok;go_wp2_with fail;refine(q3Z _ m bk o _ _ d (by omega) (by omega)).mono ?_;rintro e w1 ⟨rfl,l,f⟩;rw[a.out];go_wp2_with fail;go_roundw
  ·exact⟨k+1,_,_,_,by omega,by go_num,l,b.trans f,by omega,by omega,by show _=_;rw[HS.out,h.out];simp[Rf.formFrom,a.out]⟩
  simp[intOf];omega
 have j:s.data.toList.drop k=[]:=List.drop_eq_nil_of_le (by simp;omega);have c:=hyd j;clear j;by_cases n:0<o
 ·go_wp2_with fail;go_ret;refine⟨q0l ?_,b⟩;rw[HS.out,c.out];simp[Rf.formFrom,n];omega
 by_cases p:1<m
 ·go_wp2_with fail;go_ret;refine⟨q0l ?_,b⟩;rw[HS.out,c.out];simp[Rf.formFrom,p];omega
 go_wp2_with fail;go_ret;refine⟨q0l ?_,b⟩;rw[HS.out,c.out];simp[Rf.formFrom];omega
theorem q6B (s:ByteArray) (w:World) (hs:s.size<=40):
  Calls Tryz.prog 109 #[.string s] w λe w'=>e=.returned (.int .i64 (Rf.deep s.data.toList))/\Below w.heap.size w w':=by
 go_enter Tryz.func109,Tryz.ntmps109;go_wp2_with fail
 go_loopw [4] (λi w'=>∃(k:Nat) (m bk o:Int),k<=s.size/\i=.int .i64 k/\Rd w.heap.size m bk o w'/\Below w.heap.size w w'/\-k<=o/\o<=k/\Hid (Rf.deep s.data.toList=Rf.deepFrom m bk o k (s.data.toList.drop k))) (λi _=>s.size-(intOf i).toNat)
 ·refine⟨0,0,0,0,Nat.zero_le _,rfl,⟨?_,?_,?_,?_,?_,?_⟩,(Below.refl _ _).alloc (Nat.le_refl _) _,by omega,by omega,rfl⟩<;>go_simp
 obtain⟨k,m,bk,o,x,rfl,c,b,p,q,HS⟩:=hrel;obtain⟨c0,c1,c2,t,u,v⟩:=id c;by_cases f:k<s.size
 ·have g:=hyd (q3w s k f);have r:=Rf.read_o m bk o (s[k].toNat);by_cases n:6<(Rf.read m bk o (s[k].toNat)).o
  ·go_wp2_with fail;refine(q3Z _ m bk o _ _ c (by omega) (by omega)).mono ?_;rintro e w1 ⟨rfl,a,d⟩;have l:=a.c2;go_wp2_with fail;go_ret;refine⟨q0l ?_,b.trans d⟩;rw[HS.out,g.out];simp[Rf.deepFrom,n]
  go_wp2_with fail;refine(q3Z _ m bk o _ _ c (by omega) (by omega)).mono ?_;rintro e w1 ⟨rfl,a,d⟩;have l:=a.c2;go_wp2_with fail;go_roundw
  ·exact⟨k+1,_,_,_,by omega,by go_num,a,b.trans d,by omega,by omega,by show _=_;rw[HS.out,g.out];simp only[Rf.deepFrom];rw[if_neg (by omega)]⟩
  simp[intOf];omega
 have h:s.data.toList.drop k=[]:=List.drop_eq_nil_of_le (by simp;omega);have j:=hyd h;clear h;go_wp2_with fail;go_ret;refine⟨q0l ?_,b⟩;rw[HS.out,j.out];rfl
theorem tuple2 {a b:Int} (h:a=a') (h':b=b'):Ending.returned (.tuple #[.int .i64 a,.int .i64 b])=.returned (.tuple #[.int .i64 a',.int .i64 b']):=by rw[h,h']
theorem y0o (s:ByteArray) (k:Nat) (v:Int) (n:Nat) (w:World) (hs:s.size<=40) (h:Rf.one (s.data.toList.drop k)=some (v,n)):
  Calls Tryz.prog 159 #[.string s,.int .i64 k] w λe w'=>e=.returned (.tuple #[.int .i64 v,.int .i64 ((k+n:Nat):Int)])/\∃q,w'=w.drewN q:=by
 rcases hd:s.data.toList.drop k with _|⟨c,r⟩
 ·rw[hd]at h;cases h
 obtain⟨R,t,I⟩:=q0m hd;rw[hd]at h;by_cases o:c=92
 ·subst o;have M:((s[k].toNat:Int)==92)=true:=by rw[t];rfl
  rcases r with _|⟨d,P⟩
  ·cases h
  obtain⟨N,f,l⟩:=q0m I;clear hd t I;by_cases a:d=110
  ·have F:((s[k+1].toNat:Int)==110)=true:=by rw[f,a];rfl
   have p:v=10/\n=2:=by simp[Rf.one,a]at h;exact⟨h.1.symm,h.2.symm⟩
   obtain⟨rfl,rfl⟩:=p;clear f l h a;go_enter Tryz.func159,Tryz.ntmps159;go_wp2_with fail;go_ret2;exact⟨tuple2 rfl (by omega),0,rfl⟩
  have F:((s[k+1].toNat:Int)==110)=false:=by rw[f];exact q0J a
  by_cases b:d=116
  ·have G:((s[k+1].toNat:Int)==116)=true:=by rw[f,b];rfl
   have p:v=9/\n=2:=by simp[Rf.one,b]at h;exact⟨h.1.symm,h.2.symm⟩
   obtain⟨rfl,rfl⟩:=p;clear f l h a b;go_enter Tryz.func159,Tryz.ntmps159;go_wp2_with fail;go_ret2;exact⟨tuple2 rfl (by omega),0,rfl⟩
  have G:((s[k+1].toNat:Int)==116)=false:=by rw[f];exact q0J b
  by_cases g:d=120
  ·have H:((s[k+1].toNat:Int)==120)=true:=by rw[f,g];rfl
   subst g;rcases P with _|⟨x,_|⟨y,Q⟩⟩
   ·simp[Rf.one]at h
   ·simp[Rf.one]at h
   obtain⟨A,u,C⟩:=q0m l;obtain⟨B,z,J⟩:=q0m C;have O:Rf.hex x.toNat=true/\Rf.hex y.toNat=true/\v=Rf.number x.toNat*16+Rf.number y.toNat/\n=4:=by
    simp only[Rf.one,if_true]at h;rw[if_neg (by decide),if_neg (by decide)]at h;by_cases m:(Rf.hex x.toNat&&Rf.hex y.toNat)=true
    ·rw[if_pos m]at h;simp only[Option.some.injEq,Prod.mk.injEq]at h;rw[Bool.and_eq_true]at m;exact⟨m.1,m.2,h.1.symm,h.2.symm⟩
    rw[if_neg m]at h;cases h
   obtain⟨D,E,rfl,rfl⟩:=O;have K:=A;have L:=B;have i:s[k+2]=x:=u;have j:s[k+3]=y:=z;rw[<-i]at D;rw[<-j]at E;rw[<-i,<-j];have S:(0:Int)<=k+2/\(k:Int)+2<(s.size:Int):=by omega
   have T:(0:Int)<=k+3/\(k:Int)+3<(s.size:Int):=by omega
   have U:=q4V s[k+2];have V:=q4V s[k+3];have W:=Rf.number_lt (s[k+2].toNat) D;have X:=Rf.number_lt (s[k+3].toNat) E;clear f l h a b C J u z i j A B;go_enter Tryz.func159,Tryz.ntmps159;go_wp2_with fail
   go_quiet ((go_at_call 190;exact Calls.quiet_of_same (q9v _ _ (by omega) (by assumption) (by assumption))))
   go_wp2_with fail;go_ret2;exact⟨tuple2 (by first|rfl|omega) (by omega),nq,rfl⟩
  have H:((s[k+1].toNat:Int)==120)=false:=by rw[f];exact q0J g
  have p:v=s[k+1].toNat/\n=2:=by simp[Rf.one,a,b,g]at h;rw[f];exact⟨h.1.symm,h.2.symm⟩
  obtain⟨rfl,rfl⟩:=p;clear f l h a b g;go_enter Tryz.func159,Tryz.ntmps159;go_wp2_with fail;go_ret2;exact⟨tuple2 (q4U _) (by omega),0,rfl⟩
 have M:((s[k].toNat:Int)==92)=false:=by rw[t];exact q0J o
 have p:v=s[k].toNat/\n=1:=by simp[Rf.one,o]at h;rw[t];exact⟨h.1.symm,h.2.symm⟩
 obtain⟨rfl,rfl⟩:=p;clear t I h o hd;go_enter Tryz.func159,Tryz.ntmps159;go_wp2_with fail;go_ret2;exact⟨tuple2 (q4U _) (by omega),0,rfl⟩
theorem q1T (s:ByteArray) (k:Nat) (i:Int) (v:Int) (n:Nat) (w:World) (hs:s.size<=40) (hi:i=k) (h:Rf.one (s.data.toList.drop k)=some (v,n)):
  Calls Tryz.prog 159 #[.string s,.int .i64 i] w λe w'=>e=.returned (.tuple #[.int .i64 v,.int .i64 ((k+n:Nat):Int)])/\∃q,w'=w.drewN q:=by
 subst hi;exact y0o s k v n w hs h
def BRow (g:Nat) (f:Nat->Bool) (w:World):Prop:=∀k,k<256->w.cell? ⟨g,k,none⟩=some (.bool (f k))/\w.frozen? ⟨g,k,none⟩=false
theorem BRow.drewN {f:Nat->Bool} (h:BRow g f w) (q:Nat):BRow g f (w.drewN q):=λk a=>by
 have:=h k a;refine⟨?_,?_⟩<;>go_simp
theorem BRow.set {f:Nat->Bool} (h:BRow g f w) (j:Nat) (hj:j<256) (b:Bool):BRow g (λk=>if k=j then b else f k) (w.setCell ⟨g,j,none⟩ (.bool b)):=λk l=>by
 obtain⟨a,m⟩:=h k l;obtain⟨c,i⟩:=h j hj;refine⟨?_,?_⟩
 ·by_cases e:k=j
  ·subst e;simp;go_simp
  simp only[if_neg e];rw[World.cell?_setCell_other _ _ _ _ (by intro d;cases d;exact e rfl)];exact a
 go_simp
theorem BRow.congr {f f':Nat->Bool} (h:BRow g f w) (e:∀k,k<256->f k=f' k):BRow g f' w:=λk a=>by
 rw[<-e k a];exact h k a
theorem q0p (B:Nat) (w:World) (q:Nat):Below B w (w.drewN q):=⟨rfl,rfl,rfl,Nat.le_refl _,λ_ _=>rfl⟩
end Go.Proofs.YtoaaklhpmhjhkaaGreat
