/-
  Contracts of the program's readers of a byte, an escape, an item, a count (package pattern).
-/
import Derived.Test.YtoaaklhpmhjhkaaLeafA
namespace Go.Proofs.Ytoaaklhpmhjhkaa
open Go.RowKit
theorem tuple_iib {a a' b b' : Int} {c c' : Bool} (h : a = a') (h' : b = b') (h'' : c = c') : Ending.returned (.tuple #[.int .i64 a, .int .i64 b, .bool c]) = .returned (.tuple #[.int .i64 a', .int .i64 b', .bool c']) := by rw [h, h', h'']
/-- What a reader of one number leaves. -/
def RPost (w : World) (r : Pg.R) (e : Ending) (w' : World) : Prop := e = .returned (.tuple #[.int .i64 r.v, .int .i64 r.n, .bool r.ok]) ∧ w' = w
theorem RPost.mk' {w w' : World} {r : Pg.R} {e : Ending} (v n : Int) (ok : Bool) (hr : r = ⟨v, n, ok⟩) (he : e = .returned (.tuple #[.int .i64 v, .int .i64 n, .bool ok])) (hw : w' = w) : RPost w r e w' := by
  subst hr; exact ⟨he, hw⟩

set_option maxHeartbeats 400000 in
theorem readHex_any (s : ByteArray) (i : Int) (w : World) (h0 : 0 ≤ i) (h1 : i ≤ 1000) :
    Calls Try.prog 158 #[.string s, .int .i64 i] w (RPost w (Pg.readHex (bat s) i)) := by
  have hb := Pg.hexValue_bd (bat s i)
  have hb2 := Pg.hexValue_bd (bat s (i + 1))
  by_cases c1 : Pg.hexValue (bat s i) < 0
  · have HR : Hid (Pg.readHex (bat s) i = ⟨0, i, false⟩) := by show _ = _; rw [Pg.readHex, if_pos c1]
    go_enter Try.func158, Try.ntmps158
    go_wp2_with fail
    refine (byteAt_any s i _).mono ?_
    rintro e w' ⟨rfl, rfl⟩
    go_wp2_with fail
    refine (hexValue_any _ _).mono ?_
    rintro e w' ⟨rfl, rfl⟩
    go_wp2_with fail
    go_ret3
    exact RPost.mk' _ _ _ HR.out rfl rfl
  by_cases c2 : Pg.hexValue (bat s (i + 1)) < 0
  · have HR : Hid (Pg.readHex (bat s) i = ⟨0, i + 1, false⟩) := by show _ = _; rw [Pg.readHex, if_neg c1, if_pos c2]
    go_enter Try.func158, Try.ntmps158
    go_wp2_with fail
    refine (byteAt_any s i _).mono ?_
    rintro e w' ⟨rfl, rfl⟩
    go_wp2_with fail
    refine (hexValue_any _ _).mono ?_
    rintro e w' ⟨rfl, rfl⟩
    go_wp2_with fail
    refine (byteAt_any s (i + 1) _).mono ?_
    rintro e w' ⟨rfl, rfl⟩
    go_wp2_with fail
    refine (hexValue_any _ _).mono ?_
    rintro e w' ⟨rfl, rfl⟩
    go_wp2_with fail
    go_ret3
    exact RPost.mk' _ _ _ HR.out rfl rfl
  · have HR : Hid (Pg.readHex (bat s) i = ⟨Pg.hexValue (bat s i) * 16 + Pg.hexValue (bat s (i + 1)), i + 2, true⟩) := by show _ = _; rw [Pg.readHex, if_neg c1, if_neg c2]
    go_enter Try.func158, Try.ntmps158
    go_wp2_with fail
    refine (byteAt_any s i _).mono ?_
    rintro e w' ⟨rfl, rfl⟩
    go_wp2_with fail
    refine (hexValue_any _ _).mono ?_
    rintro e w' ⟨rfl, rfl⟩
    go_wp2_with fail
    refine (byteAt_any s (i + 1) _).mono ?_
    rintro e w' ⟨rfl, rfl⟩
    go_wp2_with fail
    refine (hexValue_any _ _).mono ?_
    rintro e w' ⟨rfl, rfl⟩
    go_wp2_with fail
    go_ret3
    exact RPost.mk' _ _ _ HR.out rfl rfl

set_option maxHeartbeats 400000 in
theorem readEscape_any (s : ByteArray) (i : Int) (w : World) (h0 : 0 ≤ i) (h1 : i ≤ 500) :
    Calls Try.prog 154 #[.string s, .int .i64 i] w (RPost w (Pg.readEscape (bat s) i)) := by
  by_cases c1 : bat s (i + 1) = 110
  · have HR : Hid (Pg.readEscape (bat s) i = ⟨10, i + 2, true⟩) := by show _ = _; rw [Pg.readEscape, if_pos c1]
    have b1 : (bat s (i + 1) == 110) = true := by simpa using c1
    clear c1
    go_enter Try.func154, Try.ntmps154
    go_wp2_with fail
    refine (byteAt_any s (i + 1) _).mono ?_
    rintro e w' ⟨rfl, rfl⟩
    go_wp2_with fail
    go_ret3
    exact RPost.mk' _ _ _ HR.out rfl rfl
  have b1 : (bat s (i + 1) == 110) = false := by simpa using c1
  by_cases c2 : bat s (i + 1) = 116
  · have HR : Hid (Pg.readEscape (bat s) i = ⟨9, i + 2, true⟩) := by show _ = _; rw [Pg.readEscape, if_neg c1, if_pos c2]
    have b2 : (bat s (i + 1) == 116) = true := by simpa using c2
    clear c1 c2
    go_enter Try.func154, Try.ntmps154
    go_wp2_with fail
    refine (byteAt_any s (i + 1) _).mono ?_
    rintro e w' ⟨rfl, rfl⟩
    go_wp2_with fail
    go_ret3
    exact RPost.mk' _ _ _ HR.out rfl rfl
  have b2 : (bat s (i + 1) == 116) = false := by simpa using c2
  by_cases c3 : bat s (i + 1) = 120
  · have HR : Hid (Pg.readEscape (bat s) i = Pg.readHex (bat s) (i + 2)) := by show _ = _; rw [Pg.readEscape, if_neg c1, if_neg c2, if_pos c3]
    have b3 : (bat s (i + 1) == 120) = true := by simpa using c3
    clear c1 c2 c3
    go_enter Try.func154, Try.ntmps154
    go_wp2_with fail
    refine (byteAt_any s (i + 1) _).mono ?_
    rintro e w' ⟨rfl, rfl⟩
    go_wp2_with fail
    refine (readHex_any s (i + 2) _ (by omega) (by omega)).mono ?_
    rintro e w' ⟨rfl, rfl⟩
    go_wp2_with fail
    go_ret3
    exact RPost.mk' _ _ _ HR.out rfl rfl
  have b3 : (bat s (i + 1) == 120) = false := by simpa using c3
  cases c4 : Pg.isMark (bat s (i + 1))
  · have HR : Hid (Pg.readEscape (bat s) i = ⟨0, i + 1, false⟩) := by show _ = _; rw [Pg.readEscape, if_neg c1, if_neg c2, if_neg c3, c4]; rfl
    have H4 : Hid (Pg.isMark (bat s (i + 1)) = false) := c4
    clear c1 c2 c3 c4
    go_enter Try.func154, Try.ntmps154
    go_wp2_with fail
    refine (byteAt_any s (i + 1) _).mono ?_
    rintro e w' ⟨rfl, rfl⟩
    go_wp2_with fail
    refine (isMark_any _ _).mono ?_
    rintro e w' ⟨rfl, rfl⟩
    rw [H4.out]
    go_wp2_with fail
    go_ret3
    exact RPost.mk' _ _ _ HR.out rfl rfl
  · have HR : Hid (Pg.readEscape (bat s) i = ⟨bat s (i + 1), i + 2, true⟩) := by show _ = _; rw [Pg.readEscape, if_neg c1, if_neg c2, if_neg c3, c4]; rfl
    have H4 : Hid (Pg.isMark (bat s (i + 1)) = true) := c4
    clear c1 c2 c3 c4
    go_enter Try.func154, Try.ntmps154
    go_wp2_with fail
    refine (byteAt_any s (i + 1) _).mono ?_
    rintro e w' ⟨rfl, rfl⟩
    go_wp2_with fail
    refine (isMark_any _ _).mono ?_
    rintro e w' ⟨rfl, rfl⟩
    rw [H4.out]
    go_wp2_with fail
    go_ret3
    exact RPost.mk' _ _ _ HR.out rfl rfl

set_option maxHeartbeats 400000 in
theorem readOne_any (s : ByteArray) (i : Int) (w : World) (h0 : 0 ≤ i) (h1 : i ≤ 500) :
    Calls Try.prog 160 #[.string s, .int .i64 i] w (RPost w (Pg.readOne (bat s) i)) := by
  by_cases c1 : bat s i = 92
  · have HR : Hid (Pg.readOne (bat s) i = Pg.readEscape (bat s) i) := by show _ = _; rw [Pg.readOne, if_pos c1]
    have b1 : (bat s i == 92) = true := by simpa using c1
    clear c1
    go_enter Try.func160, Try.ntmps160
    go_wp2_with fail
    refine (byteAt_any s i _).mono ?_
    rintro e w' ⟨rfl, rfl⟩
    go_wp2_with fail
    refine (readEscape_any s i _ (by omega) (by omega)).mono ?_
    rintro e w' ⟨rfl, rfl⟩
    go_wp2_with fail
    go_ret3
    exact RPost.mk' _ _ _ HR.out rfl rfl
  have b1 : (bat s i == 92) = false := by simpa using c1
  cases c4 : Pg.isInner (bat s i)
  · have HR : Hid (Pg.readOne (bat s) i = ⟨0, i, false⟩) := by show _ = _; rw [Pg.readOne, if_neg c1, c4]; rfl
    have H4 : Hid (Pg.isInner (bat s i) = false) := c4
    clear c1 c4
    go_enter Try.func160, Try.ntmps160
    go_wp2_with fail
    refine (byteAt_any s i _).mono ?_
    rintro e w' ⟨rfl, rfl⟩
    go_wp2_with fail
    refine (isInner_any _ _).mono ?_
    rintro e w' ⟨rfl, rfl⟩
    rw [H4.out]
    go_wp2_with fail
    go_ret3
    exact RPost.mk' _ _ _ HR.out rfl rfl
  · have HR : Hid (Pg.readOne (bat s) i = ⟨bat s i, i + 1, true⟩) := by show _ = _; rw [Pg.readOne, if_neg c1, c4]; rfl
    have H4 : Hid (Pg.isInner (bat s i) = true) := c4
    clear c1 c4
    go_enter Try.func160, Try.ntmps160
    go_wp2_with fail
    refine (byteAt_any s i _).mono ?_
    rintro e w' ⟨rfl, rfl⟩
    go_wp2_with fail
    refine (isInner_any _ _).mono ?_
    rintro e w' ⟨rfl, rfl⟩
    rw [H4.out]
    go_wp2_with fail
    go_ret3
    exact RPost.mk' _ _ _ HR.out rfl rfl

/-- What readItem leaves. -/
def IPost (w : World) (r : Pg.I) (e : Ending) (w' : World) : Prop := e = .returned (.tuple #[.int .i64 r.lo, .int .i64 r.hi, .int .i64 r.n, .bool r.ok]) ∧ w' = w
theorem IPost.mk' {w w' : World} {r : Pg.I} {e : Ending} (lo hi n : Int) (ok : Bool) (hr : r = ⟨lo, hi, n, ok⟩) (he : e = .returned (.tuple #[.int .i64 lo, .int .i64 hi, .int .i64 n, .bool ok])) (hw : w' = w) : IPost w r e w' := by
  subst hr; exact ⟨he, hw⟩

set_option maxHeartbeats 400000 in
theorem readItem_any (s : ByteArray) (i : Int) (w : World) (h0 : 0 ≤ i) (h1 : i ≤ 400) :
    Calls Try.prog 157 #[.string s, .int .i64 i] w (IPost w (Pg.readItem (bat s) i)) := by
  have hb := Pg.readOne_bd (bat s) i (bat_bd s)
  obtain ⟨hb1, hb2, hb3, hb4, _⟩ := hb
  cases hok : (Pg.readOne (bat s) i).ok
  · have HR : Hid (Pg.readItem (bat s) i = ⟨0, 0, (Pg.readOne (bat s) i).n, false⟩) := by show _ = _; rw [Pg.readItem, hok]; rfl
    have HO : Hid ((Pg.readOne (bat s) i).ok = false) := hok
    clear hok
    go_enter Try.func157, Try.ntmps157
    go_wp2_with fail
    refine (readOne_any s i _ (by omega) (by omega)).mono ?_
    rintro e w' ⟨rfl, rfl⟩
    rw [HO.out]
    go_wp2_with fail
    refine bodyPost_ret (v := .tuple #[.int .i64 0, .int .i64 0, .int .i64 (Pg.readOne (bat s) i).n, .bool false]) (by simp [results, Try.results157, go_sem]) rfl (IPost.mk' _ _ _ _ HR.out rfl rfl)
  have HO : Hid ((Pg.readOne (bat s) i).ok = true) := hok
  by_cases c : bat s (Pg.readOne (bat s) i).n = 45
  · have HR : Hid (Pg.readItem (bat s) i = ⟨(Pg.readOne (bat s) i).v, (Pg.readOne (bat s) ((Pg.readOne (bat s) i).n + 1)).v, (Pg.readOne (bat s) ((Pg.readOne (bat s) i).n + 1)).n, (Pg.readOne (bat s) ((Pg.readOne (bat s) i).n + 1)).ok⟩) := by show _ = _; rw [Pg.readItem, if_pos hok, if_pos c]
    have b1 : (bat s (Pg.readOne (bat s) i).n == 45) = true := by simpa using c
    clear hok c
    go_enter Try.func157, Try.ntmps157
    go_wp2_with fail
    refine (readOne_any s i _ (by omega) (by omega)).mono ?_
    rintro e w' ⟨rfl, rfl⟩
    rw [HO.out]
    go_wp2_with fail
    refine (byteAt_any s _ _).mono ?_
    rintro e w' ⟨rfl, rfl⟩
    go_wp2_with fail
    refine (readOne_any s ((Pg.readOne (bat s) i).n + 1) _ (by omega) (by omega)).mono ?_
    rintro e w' ⟨rfl, rfl⟩
    go_wp2_with fail
    refine bodyPost_ret (v := .tuple #[.int .i64 (Pg.readOne (bat s) i).v, .int .i64 (Pg.readOne (bat s) ((Pg.readOne (bat s) i).n + 1)).v, .int .i64 (Pg.readOne (bat s) ((Pg.readOne (bat s) i).n + 1)).n, .bool (Pg.readOne (bat s) ((Pg.readOne (bat s) i).n + 1)).ok]) (by simp [results, Try.results157, go_sem]) rfl (IPost.mk' _ _ _ _ HR.out rfl rfl)
  · have HR : Hid (Pg.readItem (bat s) i = ⟨(Pg.readOne (bat s) i).v, (Pg.readOne (bat s) i).v, (Pg.readOne (bat s) i).n, true⟩) := by show _ = _; rw [Pg.readItem, if_pos hok, if_neg c]
    have b1 : (bat s (Pg.readOne (bat s) i).n == 45) = false := by simpa using c
    clear hok c
    go_enter Try.func157, Try.ntmps157
    go_wp2_with fail
    refine (readOne_any s i _ (by omega) (by omega)).mono ?_
    rintro e w' ⟨rfl, rfl⟩
    rw [HO.out]
    go_wp2_with fail
    refine (byteAt_any s _ _).mono ?_
    rintro e w' ⟨rfl, rfl⟩
    go_wp2_with fail
    refine bodyPost_ret (v := .tuple #[.int .i64 (Pg.readOne (bat s) i).v, .int .i64 (Pg.readOne (bat s) i).v, .int .i64 (Pg.readOne (bat s) i).n, .bool true]) (by simp [results, Try.results157, go_sem]) rfl (IPost.mk' _ _ _ _ HR.out rfl rfl)

set_option maxHeartbeats 400000 in
theorem readMost_any (s : ByteArray) (i l : Int) (w : World) (h0 : 0 ≤ i) (h1 : i ≤ 400) :
    Calls Try.prog 156 #[.string s, .int .i64 i, .int .i64 l] w (RPost w (Pg.readMost (bat s) i l)) := by
  by_cases c1 : bat s i = 125
  · have HR : Hid (Pg.readMost (bat s) i l = ⟨l, i + 1, true⟩) := by show _ = _; rw [Pg.readMost, if_pos c1]
    have b1 : (bat s i == 125) = true := by simpa using c1
    clear c1
    go_enter Try.func156, Try.ntmps156
    go_wp2_with fail
    refine (byteAt_any s i _).mono ?_
    rintro e w' ⟨rfl, rfl⟩
    go_wp2_with fail
    go_ret3
    exact RPost.mk' _ _ _ HR.out rfl rfl
  have b1 : (bat s i == 125) = false := by simpa using c1
  by_cases c2 : bat s i = 44
  · have b2 : (bat s i == 44) = true := by simpa using c2
    by_cases c3 : Pg.digitValue (bat s (i + 1)) < 0
    · have HR : Hid (Pg.readMost (bat s) i l = ⟨0, i + 1, false⟩) := by show _ = _; rw [Pg.readMost, if_neg c1, if_pos c2, if_pos c3]
      clear c1 c2
      go_enter Try.func156, Try.ntmps156
      go_wp2_with fail
      refine (byteAt_any s i _).mono ?_
      rintro e w' ⟨rfl, rfl⟩
      go_wp2_with fail
      refine (byteAt_any s (i + 1) _).mono ?_
      rintro e w' ⟨rfl, rfl⟩
      go_wp2_with fail
      refine (digitValue_any _ _).mono ?_
      rintro e w' ⟨rfl, rfl⟩
      go_wp2_with fail
      go_ret3
      exact RPost.mk' _ _ _ HR.out rfl rfl
    by_cases c4 : bat s (i + 2) = 125
    · have HR : Hid (Pg.readMost (bat s) i l = ⟨Pg.digitValue (bat s (i + 1)), i + 3, true⟩) := by show _ = _; rw [Pg.readMost, if_neg c1, if_pos c2, if_neg c3, if_pos c4]
      have b4 : (bat s (i + 2) == 125) = true := by simpa using c4
      clear c1 c2 c4
      go_enter Try.func156, Try.ntmps156
      go_wp2_with fail
      refine (byteAt_any s i _).mono ?_
      rintro e w' ⟨rfl, rfl⟩
      go_wp2_with fail
      refine (byteAt_any s (i + 1) _).mono ?_
      rintro e w' ⟨rfl, rfl⟩
      go_wp2_with fail
      refine (digitValue_any _ _).mono ?_
      rintro e w' ⟨rfl, rfl⟩
      go_wp2_with fail
      refine (byteAt_any s (i + 2) _).mono ?_
      rintro e w' ⟨rfl, rfl⟩
      go_wp2_with fail
      go_ret3
      exact RPost.mk' _ _ _ HR.out rfl rfl
    · have HR : Hid (Pg.readMost (bat s) i l = ⟨0, i + 2, false⟩) := by show _ = _; rw [Pg.readMost, if_neg c1, if_pos c2, if_neg c3, if_neg c4]
      have b4 : (bat s (i + 2) == 125) = false := by simpa using c4
      clear c1 c2 c4
      go_enter Try.func156, Try.ntmps156
      go_wp2_with fail
      refine (byteAt_any s i _).mono ?_
      rintro e w' ⟨rfl, rfl⟩
      go_wp2_with fail
      refine (byteAt_any s (i + 1) _).mono ?_
      rintro e w' ⟨rfl, rfl⟩
      go_wp2_with fail
      refine (digitValue_any _ _).mono ?_
      rintro e w' ⟨rfl, rfl⟩
      go_wp2_with fail
      refine (byteAt_any s (i + 2) _).mono ?_
      rintro e w' ⟨rfl, rfl⟩
      go_wp2_with fail
      go_ret3
      exact RPost.mk' _ _ _ HR.out rfl rfl
  · have HR : Hid (Pg.readMost (bat s) i l = ⟨0, i, false⟩) := by show _ = _; rw [Pg.readMost, if_neg c1, if_neg c2]
    have b2 : (bat s i == 44) = false := by simpa using c2
    clear c1 c2
    go_enter Try.func156, Try.ntmps156
    go_wp2_with fail
    refine (byteAt_any s i _).mono ?_
    rintro e w' ⟨rfl, rfl⟩
    go_wp2_with fail
    go_ret3
    exact RPost.mk' _ _ _ HR.out rfl rfl
end Go.Proofs.Ytoaaklhpmhjhkaa
