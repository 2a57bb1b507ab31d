/-
  Contracts of the program's Parse and Check.
-/
import Derived.Test.YtoaaklhpmhjhkaaPartH
import Derived.Test.YtoaaklhpmhjhkaaPartI
import Derived.Test.YtoaaklhpmhjhkaaPartK
namespace Go.Proofs.Ytoaaklhpmhjhkaa
open Go.RowKit
open Pg (Pt)

/-- What Parse leaves. -/
def PPost (w : World) (s : ByteArray) (e : Ending) (w' : World) : Prop :=
  ∃ (v : Value) (ps : List Pt), e = .returned (.tuple #[v, .int .i64 (Pg.wrong (bat s) s.size).1, .int .i64 (Pg.wrong (bat s) s.size).2]) ∧ Below w.heap.size w w' ∧
    ((Pg.wrong (bat s) s.size).1 = 0 → w'.ownsRow w.heap.size 146 261 v ps.length (flat ps) ∧ ps.map Pt.strip = (Pg.readParts (bat s) s.size).ps ∧ ps.length ≤ 100)

set_option maxHeartbeats 1000000 in
theorem Parse_any (s : ByteArray) (w : World) (hm : s.size ≤ maxLen) : Calls Try.prog 81 #[.string s] w (PPost w s) := by
  unfold maxLen at hm
  by_cases h40 : 40 < s.size
  · have HW : Hid (Pg.wrong (bat s) s.size = (2, 0)) := by show _ = _; rw [Pg.wrong, if_pos (by omega)]
    go_enter Try.func81, Try.ntmps81
    go_wp2_with fail
    go_ret3
    refine ⟨_, [], by rw [HW.out]; rfl, Below.refl _ _, fun h => ?_⟩
    rw [HW.out] at h; cases h
  have hs : s.size ≤ 40 := by omega
  have HW0 : Hid (Pg.wrong (bat s) s.size = if (Pg.readParts (bat s) s.size).ok then (if Pg.tooDeep (Pg.readParts (bat s) s.size).ps 0 = -1 then (if Pg.falling (Pg.readParts (bat s) s.size).ps = -1 then (if Pg.matchless (Pg.readParts (bat s) s.size).ps = -1 then (0, 0) else (6, Pg.matchless (Pg.readParts (bat s) s.size).ps)) else (5, Pg.falling (Pg.readParts (bat s) s.size).ps)) else (4, Pg.tooDeep (Pg.readParts (bat s) s.size).ps 0)) else (3, (Pg.readParts (bat s) s.size).n)) := by show _ = _; rw [Pg.wrong, if_neg (by omega)]
  clear hm
  go_enter Try.func81, Try.ntmps81
  go_wp2_with fail
  refine (readParts_any s _ hs).mono ?_
  rintro e w1 ⟨v, ps, rfl, hW1, hok⟩
  generalize hRR : Pg.readParts (bat s) s.size = R at *
  have HRR : Hid (Pg.readParts (bat s) s.size = R) := hRR
  clear hRR
  obtain ⟨n, ok, rps⟩ := R
  have Hok : Hid (ok = true → w1.ownsRow w.heap.size 146 261 v ps.length (flat ps) ∧ ps.map Pt.strip = rps ∧ ps.length ≤ 100) := hok
  clear hok
  cases ok
  · have HW : Hid (Pg.wrong (bat s) s.size = (3, n)) := HW0
    go_wp2_with fail
    go_ret3
    refine ⟨_, [], by rw [HW.out]; rfl, hW1, fun h => ?_⟩
    rw [HW.out] at h; cases h
  obtain ⟨hO, hst, hl⟩ := Hok.out rfl
  have e1 : Pg.tooDeep rps 0 = Pg.tooDeep ps 0 := by rw [← hst, Pg.tooDeep_strip]
  have e2 : Pg.falling rps = Pg.falling ps := by rw [← hst, Pg.falling_strip]
  have e3 : Pg.matchless rps = Pg.matchless ps := by rw [← hst, Pg.matchless_strip]
  have HW1 : Hid (Pg.wrong (bat s) s.size = if Pg.tooDeep ps 0 = -1 then (if Pg.falling ps = -1 then (if Pg.matchless ps = -1 then (0, 0) else (6, Pg.matchless ps)) else (5, Pg.falling ps)) else (4, Pg.tooDeep ps 0)) := by
    show _ = _
    have := HW0.out
    simp only [if_true] at this
    rw [e1, e2, e3] at this; exact this
  have Hst : Hid (ps.map Pt.strip = rps) := hst
  clear HW0 e1 e2 e3 Hok hst
  go_wp2_with fail
  refine (tooDeep_any v ps _ _ hl hO).mono ?_
  rintro e w2 ⟨rfl, hW2⟩
  have hO2 := owns_below hO hW2
  have hB2 := hW1.trans (hW2.mono hW1.size)
  generalize Pg.tooDeep ps 0 = td at *
  by_cases h1 : td = -1
  · subst h1
    go_wp2_with fail
    refine (falling_any v ps _ _ hl hO2).mono ?_
    rintro e w3 ⟨rfl, hW3⟩
    have hO3 := owns_below hO2 hW3
    have hB3 := hB2.trans (hW3.mono hB2.size)
    generalize Pg.falling ps = fl at *
    by_cases h2 : fl = -1
    · subst h2
      go_wp2_with fail
      refine (matchless_any v ps _ _ hl hO3).mono ?_
      rintro e w4 ⟨rfl, hW4⟩
      have hO4 := owns_below hO3 hW4
      have hB4 := hB3.trans (hW4.mono hB3.size)
      generalize Pg.matchless ps = ml at *
      by_cases h3 : ml = -1
      · subst h3
        have HW : Hid (Pg.wrong (bat s) s.size = (0, 0)) := HW1
        go_wp2_with fail
        go_ret3
        exact ⟨v, ps, by rw [HW.out]; rfl, hB4, fun _ => ⟨hO4, by rw [HRR.out]; exact Hst.out, hl⟩⟩
      · have HW : Hid (Pg.wrong (bat s) s.size = (6, ml)) := by show _ = _; rw [HW1.out]; simp [h3]
        have hb : (ml == -1) = false := by simpa using h3
        have hb2 : (ml != -1) = true := by simpa using h3
        clear h3 HW1
        go_wp2_with fail
        go_ret3
        refine ⟨_, [], by rw [HW.out]; rfl, hB4, fun h => ?_⟩
        rw [HW.out] at h; cases h
    · have HW : Hid (Pg.wrong (bat s) s.size = (5, fl)) := by show _ = _; rw [HW1.out]; simp [h2]
      have hb : (fl == -1) = false := by simpa using h2
      have hb2 : (fl != -1) = true := by simpa using h2
      clear h2 HW1
      go_wp2_with fail
      go_ret3
      refine ⟨_, [], by rw [HW.out]; rfl, hB3, fun h => ?_⟩
      rw [HW.out] at h; cases h
  · have HW : Hid (Pg.wrong (bat s) s.size = (4, td)) := by show _ = _; rw [HW1.out]; simp [h1]
    have hb : (td == -1) = false := by simpa using h1
    have hb2 : (td != -1) = true := by simpa using h1
    clear h1 HW1
    go_wp2_with fail
    go_ret3
    refine ⟨_, [], by rw [HW.out]; rfl, hB2, fun h => ?_⟩
    rw [HW.out] at h; cases h
end Go.Proofs.Ytoaaklhpmhjhkaa
