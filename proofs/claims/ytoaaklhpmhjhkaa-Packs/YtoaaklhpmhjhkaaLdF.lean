/-
  Contract of the program's Load.
-/
import Derived.Test.YtoaaklhpmhjhkaaLdE
namespace Go.Proofs.Ytoaaklhpmhjhkaa
open Go.RowKit

/-- A file that is good. -/
def Good (s : ByteArray) : Prop := magicB s = true ∧ Fits s ∧ sumB s = true ∧ Back s
/-- What Load leaves. -/
def LoadPost (s : ByteArray) (w : World) (e : Ending) (w' : World) : Prop :=
  Below w.heap.size w w' ∧ ((∃ c, DecIs s c ∧ e = .returned (.tuple #[.pointer none, .int .i64 c])) ∨
    (Good s ∧ ∃ (b : Nat) (A : TbA), e = .returned (.tuple #[.pointer (some ⟨b, 0, none⟩), .int .i64 0]) ∧ w.heap.size ≤ b ∧ TbAt b (fileT s) A w' ∧ TbF w.heap.size (fileT s) A w'))

theorem DecIs.ne {s : ByteArray} {c : Int} (h : DecIs s c) : (c == 0) = false ∧ (c != 0) = true := by
  rcases h with ⟨_, rfl⟩ | ⟨_, _, rfl⟩ | ⟨_, _, _, rfl⟩ | ⟨_, _, _, _, rfl⟩ <;> exact ⟨rfl, rfl⟩

set_option maxRecDepth 100000 in
set_option maxHeartbeats 1000000 in
theorem load_any (s : ByteArray) (w : World) (hs : s.size ≤ 281474976710656) : Calls Try.prog 42 #[.string s] w (LoadPost s w) := by
  have hz := zero_tables
  have HD : Hid (Calls Try.prog 72 #[.string s] w (DecPost s w)) := decode_any s w hs
  go_enter Try.func42, Try.ntmps42
  go_wp2_with fail
  refine HD.out.mono ?_
  rintro e w1 ⟨hB, ⟨c, hc, rfl⟩ | ⟨hg, A, rfl, hI⟩⟩
  · have HC : Hid (DecIs s c) := hc
    obtain ⟨hc1, hc2⟩ := hc.ne
    clear hc HD
    unfold zeroT
    go_wp2_with fail
    go_ret2
    exact ⟨hB.trans ((bel_box w1 _).mono hB.size), Or.inl ⟨c, HC.out, rfl⟩⟩
  · generalize hT : fileT s = T at *
    have HT : Hid (fileT s = T) := hT
    have HG : Hid (Good s) := hg
    clear hT hg HD
    unfold TbA.cells
    go_wp2_with fail
    go_ret2
    have x1 := bel_box w1 (.cells #[.int .i64 T.rules, .slice A.a1 T.ncl A.c1, .slice A.a2 T.nlb A.c2, .slice A.a3 T.nbs A.c3, .slice A.a4 T.ndf A.c4, .slice A.a5 T.nck A.c5, .slice A.a6 T.nnx A.c6] 26)
    have B1 := hB.trans (x1.mono hB.size)
    have I1 := hI.below x1
    refine ⟨B1.trans ((bel_box _ _).mono B1.size), Or.inr ⟨HG.out, w1.heap.size + 1, A, rfl, by have := hB.size; omega, ?_, ?_⟩⟩
    · rw [HT.out]
      have := TbAt.boxed T A (w1.alloc (.cells #[.int .i64 T.rules, .slice A.a1 T.ncl A.c1, .slice A.a2 T.nlb A.c2, .slice A.a3 T.nbs A.c3, .slice A.a4 T.ndf A.c4, .slice A.a5 T.nck A.c5, .slice A.a6 T.nnx A.c6] 26)) 84
      simpa [TbA.cells] using this
    · rw [HT.out]; exact I1.below (bel_box _ _)
end Go.Proofs.Ytoaaklhpmhjhkaa
