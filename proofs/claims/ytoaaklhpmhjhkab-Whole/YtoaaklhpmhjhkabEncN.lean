/-
  The law: stillTables, encoded, Encodes.
-/
import Derived.Test.YtoaaklhpmhjhkabEncM
import Derived.Test.YtoaaklhpmhjhkabEncL
namespace Go.Proofs.Ytoaaklhpmhjhkab
open Go.RowKit

/-- Whoever encodes answers the same. -/
theorem EncPost.ex (T : Tb) : ∃ (s : ByteArray) (er : Int), ∀ (w : World) (e : Ending) (w' : World), EncPost T w e w' → e = .returned (.tuple #[.string s, .int .i64 er]) ∧ Below w.heap.size w w' := by
  by_cases hS : Snd T
  · refine ⟨⟨(fileL T).toArray⟩, 0, fun w e w' h => ⟨?_, h.1⟩⟩
    rcases h.2 with ⟨_, h⟩ | ⟨h, _⟩
    · exact h
    · exact absurd hS h
  · refine ⟨⟨#[]⟩, 11, fun w e w' h => ⟨?_, h.1⟩⟩
    rcases h.2 with ⟨h, _⟩ | ⟨_, h⟩
    · exact absurd h hS
    · exact h
/-- What encoded leaves. -/
def EPost (w : World) (e : Ending) (w' : World) : Prop := (∃ s, e = .returned (.tuple #[.string s, .bool true])) ∧ Below w.heap.size w w'
theorem HRows.tbIn {G : HAd} {T : Tb} {w : World} (h : HRows G T w) : TbIn T (G.tb T) w := by
  have e : ∀ (g : Nat) (f : Nat → Int) (n : Nat), NRow g (handedI f n) (n + 3) w → IL (some ⟨g, 0, none⟩) f n w := fun g f n hr i hi => ⟨g, 0, rfl, by have := (hr i (by omega)).1; rw [Nat.zero_add]; simpa [handedI, hi] using this⟩
  exact ⟨e _ _ _ h.r1, e _ _ _ h.r2, e _ _ _ h.r3, e _ _ _ h.r4, e _ _ _ h.r5, e _ _ _ h.r6⟩
theorem HRows.block {G : HAd} {T : Tb} {w w' : World} (h : HRows G T w) (hb : ∀ k, k < w.heap.size → w'.heap[k]? = w.heap[k]?) : HRows G T w' :=
  ⟨h.r1.block (hb _ (h.r1.lt (by omega))), h.r2.block (hb _ (h.r2.lt (by omega))), h.r3.block (hb _ (h.r3.lt (by omega))), h.r4.block (hb _ (h.r4.lt (by omega))), h.r5.block (hb _ (h.r5.lt (by omega))), h.r6.block (hb _ (h.r6.lt (by omega)))⟩
end Go.Proofs.Ytoaaklhpmhjhkab
