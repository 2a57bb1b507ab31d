/-
  Plain mathematics: a text that is cut off at a token's beginning is cut behind it as it was.
-/
import Derived.Test.YtoaaklhpmhjhkabScB
namespace Go.Proofs.Ytoaaklhpmhjhkab
open Go.RowKit

/-- y is x from place a on. -/
structure From (x y : ByteArray) (a : Nat) : Prop where
  z : y.size + a = x.size
  b : ∀ i, fb x (a + i) = fb y i
theorem tkF_from {T : Tb} {x y : ByteArray} {a i : Nat} (h : From x y a) : ∀ (u j : Nat) (s r l : Int), tkF T x (a + i) u (a + j) s r l = tkF T y i u j s r l
  | 0, _, _, _, _ => rfl
  | u + 1, j, s, r, l => by
    have hz := h.z
    have e : ((a + j : Nat) : Int) + 1 - ((a + i : Nat) : Int) = (j : Int) + 1 - (i : Int) := by omega
    rw [tkF, tkF, h.b j, e, Nat.add_assoc a j 1, tkF_from h u (j + 1), tkF_from h u (j + 1)]
    by_cases hj : j < y.size
    · rw [if_pos hj, if_pos (by omega)]
    · rw [if_neg hj, if_neg (by omega)]
theorem tkAt_from {T : Tb} {x y : ByteArray} {a : Nat} (h : From x y a) (i : Nat) : tkAt T x (a + i) = tkAt T y i := by
  unfold tkAt
  have hz := h.z
  rw [tkF_from h, show x.size - (a + i) = y.size - i by omega]
/-- A token that stands a places further on. -/
def shiftK (a : Nat) (t : Int × Int × Int) : Int × Int × Int := (t.1, (a : Int) + t.2.1, t.2.2)
theorem tks_from {T : Tb} {x y : ByteArray} {a : Nat} (h : From x y a) : ∀ (u i : Nat), tks T x u (a + i) = (tks T y u i).map (shiftK a)
  | 0, _ => rfl
  | u + 1, i => by
    have hz := h.z
    rw [tks, tks, tkAt_from h i, Nat.add_assoc, tks_from h u]
    by_cases hi : i < y.size
    · rw [if_pos hi, if_pos (by omega), List.map_cons]
      congr 1
    · rw [if_neg hi, if_neg (by omega)]; rfl
theorem tks_fuel (T : Tb) (x : ByteArray) : ∀ (u v i : Nat), x.size ≤ u + i → x.size ≤ v + i → tks T x u i = tks T x v i
  | 0, v, i, h, _ => by rw [tks_end (by omega), tks_end (by omega)]
  | u + 1, 0, i, _, h => by rw [tks_end (by omega), tks_end (by omega)]
  | u + 1, v + 1, i, hu, hv => by
    by_cases hi : i < x.size
    · have hb := tkAt_bd T x i hi
      rw [tks, tks, if_pos hi, if_pos hi, tks_fuel T x u v _ (by omega) (by omega)]
    · rw [tks_end (by omega), tks_end (by omega)]
/-- The tokens from the k-th on. -/
theorem tks_drop (T : Tb) (x : ByteArray) : ∀ (k u i : Nat) (t : Int × Int × Int), x.size ≤ u + i → (tks T x u i)[k]? = some t →
    ∃ a : Nat, t.2.1 = (a : Int) ∧ i + k ≤ a ∧ a < x.size ∧ ((k = 0) ↔ a = i) ∧ (tks T x u i).drop k = tks T x x.size a
  | 0, u, i, t, hu, h => by
    cases u with
    | zero => simp [tks] at h
    | succ u =>
      by_cases hi : i < x.size
      · have h2 := h
        rw [tks, if_pos hi] at h2
        simp at h2
        subst h2
        exact ⟨i, rfl, by omega, hi, by simp, by rw [List.drop_zero]; exact tks_fuel T x _ _ i hu (by omega)⟩
      · rw [tks_end (by omega)] at h; simp at h
  | k + 1, u, i, t, hu, h => by
    cases u with
    | zero => simp [tks] at h
    | succ u =>
      by_cases hi : i < x.size
      · have hb := tkAt_bd T x i hi
        rw [tks, if_pos hi] at h ⊢
        simp only [List.getElem?_cons_succ] at h
        obtain ⟨a, e1, e2, e3, _, e5⟩ := tks_drop T x k u (i + (tkAt T x i).2.toNat) t (by omega) h
        exact ⟨a, e1, by omega, e3, by constructor <;> (intro; omega), by rw [List.drop_succ_cons]; exact e5⟩
      · rw [tks_end (by omega)] at h; simp at h
/-- The tokens lie one behind the other, and are together the text. -/
theorem tks_chain (T : Tb) (x : ByteArray) : ∀ (u i : Nat), x.size ≤ u + i → i ≤ x.size → ((tks T x u i).foldl (fun (p : Option Int) t => match p with | some a => if t.2.1 = a ∧ (1 : Int) ≤ t.2.2 then some (a + t.2.2) else none | none => none) (some (i : Int))) = some (x.size : Int)
  | 0, i, h, h' => by rw [tks]; simp; omega
  | u + 1, i, h, h' => by
    by_cases hi : i < x.size
    · have hb := tkAt_bd T x i hi
      rw [tks, if_pos hi, List.foldl_cons]
      simp only [true_and, hb.1, if_true]
      have e : (i : Int) + (tkAt T x i).2 = ((i + (tkAt T x i).2.toNat : Nat) : Int) := by omega
      rw [e]
      exact tks_chain T x u _ (by omega) (by omega)
    · rw [tks_end (by omega)]
      simp; omega
end Go.Proofs.Ytoaaklhpmhjhkab
