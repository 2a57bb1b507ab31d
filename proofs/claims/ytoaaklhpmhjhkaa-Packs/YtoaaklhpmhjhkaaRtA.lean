/-
  Plain mathematics: what is written is read: of a file that sound tables tell.
-/
import Derived.Test.YtoaaklhpmhjhkaaLdF
namespace Go.Proofs.Ytoaaklhpmhjhkaa
open Go.RowKit

/-- The byte at a place of a list. -/
def fbL (l : List UInt8) (i : Nat) : Int := ((l.getD i 0).toNat : Int)
theorem fb_list (l : List UInt8) (i : Nat) : fb ⟨l.toArray⟩ i = fbL l i := by simp [fb, fbL]
theorem fbL_right (a b : List UInt8) (i : Nat) : fbL (a ++ b) (a.length + i) = fbL b i := by
  simp [fbL, List.getD_eq_getElem?_getD, List.getElem?_append_right]
theorem fbL_left (a b : List UInt8) (i : Nat) (h : i < a.length) : fbL (a ++ b) i = fbL a i := by
  simp [fbL, List.getD_eq_getElem?_getD, List.getElem?_append_left h]
theorem fbL_one (x : Int) : fbL [byteOf x] 0 = x % 256 := by
  have := byteOf_toNat x
  simpa [fbL] using this
theorem fbL_mapB (f : Nat → Int) (more : Int) : ∀ (n i : Nat), i < n → fbL (mapB f n more) i = (f i + more) % 256
  | 0, i, h => by omega
  | n + 1, i, h => by
    rw [mapB_succ]
    by_cases e : i = n
    · subst e
      have := fbL_right (mapB f i more) [byteOf (f i + more)] 0
      rw [mapB_len, Nat.add_zero] at this
      rw [this, fbL_one]
    · rw [fbL_left _ _ _ (by rw [mapB_len]; omega)]
      exact fbL_mapB f more n i (by omega)
theorem fbL_cellsB (f g : Nat → Int) : ∀ (n i : Nat), i < n → fbL (cellsB f g n) (2 * i) = (f i + 1) % 256 ∧ fbL (cellsB f g n) (2 * i + 1) = (g i + 1) % 256
  | 0, i, h => by omega
  | n + 1, i, h => by
    rw [cellsB_succ]
    by_cases e : i = n
    · subst e
      have h0 := fbL_right (cellsB f g i) [byteOf (f i + 1), byteOf (g i + 1)] 0
      have h1 := fbL_right (cellsB f g i) [byteOf (f i + 1), byteOf (g i + 1)] 1
      rw [cellsB_len] at h0 h1
      rw [Nat.add_zero] at h0
      rw [h0, h1]
      have b0 := byteOf_toNat (f i + 1)
      have b1 := byteOf_toNat (g i + 1)
      exact ⟨by simpa [fbL] using b0, by simpa [fbL] using b1⟩
    · rw [fbL_left _ _ _ (by rw [cellsB_len]; omega), fbL_left _ _ _ (by rw [cellsB_len]; omega)]
      exact fbL_cellsB f g n i (by omega)
theorem basesB_len1 (f : Nat → Int) : ∀ n, (basesB f n 1).length = n
  | 0 => by simp [basesB]
  | n + 1 => by rw [basesB_succ, List.length_append, basesB_len1 f n]; simp
theorem basesB_len2 (f : Nat → Int) : ∀ n, (basesB f n 2).length = 2 * n
  | 0 => by simp [basesB]
  | n + 1 => by rw [basesB_succ, List.length_append, basesB_len2 f n]; simp; omega
theorem fbL_bases1 (f : Nat → Int) : ∀ (n i : Nat), i < n → fbL (basesB f n 1) i = f i % 256
  | 0, i, h => by omega
  | n + 1, i, h => by
    rw [basesB_succ]
    by_cases e : i = n
    · subst e
      have h0 := fbL_right (basesB f i 1) [byteOf (f i)] 0
      rw [basesB_len1, Nat.add_zero] at h0
      rw [if_neg (by omega), h0, fbL_one]
    · rw [fbL_left _ _ _ (by rw [basesB_len1]; omega)]
      exact fbL_bases1 f n i (by omega)
theorem fbL_bases2 (f : Nat → Int) : ∀ (n i : Nat), i < n → fbL (basesB f n 2) (2 * i) = f i / 256 % 256 ∧ fbL (basesB f n 2) (2 * i + 1) = f i % 256
  | 0, i, h => by omega
  | n + 1, i, h => by
    rw [basesB_succ, if_pos rfl]
    by_cases e : i = n
    · subst e
      have h0 := fbL_right (basesB f i 2) [byteOf (f i / 256), byteOf (f i)] 0
      have h1 := fbL_right (basesB f i 2) [byteOf (f i / 256), byteOf (f i)] 1
      rw [basesB_len2] at h0 h1
      rw [Nat.add_zero] at h0
      rw [h0, h1]
      have b0 := byteOf_toNat (f i / 256)
      have b1 := byteOf_toNat (f i)
      exact ⟨by simpa [fbL] using b0, by simpa [fbL] using b1⟩
    · rw [fbL_left _ _ _ (by rw [basesB_len2]; omega), fbL_left _ _ _ (by rw [basesB_len2]; omega)]
      exact fbL_bases2 f n i (by omega)
/-- Tables that are the same number by number. -/
structure TEq (T U : Tb) : Prop where
  r : T.rules = U.rules
  n1 : T.ncl = U.ncl
  n2 : T.nlb = U.nlb
  n3 : T.nbs = U.nbs
  n4 : T.ndf = U.ndf
  n5 : T.nck = U.nck
  n6 : T.nnx = U.nnx
  f1 : ∀ i, i < T.ncl → T.cl i = U.cl i
  f2 : ∀ i, i < T.nlb → T.lb i = U.lb i
  f3 : ∀ i, i < T.nbs → T.bs i = U.bs i
  f4 : ∀ i, i < T.ndf → T.df i = U.df i
  f5 : ∀ i, i < T.nck → T.ck i = U.ck i
  f6 : ∀ i, i < T.nnx → T.nx i = U.nx i
theorem clsTo_congr {f g : Nat → Int} : ∀ k, (∀ i, i < k → f i = g i) → clsTo f k = clsTo g k
  | 0, _ => rfl
  | k + 1, h => by rw [clsTo, clsTo, clsTo_congr k (fun i hi => h i (by omega)), h k (by omega)]
theorem cls_congr {f g : Nat → Int} {n : Nat} (h : ∀ i, i < n → f i = g i) : cls f n = cls g n := by
  unfold cls
  split
  · rename_i e; subst e; rw [clsTo_congr 256 h]
  · rfl
theorem wideTo_congr {f g : Nat → Int} : ∀ k, (∀ i, i < k → f i = g i) → wideTo f k = wideTo g k
  | 0, _ => rfl
  | k + 1, h => by rw [wideTo, wideTo, wideTo_congr k (fun i hi => h i (by omega)), h k (by omega)]
theorem mapB_congr {f g : Nat → Int} {n : Nat} {m : Int} (h : ∀ i, i < n → f i = g i) : mapB f n m = mapB g n m := by
  unfold mapB
  refine List.map_congr_left (fun i hi => ?_)
  rw [h i (by simpa using hi)]
theorem basesB_congr {f g : Nat → Int} {n : Nat} {m : Int} (h : ∀ i, i < n → f i = g i) : basesB f n m = basesB g n m := by
  induction n with
  | zero => simp [basesB]
  | succ n ih => rw [basesB_succ, basesB_succ, ih (fun i hi => h i (by omega)), h n (by omega)]
theorem cellsB_congr {f g f' g' : Nat → Int} {n : Nat} (h : ∀ i, i < n → f i = f' i) (k : ∀ i, i < n → g i = g' i) : cellsB f g n = cellsB f' g' n := by
  induction n with
  | zero => simp [cellsB]
  | succ n ih => rw [cellsB_succ, cellsB_succ, ih (fun i hi => h i (by omega)) (fun i hi => k i (by omega)), h n (by omega), k n (by omega)]
theorem TEq.body {T U : Tb} (h : TEq T U) (e6 : T.nnx = T.nck) : bodyL T = bodyL U := by
  unfold bodyL
  rw [← h.r, ← h.n1, ← h.n2, ← h.n3, ← h.n4, ← h.n5, cls_congr h.f1, wideTo_congr _ h.f3, mapB_congr h.f1, mapB_congr h.f2, basesB_congr h.f3, mapB_congr h.f4, cellsB_congr h.f5 (fun i hi => h.f6 i (by omega))]
theorem TEq.file {T U : Tb} (h : TEq T U) (e6 : T.nnx = T.nck) : fileL T = fileL U := by unfold fileL; rw [h.body e6]
theorem TEq.snd {T U : Tb} (h : TEq T U) (hS : Snd T) : Snd U := by
  have hd := hS.hd
  have e3 := hS.e3
  have e4 := hS.e4
  have e6 := hS.e6
  unfold Hd at hd
  rw [h.r, cls_congr h.f1, h.n1, h.n2] at hd
  refine ⟨⟨hd.1, hd.2.1, hd.2.2.1, fun i hi => ?_⟩, ?_, ?_, ?_, ?_, fun i hi => ?_, fun i hi => ?_, fun k hk => ?_, ?_⟩
  · rw [← h.f2 i (by rw [h.n2]; exact hi)]; exact hd.2.2.2 i hi
  · rw [← h.n3, ← h.n2]; exact hS.e3
  · rw [← h.n4, ← h.n2]; exact hS.e4
  · rw [← h.n6, ← h.n5]; exact hS.e6
  · rw [← h.n5]; exact hS.e5
  · rw [← h.n2] at hi; rw [← h.f3 i (by omega), ← h.n5]; exact hS.b3 i hi
  · rw [← h.n2] at hi; rw [← h.f4 i (by omega)]; exact hS.b4 i hi
  · rw [← h.n5] at hk
    have hc := hS.cs k hk
    unfold CellOK at hc ⊢
    rw [← h.f5 k hk, ← h.f6 k (by omega), ← h.n2, ← h.n1]
    rcases hc with hc | ⟨c1, c2, c3, c4⟩
    · exact Or.inl hc
    · refine Or.inr ⟨c1, c2, ?_, ?_⟩
      · rw [← h.f3 _ (by omega)]; exact c3
      · rw [← h.f3 _ (by omega), ← cls_congr h.f1]; exact c4
  · rcases hS.la with h0 | h0
    · exact Or.inl (by rw [← h.n5]; exact h0)
    · by_cases hz : T.nck = 0
      · exact Or.inl (by rw [← h.n5]; exact hz)
      · refine Or.inr ?_
        rw [← h.n5, ← h.f5 _ (by omega)]; exact h0
end Go.Proofs.Ytoaaklhpmhjhkaa
