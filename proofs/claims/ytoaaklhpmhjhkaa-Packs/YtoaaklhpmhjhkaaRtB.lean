/-
  Plain mathematics: of a file that sound tables tell: it is good, and tells them.
-/
import Derived.Test.YtoaaklhpmhjhkaaRtA
import Derived.Test.YtoaaklhpmhjhkaaStA
namespace Go.Proofs.Ytoaaklhpmhjhkaa
open Go.RowKit

theorem fbL_mid (P X S : List UInt8) (i : Nat) (h : i < X.length) : fbL (P ++ X ++ S) (P.length + i) = fbL X i := by
  rw [List.append_assoc, fbL_right, fbL_left _ _ _ h]
theorem num_one (l : List UInt8) (i : Nat) : num ⟨l.toArray⟩ i 1 = fbL l i := by simp [num, fb_list]
theorem num_two (l : List UInt8) (i : Nat) : num ⟨l.toArray⟩ i 2 = fbL l i * 256 + fbL l (i + 1) := by simp [num, fb_list]
/-- The head of a file. -/
def hdrL (T : Tb) : List UInt8 := [77, 85, 78, 49, byteOf T.rules, byteOf ((cls T.cl T.ncl : Int) - 1), byteOf T.nlb, byteOf ((T.nck : Int) / 256), byteOf T.nck, byteOf (wideTo T.bs T.nbs)]
theorem body_eq (T : Tb) : bodyL T = hdrL T ++ mapB T.cl T.ncl 0 ++ mapB T.lb T.nlb 1 ++ basesB T.bs T.nbs (wideTo T.bs T.nbs) ++ mapB T.df T.ndf 1 ++ cellsB T.ck T.nx T.nck := by
  simp [bodyL, hdrL]
theorem hdr_len (T : Tb) : (hdrL T).length = 10 := rfl
theorem hdr_at (T : Tb) (i : Nat) (x : Int) (h : (hdrL T)[i]? = some (byteOf x)) : fbL (hdrL T) i = x % 256 := by
  unfold fbL
  rw [List.getD_eq_getElem?_getD, h]
  exact byteOf_toNat x
theorem bases_len {f : Nat → Int} {n : Nat} {w : Int} (h : w = 1 ∨ w = 2) : (basesB f n w).length = n * w.toNat := by
  rcases h with rfl | rfl
  · rw [basesB_len1]; simp
  · rw [basesB_len2]; simp; omega
theorem wide_bd {f : Nat → Int} : ∀ n, wideTo f n = 1 → ∀ i, i < n → f i ≤ 255
  | 0, _, i, hi => by omega
  | n + 1, h, i, hi => by
    rw [wideTo] at h
    by_cases e : 255 < f n
    · rw [if_pos e] at h; omega
    · rw [if_neg e] at h
      by_cases ei : i = n
      · subst ei; omega
      · exact wide_bd n h i (by omega)
/-- The lists of a file, one by one. -/
structure Read (T : Tb) (wd : Nat) (L : List UInt8) : Prop where
  len : L.length = 266 + T.nlb * (wd + 2) + T.nck * 2 + 4
  b4 : fbL L 4 = T.rules
  b6 : fbL L 6 = T.nlb
  b7 : fbL L 7 * 256 + fbL L 8 = T.nck
  b9 : fbL L 9 = wd
  l1 : ∀ i, i < 256 → fbL L (10 + i) = T.cl i
  l2 : ∀ i, i < T.nlb → fbL L (266 + i) = T.lb i + 1
  l3 : ∀ i, i < T.nlb → num ⟨L.toArray⟩ (266 + T.nlb + i * wd) wd = T.bs i
  l4 : ∀ i, i < T.nlb → fbL L (266 + T.nlb + T.nlb * wd + i) = T.df i + 1
  l5 : ∀ i, i < T.nck → fbL L (266 + T.nlb + T.nlb * wd + T.nlb + 2 * i) = T.ck i + 1
  l6 : ∀ i, i < T.nck → fbL L (266 + T.nlb + T.nlb * wd + T.nlb + 2 * i + 1) = T.nx i + 1

theorem file_read (T : Tb) (hS : Snd T) (wd : Nat) (hw : wideTo T.bs T.nbs = (wd : Int)) : Read T wd (fileL T) := by
  have hcl := hS.cl
  have hd := hS.hd
  have e3 := hS.e3
  have e4 := hS.e4
  have e6 := hS.e6
  have e5 := hS.e5
  have hwd : wd = 1 ∨ wd = 2 := by
    rcases wideTo_cases T.bs T.nbs with h | h <;> (rw [hw] at h; omega)
  obtain ⟨⟨r1, r2⟩, ⟨n1, n2⟩, _, hlb⟩ := hd
  have LC : (mapB T.cl T.ncl 0).length = 256 := by rw [mapB_len, hcl.1]
  have LL : (mapB T.lb T.nlb 1).length = T.nlb := mapB_len _ _ _
  have LB : (basesB T.bs T.nbs (wideTo T.bs T.nbs)).length = T.nlb * wd := by
    rw [hw, bases_len (by omega), e3]; simp
  have LD : (mapB T.df T.ndf 1).length = T.nlb := by rw [mapB_len, e4]
  have LE : (cellsB T.ck T.nx T.nck).length = 2 * T.nck := cellsB_len _ _ _
  have LH := hdr_len T
  have hF : fileL T = hdrL T ++ mapB T.cl T.ncl 0 ++ mapB T.lb T.nlb 1 ++ basesB T.bs T.nbs (wideTo T.bs T.nbs) ++ mapB T.df T.ndf 1 ++ cellsB T.ck T.nx T.nck ++ sumL (bodyL T) := by rw [fileL, body_eq T]
  generalize sumL (bodyL T) = S at hF
  have LS : True := trivial
  have hSl : (fileL T).length = (bodyL T).length + 4 := by rw [fileL, List.length_append]; rfl
  have hBl : (bodyL T).length = 266 + T.nlb * (wd + 2) + T.nck * 2 := by
    rw [body_eq]
    simp only [List.length_append, LH, LC, LL, LB, LD, LE]
    rw [Nat.mul_add]; omega
  have H : ∀ i x, (hdrL T)[i]? = some (byteOf x) → fbL (fileL T) i = x % 256 := fun i x hx => by
    have hi : i < (hdrL T).length := (List.getElem?_eq_some_iff.1 hx).1
    rw [hF]
    simp only [List.append_assoc]
    rw [fbL_left _ _ _ hi]
    exact hdr_at T i x hx
  have S1 : ∀ i, i < 256 → fbL (fileL T) (10 + i) = fbL (mapB T.cl T.ncl 0) i := fun i hi => by
    rw [hF]
    simp only [List.append_assoc]
    rw [← LH, ← List.append_assoc, fbL_mid _ _ _ _ (by omega)]
  have S2 : ∀ i, i < T.nlb → fbL (fileL T) (266 + i) = fbL (mapB T.lb T.nlb 1) i := fun i hi => by
    rw [hF]
    have := fbL_mid (hdrL T ++ mapB T.cl T.ncl 0) (mapB T.lb T.nlb 1) (basesB T.bs T.nbs (wideTo T.bs T.nbs) ++ mapB T.df T.ndf 1 ++ cellsB T.ck T.nx T.nck ++ S) i (by omega)
    rw [List.length_append, LH, LC] at this
    simpa only [List.append_assoc] using this
  have S3 : ∀ i, i < T.nlb * wd → fbL (fileL T) (266 + T.nlb + i) = fbL (basesB T.bs T.nbs (wideTo T.bs T.nbs)) i := fun i hi => by
    rw [hF]
    have := fbL_mid (hdrL T ++ mapB T.cl T.ncl 0 ++ mapB T.lb T.nlb 1) (basesB T.bs T.nbs (wideTo T.bs T.nbs)) (mapB T.df T.ndf 1 ++ cellsB T.ck T.nx T.nck ++ S) i (by omega)
    rw [List.length_append, List.length_append, LH, LC, LL] at this
    simpa only [List.append_assoc] using this
  have S4 : ∀ i, i < T.nlb → fbL (fileL T) (266 + T.nlb + T.nlb * wd + i) = fbL (mapB T.df T.ndf 1) i := fun i hi => by
    rw [hF]
    have := fbL_mid (hdrL T ++ mapB T.cl T.ncl 0 ++ mapB T.lb T.nlb 1 ++ basesB T.bs T.nbs (wideTo T.bs T.nbs)) (mapB T.df T.ndf 1) (cellsB T.ck T.nx T.nck ++ S) i (by omega)
    rw [List.length_append, List.length_append, List.length_append, LH, LC, LL, LB] at this
    simpa only [List.append_assoc] using this
  have S5 : ∀ i, i < 2 * T.nck → fbL (fileL T) (266 + T.nlb + T.nlb * wd + T.nlb + i) = fbL (cellsB T.ck T.nx T.nck) i := fun i hi => by
    rw [hF]
    have := fbL_mid (hdrL T ++ mapB T.cl T.ncl 0 ++ mapB T.lb T.nlb 1 ++ basesB T.bs T.nbs (wideTo T.bs T.nbs) ++ mapB T.df T.ndf 1) (cellsB T.ck T.nx T.nck) S i (by omega)
    rw [List.length_append, List.length_append, List.length_append, List.length_append, LH, LC, LL, LB, LD] at this
    simpa only [List.append_assoc] using this
  refine ⟨by rw [hSl, hBl], ?_, ?_, ?_, ?_, fun i hi => ?_, fun i hi => ?_, fun i hi => ?_, fun i hi => ?_, fun i hi => ?_, fun i hi => ?_⟩
  · rw [H 4 T.rules rfl]; omega
  · rw [H 6 T.nlb rfl]; omega
  · rw [H 7 ((T.nck : Int) / 256) rfl, H 8 T.nck rfl]; omega
  · rw [H 9 (wideTo T.bs T.nbs) rfl, hw]; omega
  · rw [S1 i hi, fbL_mapB _ _ _ _ (by rw [hcl.1]; exact hi)]
    have := hcl.2 i hi; omega
  · rw [S2 i hi, fbL_mapB _ _ _ _ hi]
    have := hlb i hi; omega
  · have hb := hS.b3 i hi
    rcases hwd with rfl | rfl
    · rw [num_one, Nat.mul_one, S3 i (by omega), hw]
      have := fbL_bases1 T.bs T.nbs i (by omega)
      have h255 := wide_bd T.nbs hw i (by omega)
      rw [show ((1 : Nat) : Int) = 1 from rfl, this]; omega
    · have b1 := S3 (2 * i) (by omega)
      have b2 := S3 (2 * i + 1) (by omega)
      have hbb := fbL_bases2 T.bs T.nbs i (by omega)
      rw [hw, show ((2 : Nat) : Int) = 2 from rfl] at b1 b2
      rw [num_two, show 266 + T.nlb + i * 2 = 266 + T.nlb + 2 * i by omega, b1, show 266 + T.nlb + 2 * i + 1 = 266 + T.nlb + (2 * i + 1) by omega, b2, hbb.1, hbb.2]
      omega
  · rw [S4 i hi, fbL_mapB _ _ _ _ (by omega)]
    have := hS.b4 i hi; omega
  · have hc := hS.cs i hi
    rw [S5 (2 * i) (by omega), (fbL_cellsB T.ck T.nx T.nck i hi).1]
    unfold CellOK at hc; omega
  · have hc := hS.cs i hi
    rw [show 266 + T.nlb + T.nlb * wd + T.nlb + 2 * i + 1 = 266 + T.nlb + T.nlb * wd + T.nlb + (2 * i + 1) by omega, S5 (2 * i + 1) (by omega), (fbL_cellsB T.ck T.nx T.nck i hi).2]
    unfold CellOK at hc; omega

theorem ext_list (l : List UInt8) (a b : Nat) : ((⟨l.toArray⟩ : ByteArray).extract a b).data.toList = (l.take b).drop a := by
  have h : ((⟨l.toArray⟩ : ByteArray).extract a b).data = l.toArray.extract a b := by simp
  rw [h]
  simp [List.extract_eq_take_drop, List.drop_take]
theorem sumB_file (l : List UInt8) : sumB ⟨(l ++ sumL l).toArray⟩ = true := by
  have hl : (sumL l).length = 4 := rfl
  have hsz : (⟨(l ++ sumL l).toArray⟩ : ByteArray).size = l.length + 4 := by
    have : (⟨(l ++ sumL l).toArray⟩ : ByteArray).size = (l ++ sumL l).length := by simp [ByteArray.size]
    rw [this, List.length_append, hl]
  unfold sumB
  rw [hsz, show l.length + 4 - 4 = l.length by omega, ByteArray.toList_eq, ByteArray.toList_eq, ext_list, ext_list]
  have h1 : ((l ++ sumL l).take (l.length + 4)).drop l.length = sumL l := by
    rw [List.take_of_length_le (by rw [List.length_append, hl]; omega), List.drop_left]
  have h2 : ((l ++ sumL l).take l.length).drop 0 = l := by rw [List.drop_zero, List.take_left]
  rw [h1, h2]
  simp
/-- What is written is read. -/
theorem round (T : Tb) (hS : Snd T) : Good ⟨(fileL T).toArray⟩ ∧ TEq T (fileT ⟨(fileL T).toArray⟩) := by
  obtain ⟨wd, hw⟩ : ∃ wd : Nat, wideTo T.bs T.nbs = (wd : Int) := by
    rcases wideTo_cases T.bs T.nbs with h | h
    · exact ⟨1, h⟩
    · exact ⟨2, h⟩
  have R := file_read T hS wd hw
  have hwd : wd = 1 ∨ wd = 2 := by
    rcases wideTo_cases T.bs T.nbs with h | h <;> (rw [hw] at h; omega)
  have hcl := hS.cl
  have hd := hS.hd
  have e3 := hS.e3
  have e4 := hS.e4
  have e6 := hS.e6
  have e5 := hS.e5
  have k4 : num ⟨(fileL T).toArray⟩ 4 1 = T.rules := by rw [num_one]; exact R.b4
  have k6 : num ⟨(fileL T).toArray⟩ 6 1 = T.nlb := by rw [num_one]; exact R.b6
  have k7 : num ⟨(fileL T).toArray⟩ 7 2 = T.nck := by rw [num_two]; exact R.b7
  have k9 : num ⟨(fileL T).toArray⟩ 9 1 = wd := by rw [num_one]; exact R.b9
  have hT : fileT ⟨(fileL T).toArray⟩ = rdT ⟨(fileL T).toArray⟩ T.nlb T.nck wd := by
    unfold fileT; rw [k6, k7, k9]; simp
  have hE : TEq T (fileT ⟨(fileL T).toArray⟩) := by
    rw [hT]
    refine ⟨k4.symm, hcl.1, rfl, e3, e4, rfl, e6, fun i hi => ?_, fun i hi => ?_, fun i hi => ?_, fun i hi => ?_, fun i hi => ?_, fun i hi => ?_⟩
    · simp only [rdT, lst]; rw [num_one, Nat.mul_one, R.l1 i (by omega)]; omega
    · simp only [rdT, lst]; rw [num_one, Nat.mul_one, R.l2 i hi]; omega
    · simp only [rdT, lst]; rw [R.l3 i (by omega)]; omega
    · simp only [rdT, lst]; rw [num_one, Nat.mul_one, R.l4 i (by omega)]; omega
    · simp only [rdT]; rw [num_one, R.l5 i hi]; omega
    · simp only [rdT]; rw [num_one, R.l6 i (by omega)]; omega
  have hsz : (⟨(fileL T).toArray⟩ : ByteArray).size = (fileL T).length := by simp [ByteArray.size]
  refine ⟨⟨?_, ⟨?_, ?_, ?_⟩, ?_, ?_, ?_⟩, hE⟩
  · unfold magicB
    rw [decide_eq_true (by rw [hsz, R.len]; omega)]
    have : ((⟨(fileL T).toArray⟩ : ByteArray).extract 0 4).toList = [77, 85, 78, 49] := by
      rw [ByteArray.toList_eq]
      simp [ByteArray.extract, ByteArray.copySlice]
      unfold fileL bodyL
      simp
    rw [this]; rfl
  · rw [hsz, R.len]; omega
  · rw [k4, k6, k7, k9]
    refine ⟨hd.1, ?_, by omega, by omega⟩
    have := hd.2.1; omega
  · rw [hsz, R.len, k6, k7, k9]; simp
  · exact sumB_file (bodyL T)
  · exact hE.snd hS
  · rw [← hE.file e6]
end Go.Proofs.Ytoaaklhpmhjhkaa
