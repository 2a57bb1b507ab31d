/-
  Plain mathematics: the reference's readers look no further than they go.
-/
import Derived.Test.YtoaaklhpmhjhkaaMathD
namespace Go.Proofs.Ytoaaklhpmhjhkaa
open Go.RowKit

theorem one_local {l : List UInt8} {v : Int} {n : Nat} (h : Rf.one l = some (v, n)) (r : List UInt8) : Rf.one (l.take n ++ r) = some (v, n) := by
  unfold Rf.one at h
  rcases l with _ | ⟨c, t⟩
  · cases h
  simp only at h
  by_cases h92 : c = 92
  · rw [if_pos h92] at h
    rcases t with _ | ⟨d, t⟩
    · cases h
    simp only at h
    by_cases h110 : d = 110
    · rw [if_pos h110] at h
      simp only [Option.some.injEq, Prod.mk.injEq] at h
      obtain ⟨rfl, rfl⟩ := h
      simp [Rf.one, h92, h110]
    rw [if_neg h110] at h
    by_cases h116 : d = 116
    · rw [if_pos h116] at h
      simp only [Option.some.injEq, Prod.mk.injEq] at h
      obtain ⟨rfl, rfl⟩ := h
      simp [Rf.one, h92, h116]
    rw [if_neg h116] at h
    by_cases h120 : d = 120
    · rw [if_pos h120] at h
      rcases t with _ | ⟨x, _ | ⟨y, t⟩⟩
      · cases h
      · cases h
      simp only at h
      split at h
      · rename_i hxy
        simp only [Option.some.injEq, Prod.mk.injEq] at h
        obtain ⟨rfl, rfl⟩ := h
        rw [Bool.and_eq_true] at hxy
        simp [Rf.one, h92, h120, hxy.1, hxy.2]
      · cases h
    · rw [if_neg h120] at h
      simp only [Option.some.injEq, Prod.mk.injEq] at h
      obtain ⟨rfl, rfl⟩ := h
      simp [Rf.one, h92, h110, h116, h120]
  · rw [if_neg h92] at h
    simp only [Option.some.injEq, Prod.mk.injEq] at h
    obtain ⟨rfl, rfl⟩ := h
    simp [Rf.one, h92]
theorem take_take_append (l : List UInt8) (a b : Nat) (r : List UInt8) (_h : a ≤ l.length) : ∃ r', l.take (a + b) ++ r = l.take a ++ r' ∧ r' = (l.drop a).take b ++ r := by
  exact ⟨_, by rw [List.take_add, List.append_assoc], rfl⟩
theorem items_local : ∀ (f : Nat) (l : List UInt8) (i : Nat) (fa : Int) (inn : Nat → Bool) (j : Nat) (FA : Int) (F : Nat → Bool), Rf.items f l i fa inn = some (j, FA, F) →
    ∀ (r : List UInt8) (f' i' : Nat) (fa' : Int) (inn' : Nat → Bool), j - i + 1 ≤ f' → ∃ FA' F', Rf.items f' (l.take (j - i + 1) ++ r) i' fa' inn' = some (i' + (j - i), FA', F') := by
  intro f
  induction f with
  | zero => intro l i fa inn j FA F h; simp [Rf.items] at h
  | succ f ih =>
    intro l i fa inn j FA F h r f' i' fa' inn' hf
    obtain ⟨f', rfl⟩ : ∃ q, f' = q + 1 := ⟨f' - 1, by omega⟩
    have hge := Rf.items_ge h
    unfold Rf.items at h
    rcases l with _ | ⟨c, t⟩
    · cases h
    simp only at h
    by_cases h93 : c = 93
    · rw [if_pos h93] at h
      simp only [Option.some.injEq, Prod.mk.injEq] at h
      obtain ⟨rfl, _, _⟩ := h
      refine ⟨fa', inn', ?_⟩
      simp [Rf.items, h93]
    rw [if_neg h93] at h
    rcases ho : Rf.one (c :: t) with _ | ⟨a, n⟩
    · rw [ho] at h; cases h
    rw [ho] at h
    simp only at h
    have hn := Rf.one_le ho
    have hnb := Rf.one_bd ho
    rcases hd : (c :: t).drop n with _ | ⟨d, l'⟩
    · rw [hd] at h; cases h
    rw [hd] at h
    simp only at h
    by_cases h45 : d = 45
    · rw [if_pos h45] at h
      rcases ho2 : Rf.one l' with _ | ⟨b, n'⟩
      · rw [ho2] at h; cases h
      rw [ho2] at h
      simp only at h
      have hge2 := Rf.items_ge h
      have hnb2 := Rf.one_bd ho2
      obtain ⟨FA', F', hI⟩ := ih _ _ _ _ _ _ _ h r f' (i' + n + 1 + n') (if b < a ∧ fa' < 0 then (i' : Int) else fa') (fun k => inn' k || (decide (a ≤ (k : Int)) && decide ((k : Int) ≤ b))) (by omega)
      refine ⟨FA', F', ?_⟩
      have e1 : (c :: t).take (j - i + 1) ++ r = (c :: t).take n ++ (d :: (l'.take n' ++ ((l'.drop n').take (j - (i + n + 1 + n') + 1) ++ r))) := by
        rw [show j - i + 1 = n + (1 + (n' + (j - (i + n + 1 + n') + 1))) by omega, List.take_add, hd, show 1 + (n' + (j - (i + n + 1 + n') + 1)) = (n' + (j - (i + n + 1 + n') + 1)) + 1 by omega, List.take_succ_cons, List.take_add]
        simp [List.append_assoc]
      have htn : ((c :: t).take n).length = n := by rw [List.length_take]; omega
      have hhead : ∃ r2, (c :: t).take n ++ (d :: (l'.take n' ++ ((l'.drop n').take (j - (i + n + 1 + n') + 1) ++ r))) = c :: r2 := by
        obtain ⟨n0, rfl⟩ : ∃ q, n = q + 1 := ⟨n - 1, by omega⟩
        exact ⟨_, by rw [List.take_succ_cons, List.cons_append]⟩
      obtain ⟨r2, hr2⟩ := hhead
      have hone := one_local ho (d :: (l'.take n' ++ ((l'.drop n').take (j - (i + n + 1 + n') + 1) ++ r)))
      rw [e1, hr2, Rf.items]
      simp only [if_neg h93]
      rw [← hr2, hone]
      simp only
      rw [show ((c :: t).take n ++ (d :: (l'.take n' ++ ((l'.drop n').take (j - (i + n + 1 + n') + 1) ++ r)))).drop n = d :: (l'.take n' ++ ((l'.drop n').take (j - (i + n + 1 + n') + 1) ++ r)) by
        rw [List.drop_append_of_le_length (by omega), List.drop_of_length_le (by omega)]; rfl]
      simp only [if_pos h45]
      rw [one_local ho2]
      simp only
      have hn' := Rf.one_le ho2
      rw [show (l'.take n' ++ ((l'.drop n').take (j - (i + n + 1 + n') + 1) ++ r)).drop n' = (l'.drop n').take (j - (i + n + 1 + n') + 1) ++ r by
        rw [List.drop_append_of_le_length (by rw [List.length_take]; omega), List.drop_of_length_le (by rw [List.length_take]; omega)]; rfl]
      rw [hI]
      congr 2
      omega
    · rw [if_neg h45] at h
      have hge2 := Rf.items_ge h
      obtain ⟨FA', F', hI⟩ := ih _ _ _ _ _ _ _ h r f' (i' + n) fa' (fun k => inn' k || (decide (a ≤ (k : Int)) && decide ((k : Int) ≤ a))) (by omega)
      refine ⟨FA', F', ?_⟩
      have e1 : (c :: t).take (j - i + 1) ++ r = (c :: t).take n ++ ((d :: l').take (j - (i + n) + 1) ++ r) := by
        rw [show j - i + 1 = n + (j - (i + n) + 1) by omega, List.take_add, hd, List.append_assoc]
      have htn : ((c :: t).take n).length = n := by rw [List.length_take]; omega
      have hhead : ∃ r2, (c :: t).take n ++ ((d :: l').take (j - (i + n) + 1) ++ r) = c :: r2 := by
        obtain ⟨n0, rfl⟩ : ∃ q, n = q + 1 := ⟨n - 1, by omega⟩
        exact ⟨_, by rw [List.take_succ_cons, List.cons_append]⟩
      obtain ⟨r2, hr2⟩ := hhead
      have hone := one_local ho ((d :: l').take (j - (i + n) + 1) ++ r)
      rw [e1, hr2, Rf.items]
      simp only [if_neg h93]
      rw [← hr2, hone]
      simp only
      rw [show ((c :: t).take n ++ ((d :: l').take (j - (i + n) + 1) ++ r)).drop n = (d :: l').take (j - (i + n) + 1) ++ r by
        rw [List.drop_append_of_le_length (by omega), List.drop_of_length_le (by omega)]; rfl]
      rw [List.take_succ_cons, List.cons_append] at hI ⊢
      simp only [if_neg h45]
      rw [hI]
      congr 2
      omega
theorem set_local {l : List UInt8} {i n : Nat} {FA : Int} {F : Nat → Bool} (h : Rf.set l i = some (n, FA, F)) (r : List UInt8) (i' : Nat) : ∃ FA' F', Rf.set (l.take (n - i - 1) ++ r) i' = some (i' + (n - i), FA', F') := by
  have hge := Rf.set_ge h
  unfold Rf.set at h
  rcases l with _ | ⟨c, t⟩
  · cases h
  simp only at h
  by_cases h94 : c = 94
  · rw [if_pos h94] at h
    rcases hx : Rf.items (t.length + 1) t (i + 2) (-1) (fun _ => false) with _ | ⟨a, b, d⟩
    · rw [hx] at h; cases h
    rw [hx] at h
    have hg := Rf.items_ge hx
    simp only [Option.map_some, Option.some.injEq, Prod.mk.injEq] at h
    obtain ⟨rfl, _, _⟩ := h
    have hlt := Rf.items_lt hx
    have e1 : (c :: t).take (a + 1 - i - 1) ++ r = c :: (t.take (a - (i + 2) + 1) ++ r) := by
      rw [show a + 1 - i - 1 = (a - (i + 2) + 1) + 1 by omega, List.take_succ_cons, List.cons_append]
    have hl : a - (i + 2) + 1 ≤ (t.take (a - (i + 2) + 1) ++ r).length + 1 := by
      rw [List.length_append, List.length_take]; omega
    obtain ⟨FA', F', hI⟩ := items_local _ _ _ _ _ _ _ _ hx r ((t.take (a - (i + 2) + 1) ++ r).length + 1) (i' + 2) (-1) (fun _ => false) hl
    rw [e1, Rf.set]
    simp only [if_pos h94, hI, Option.map_some]
    exact ⟨FA', _, by rw [show i' + 2 + (a - (i + 2)) + 1 = i' + (a + 1 - i) by omega]⟩
  · rw [if_neg h94] at h
    rcases hx : Rf.items (t.length + 2) (c :: t) (i + 1) (-1) (fun _ => false) with _ | ⟨a, b, d⟩
    · rw [hx] at h; cases h
    rw [hx] at h
    have hg := Rf.items_ge hx
    simp only [Option.map_some, Option.some.injEq, Prod.mk.injEq] at h
    obtain ⟨rfl, _, _⟩ := h
    have hlt := Rf.items_lt hx
    have e1 : (c :: t).take (a + 1 - i - 1) ++ r = c :: (t.take (a - (i + 1)) ++ r) := by
      rw [show a + 1 - i - 1 = (a - (i + 1)) + 1 by omega, List.take_succ_cons, List.cons_append]
    have e2 : (c :: t).take (a - (i + 1) + 1) ++ r = c :: (t.take (a - (i + 1)) ++ r) := by
      rw [List.take_succ_cons, List.cons_append]
    have hl : a - (i + 1) + 1 ≤ (t.take (a - (i + 1)) ++ r).length + 2 := by
      simp only [List.length_cons] at hlt
      rw [List.length_append, List.length_take]; omega
    obtain ⟨FA', F', hI⟩ := items_local _ _ _ _ _ _ _ _ hx r ((t.take (a - (i + 1)) ++ r).length + 2) (i' + 1) (-1) (fun _ => false) hl
    rw [e2] at hI
    rw [e1, Rf.set]
    simp only [if_neg h94, hI, Option.map_some]
    exact ⟨FA', _, by rw [show i' + 1 + (a - (i + 1)) + 1 = i' + (a + 1 - i) by omega]⟩
end Go.Proofs.Ytoaaklhpmhjhkaa
