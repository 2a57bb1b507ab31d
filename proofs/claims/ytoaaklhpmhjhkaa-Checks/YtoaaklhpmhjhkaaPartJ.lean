/-
  Contract of the program's countPlaces.
-/
import Derived.Test.YtoaaklhpmhjhkaaPartG
namespace Go.Proofs.Ytoaaklhpmhjhkaa
open Go.RowKit
open Pg (Pt)

theorem info_int : ∃ i, Try.prog.info? 3 = some i ∧ i.zero = some (.int .i64 0) ∧ i.size = 1 ∧ i.bytes = 8 := by
  have h1 : (Try.prog.info? 3).isSome = true := by kernel_rfl
  obtain ⟨i, hi⟩ := Option.isSome_iff_exists.1 h1
  refine ⟨i, hi, ?_, ?_, ?_⟩
  · have : ((Try.prog.info? 3).bind (·.zero)) = some (.int .i64 0) := by kernel_rfl
    rw [hi] at this; exact this
  · have : ((Try.prog.info? 3).map (·.size)) = some 1 := by kernel_rfl
    rw [hi] at this; simpa using this
  · have : ((Try.prog.info? 3).map (·.bytes)) = some 8 := by kernel_rfl
    rw [hi] at this; simpa using this
/-- Numbers as cells. -/
def nums (l : List Int) : List Value := l.map fun x => .int .i64 x
theorem wpList_append_int {w : World} {ops : Array Oper} {rest : List Oper} {o : Oper} {a : Act} {Q : Exit → Act → World → Prop} (hgd : o.guard = none) (s x : Operand)
    (ho : o.op = .call { callee := .builtin .append, args := #[s, x], argTypes := #[24, 24] }) (base : Nat)
    (v : Value) (l : List Int) (hs : a.eval s = v) (hown : w.ownsRow base 3 1 v l.length (nums l)) (hn : l.length ≤ 1000)
    (B : Nat) (y : Int) (hx : a.eval x = .slice (some ⟨B, 0, none⟩) 1 1) (hnews : w.cell? ⟨B, 0, none⟩ = some (.int .i64 y)) (hbase : base ≤ w.heap.size)
    (h : ∀ g cap w', w'.ownsRow base 3 1 (.slice (some ⟨g, 0, none⟩) (l.length + 1) cap) (l.length + 1) (nums (l ++ [y])) → w.grownBy w' v.ownBlock → wpList Try.prog ops Q rest (a.put o.dst (.slice (some ⟨g, 0, none⟩) (l.length + 1) cap)) w') : wpList Try.prog ops Q (o :: rest) a w := by
  obtain ⟨i, hi, hz0, hz1, hz2⟩ := info_int
  refine wpList_append_lies w hgd s x 24 ho base 3 i (.int .i64 0) 1 8 Try.underlying24 hi hz0 hz1 hz2 rfl (by omega) v l.length (nums l) hs hown ⟨B, 0, none⟩ 1 1 [.int .i64 y] hx rfl ?_ (by simp [Value.oneCell']) (by omega) (by unfold maxLen; omega) (by omega) hbase w.heap.size rfl ?_
  · intro j u hu
    rcases j with _ | j
    · simp at hu; subst hu; simpa [Addr.add_mid] using hnews
    · simp at hu
  · intro g cap w' h1 h2 h3 h4
    refine h g cap w' ?_ h2
    simpa [nums] using h1
theorem owns_last {w : World} {base g n cap : Nat} {e : TypeId} {l : List Int} {x : Int} (h : w.ownsRow base e 1 (.slice (some ⟨g, 0, none⟩) (l.length + 1) cap) (l.length + 1) (nums (l ++ [x]))) (hn : n = l.length) : w.cell? ⟨g, n, none⟩ = some (.int .i64 x) := by
  subst hn
  rw [h.cellAt l.length (by omega)]
  simp [nums]
theorem owns_popped {w : World} {base g cap : Nat} {e : TypeId} {l : List Int} {x : Int} (h : w.ownsRow base e 1 (.slice (some ⟨g, 0, none⟩) (l.length + 1) cap) (l.length + 1) (nums (l ++ [x]))) : w.ownsRow base e 1 (.slice (some ⟨g, 0, none⟩) l.length cap) l.length (nums l) :=
  ownsRow_pop (last := [.int .i64 x]) (by simp [nums]) (by simpa [nums] using h)
theorem owns_grown {w w' : World} {base base' : Nat} {e e' : TypeId} {sz n sz' n' : Nat} {v v' : Value} {xs xs' : List Value} (h : w.ownsRow base e sz v n xs) (_h' : w.ownsRow base' e' sz' v' n' xs') (hg : w.grownBy w' v'.ownBlock) (hne : ∀ k, v.ownBlock = some k → v'.ownBlock ≠ some k) : w'.ownsRow base e sz v n xs := by
  refine ⟨h.1, ?_⟩
  rcases h.2 with h0 | ⟨g, cap, cur, hv, hb, hg', hrest⟩
  · exact Or.inl h0
  · refine Or.inr ⟨g, cap, cur, hv, hb, ?_, hrest⟩
    have hlt : g < w.heap.size := by
      rcases Nat.lt_or_ge g w.heap.size with hlt | hge
      · exact hlt
      · rw [Array.getElem?_eq_none hge] at hg'; cases hg'
    rw [hg.block g hlt (fun e => hne g (by rw [hv]; rfl) e.symm)]; exact hg'
theorem capped_bd (n : Int) (h : 0 ≤ n) : 0 ≤ Pg.capped n ∧ Pg.capped n ≤ 97 := by unfold Pg.capped; split <;> omega
end Go.Proofs.Ytoaaklhpmhjhkaa
