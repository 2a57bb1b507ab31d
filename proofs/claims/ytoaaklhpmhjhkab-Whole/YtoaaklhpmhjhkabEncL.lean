/-
  Contract of the reference's Encode.
-/
import Derived.Test.YtoaaklhpmhjhkabEncJ
import Derived.Test.YtoaaklhpmhjhkabEncK
import Derived.Test.YtoaaklhpmhjhkabTcA
namespace Go.Proofs.Ytoaaklhpmhjhkab
open Go.RowKit

/-- Bytes of ours. -/
def OwnB (base : Nat) (v : Value) (l : List UInt8) (w : World) : Prop := w.ownsRow base 5 1 v l.length (bys l)
theorem OwnB.below {base : Nat} {v : Value} {l : List UInt8} {w w' : World} (h : OwnB base v l w) (hW : Below w.heap.size w w') : OwnB base v l w' := eOwns_below h hW
theorem OwnB.ge {base : Nat} {v : Value} {l : List UInt8} {w : World} (h : OwnB base v l w) : ∀ k, v.ownBlock = some k → base ≤ k := fun k hk => (h.lt k hk).1
theorem wpList_appB {w : World} {ops : Array Oper} {rest : List Oper} {o : Oper} {a : Act} {Q : Exit → Act → World → Prop} (hgd : o.guard = none) (s x : Operand)
    (ho : o.op = .call { callee := .builtin .append, args := #[s, x], argTypes := #[78, 78] }) (base : Nat)
    (v : Value) (l : List UInt8) (hs : a.eval s = v) (hown : OwnB base v l w) (hn : l.length ≤ 1000000)
    (B : Nat) (y : UInt8) (hx : a.eval x = .slice (some ⟨B, 0, none⟩) 1 1) (hnews : w.cell? ⟨B, 0, none⟩ = some (.int .u8 (y.toNat : Int))) (hbase : base ≤ w.heap.size)
    (h : ∀ g cap w', OwnB base (.slice (some ⟨g, 0, none⟩) (l.length + 1) cap) (l ++ [y]) w' → w.grownBy w' v.ownBlock → wpList Try.prog ops Q rest (a.put o.dst (.slice (some ⟨g, 0, none⟩) (l.length + 1) cap)) w') : wpList Try.prog ops Q (o :: rest) a w := by
  obtain ⟨i, hi, hz0, hz1, hz2⟩ := eInfoU8
  refine wpList_append_lies w hgd s x 78 ho base 5 i (.int .u8 0) 1 1 Try.underlying78 hi hz0 hz1 hz2 rfl (by omega) v l.length (bys l) hs hown ⟨B, 0, none⟩ 1 1 [.int .u8 (y.toNat : Int)] hx rfl ?_ (by simp [Value.oneCell']) (by omega) (by unfold maxLen; omega) (by omega) hbase w.heap.size rfl ?_
  · intro j u hu
    rcases j with _ | j
    · simp at hu; subst hu; simpa [Addr.add_mid] using hnews
    · simp at hu
  · intro g cap w' h1 h2 h3 h4
    refine h g cap w' ?_ h2
    have e : bys l ++ [.int .u8 (y.toNat : Int)] = bys (l ++ [y]) := by simp [bys]
    rw [e] at h1
    unfold OwnB
    rw [List.length_append]; exact h1
theorem step_appB {w : World} {ops : Array Oper} {o : Oper} {a : Act} {K : Act → World → Prop} {Q : Exit → Act → World → Prop} {E : Prop} (hgd : o.guard = none) (s x : Operand)
    (ho : o.op = .call { callee := .builtin .append, args := #[s, x], argTypes := #[78, 78] }) (base : Nat)
    (v : Value) (l : List UInt8) (hs : a.eval s = v) (hown : OwnB base v l w) (hn : l.length ≤ 1000000)
    (B : Nat) (y z : UInt8) (hx : a.eval x = .slice (some ⟨B, 0, none⟩) 2 2) (hn0 : w.cell? ⟨B, 0, none⟩ = some (.int .u8 (y.toNat : Int))) (hn1 : w.cell? ⟨B, 1, none⟩ = some (.int .u8 (z.toNat : Int))) (hbase : base ≤ w.heap.size)
    (h : ∀ g cap w', OwnB base (.slice (some ⟨g, 0, none⟩) (l.length + 2) cap) (l ++ [y, z]) w' → w.grownBy w' v.ownBlock → K (a.put o.dst (.slice (some ⟨g, 0, none⟩) (l.length + 2) cap)) w') :
    if Region.wanted o (yielded ops a.tmps) = true then Oper.wp Try.prog o a w K Q else E := by
  obtain ⟨i, hi, hz0, hz1, hz2⟩ := eInfoU8
  refine step_append_lies w hgd s x 78 ho base 5 i (.int .u8 0) 1 1 Try.underlying78 hi hz0 hz1 hz2 rfl (by omega) v l.length (bys l) hs hown ⟨B, 0, none⟩ 2 2 [.int .u8 (y.toNat : Int), .int .u8 (z.toNat : Int)] hx rfl ?_ (by simp [Value.oneCell']) (by omega) (by unfold maxLen; omega) (by omega) hbase w.heap.size rfl ?_
  · intro j u hu
    rcases j with _ | _ | j
    · simp at hu; subst hu; simpa [Addr.add_mid] using hn0
    · simp at hu; subst hu; simpa [Addr.add_mid] using hn1
    · simp at hu
  · intro g cap w' h1 h2 h3 h4
    refine h g cap w' ?_ h2
    have e : bys l ++ [.int .u8 (y.toNat : Int), .int .u8 (z.toNat : Int)] = bys (l ++ [y, z]) := by simp [bys]
    rw [e] at h1
    unfold OwnB
    rw [List.length_append]; exact h1
theorem new1 (w : World) (x : Int) : (w.alloc (.cells #[.int .u8 (x % 256)] 5)).cell? ⟨w.heap.size, 0, none⟩ = some (.int .u8 ((byteOf x).toNat : Int)) := by
  rw [World.cell?_alloc_new, byteOf_toNat]; rfl
theorem wpList_app6 {w : World} {ops : Array Oper} {rest : List Oper} {o : Oper} {a : Act} {Q : Exit → Act → World → Prop} (hgd : o.guard = none) (s x : Operand)
    (ho : o.op = .call { callee := .builtin .append, args := #[s, x], argTypes := #[78, 78] }) (base : Nat)
    (g : Nat) (l : List UInt8) (hs : a.eval s = .slice (some ⟨g, 0, none⟩) l.length l.length) (hG : Grows base (.slice (some ⟨g, 0, none⟩) l.length l.length) (bys l) w) (hn : l.length ≤ 1000)
    (B : Nat) (l2 : List UInt8) (hl2 : l2.length = 6) (hx : a.eval x = .slice (some ⟨B, 0, none⟩) 6 6) (hnews : ∀ j u, (bys l2)[j]? = some u → w.cell? ⟨B, j, none⟩ = some u)
    (h : ∀ v w', OwnB w.heap.size v (l ++ l2) w' → w.grownBy w' none → wpList Try.prog ops Q rest (a.put o.dst v) w') : wpList Try.prog ops Q (o :: rest) a w := by
  obtain ⟨i, hi, hz0, hz1, hz2⟩ := eInfoU8
  refine wpList_append_grows w hgd s x 78 ho 5 i (.int .u8 0) 1 1 Try.underlying78 hi hz0 hz1 hz2 rfl (by omega) (some ⟨g, 0, none⟩) l.length l.length (bys l) hs (fun h => by cases h) (by rw [bys_len]; omega) ?_ ⟨B, 0, none⟩ 6 6 (bys l2) hx (by rw [bys_len]; omega) ?_ ?_ (by omega) (by unfold maxLen; omega) (by omega) ?_
  · intro b hb j u hu
    cases hb
    rcases hG with ⟨h, _⟩ | ⟨g', cap, h0, _, _, _, h4, _⟩
    · cases h
    · have hg : g = g' := by simpa [Value.ownBlock] using congrArg Value.ownBlock h0
      subst hg
      rw [Addr.add_lit, Nat.zero_add]; exact h4 j u hu
  · intro j u hu
    rw [Addr.add_lit, Nat.zero_add]; exact hnews j u hu
  · intro u hu
    simp only [bys, List.mem_map] at hu
    obtain ⟨y, _, rfl⟩ := hu
    rfl
  · intro v' w' h1 h2
    refine h v' w' ?_ h2
    rw [← bys_append] at h1
    unfold OwnB
    rw [List.length_append, hl2]; exact h1
theorem new6 (w : World) (x1 x2 x3 x4 x5 x6 : Int) : ∀ j u, (bys [byteOf x1, byteOf x2, byteOf x3, byteOf x4, byteOf x5, byteOf x6])[j]? = some u →
    (w.alloc (.cells #[.int .u8 (x1 % 256), .int .u8 (x2 % 256), .int .u8 (x3 % 256), .int .u8 (x4 % 256), .int .u8 (x5 % 256), .int .u8 (x6 % 256)] 5)).cell? ⟨w.heap.size, j, none⟩ = some u := by
  intro j u hu
  rw [World.cell?_alloc_new]
  rcases j with _ | _ | _ | _ | _ | _ | j <;> simp [bys, byteOf_toNat] at hu ⊢ <;> exact hu

end Go.Proofs.Ytoaaklhpmhjhkab
