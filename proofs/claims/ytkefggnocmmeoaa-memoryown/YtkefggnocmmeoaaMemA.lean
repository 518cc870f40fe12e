/-
  Appends to a row of words of the call's own.
-/
import Derived.Test.YtkefggnocmmeoaaMem5
import Derived.Laws.AppendOwnNone
namespace Go.Proofs.Ytkefggnocmmeoaa
open Go.RowKit
set_option linter.unusedVariables false
set_option linter.unusedSimpArgs false
theorem below_but {N B : Nat} {a b c : World} (h : Below N a b) (k : But B b c) (hB : N ≤ B) (hN : N ≤ b.heap.size) : Below N a c :=
  h.trans ⟨k.os, k.tape, k.output, k.size, fun i hi => k.block i (by omega) (by omega)⟩
theorem below_kept {N : Nat} {a b c : World} (h : Below N a b) (k : Kept b c) (hN : N ≤ b.heap.size) : Below N a c := h.trans (k.below.mono hN)
/-- the slice at the head of the block g owns the words xs -/
def Own (base g n cap : Nat) (xs : List Int) (w : World) : Prop := w.ownsRow base 31 1 (.slice (some ⟨g, 0, none⟩) n cap) n (xs.map (Value.int .u32))
theorem Own.has {base g n cap : Nat} {xs : List Int} {w : World} (h : Own base g n cap xs w) : base ≤ g ∧ n ≤ cap ∧ cap ≤ maxLen ∧ xs.length = n ∧ ∃ cur : Array Value, Has g cur 31 w ∧ cur.size = cap ∧ cur.toList.take n = xs.map (Value.int .u32) := by
  obtain ⟨h1, h2⟩ := h
  rcases h2 with ⟨h2, _⟩ | ⟨g', cap', cur, hv, hb, hh, hle, hm, hs, ht⟩
  · cases h2
  · cases hv
    rw [Nat.mul_one] at hs ht h1
    exact ⟨hb, hle, hm, by simpa using h1, cur, hh, hs, ht⟩
theorem Own.ws {base g n cap : Nat} {xs : List Int} {w : World} (h : Own base g n cap xs w) (hr : ∀ x ∈ xs, 0 ≤ x ∧ x < 4294967296) : Ws w (some ⟨g, 0, none⟩) n cap xs := by
  obtain ⟨h1, h2, h3, h4, cur, hh, hs, ht⟩ := h.has
  refine ⟨h4, h2, h3, by simp, hr, fun ad e j x hx => ?_⟩
  cases e
  rw [show (⟨g, 0, none⟩ : Addr).add j = ⟨g, j, none⟩ by cases j <;> simp [Addr.add]]
  have hj : j < n := by
    rcases Nat.lt_or_ge j n with h1 | h1
    · exact h1
    · rw [List.getElem?_eq_none (by omega)] at hx; cases hx
  refine hh.cell j _ ?_
  have : (cur.toList.take n)[j]? = some (Value.int .u32 x) := by rw [ht, List.getElem?_map, hx]; rfl
  rw [List.getElem?_take, if_pos hj] at this
  simpa using this
/-- nothing, not nil -/
theorem Own.new (w : World) (base : Nat) (hb : base ≤ w.heap.size) : Own base w.heap.size 0 0 [] (w.alloc (.cells #[] 31)) :=
  ⟨rfl, Or.inr ⟨w.heap.size, 0, #[], rfl, hb, heap_alloc_last _ _, Nat.le_refl _, by simp [maxLen], rfl, rfl⟩⟩
theorem append_words {w : World} {ops : Array Oper} {rest : List Oper} {o : Oper} {a : Act} {Q : Exit → Act → World → Prop} (hgd : o.guard = none) (s x : Operand)
    (ho : o.op = .call { callee := .builtin .append, args := #[s, x], argTypes := #[32, 32] }) (base g n cap : Nat) (xs : List Int) (hs : a.eval s = .slice (some ⟨g, 0, none⟩) n cap) (hown : Own base g n cap xs w)
    (A : Option Addr) (m c : Nat) (ys : List Int) (hx : a.eval x = .slice A m c) (hY : Ws w A m c ys) (hb : n + m ≤ 1000000000000) (hbase : base ≤ w.heap.size)
    (h : ∀ g' cap' w', Own base g' (n + m) cap' (xs ++ ys) w' → w.grownBy w' (some g) → wpList Try.prog ops Q rest (a.put o.dst (.slice (some ⟨g', 0, none⟩) (n + m) cap')) w') : wpList Try.prog ops Q (o :: rest) a w := by
  obtain ⟨i0, hi, hz0, hz1, hz2⟩ := info_parts M.info32
  cases A with
  | none =>
    have hc := hY.nil rfl
    have hm : m = 0 := by have := hY.le; omega
    subst hc hm
    have hy : ys = [] := List.eq_nil_of_length_eq_zero hY.len
    subst hy
    refine wpList_append_own_none hgd s x 32 ho base 31 i0 1 Try.underlying32 hi _ n _ hs hown hx ?_
    have := h g cap w (by rw [Nat.add_zero, List.append_nil]; exact hown) ⟨rfl, rfl, rfl, Nat.le_refl _, fun _ _ _ => rfl⟩
    exact this
  | some ad =>
    refine wpList_append_own w hgd s x 32 ho base 31 i0 (.int .u32 0) 1 4 Try.underlying32 hi hz0 hz1 hz2 rfl (by decide) _ n (xs.map (Value.int .u32)) hs hown ad m c (ys.map (Value.int .u32)) hx (by rw [List.length_map, hY.len, Nat.mul_one]) ?_ ?_ (by unfold maxLen; omega) (by omega) hbase ?_
    · intro j u hj
      rw [List.getElem?_map, Option.map_eq_some_iff] at hj
      obtain ⟨y, hy, rfl⟩ := hj
      exact hY.cel ad rfl j y hy
    · intro u hu
      obtain ⟨y, _, rfl⟩ := List.mem_map.1 hu
      rfl
    · intro v' w' h1 h2 h3
      have hv : ∃ g' cap', v' = .slice (some ⟨g', 0, none⟩) (n + m) cap' := by
        rcases h1.2 with ⟨h4, _⟩ | ⟨g', cap', cur, h4, _⟩
        · have := (h3.1 h4).1
          cases this
        · exact ⟨g', cap', h4⟩
      obtain ⟨g', cap', rfl⟩ := hv
      rw [← List.map_append] at h1
      exact h g' cap' w' h1 h2
end Go.Proofs.Ytkefggnocmmeoaa
