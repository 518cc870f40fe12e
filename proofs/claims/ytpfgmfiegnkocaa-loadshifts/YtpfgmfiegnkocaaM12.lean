/-
  Joined: Mem5, MemA.
-/
import Derived.Laws.AppendOwnNone
import Derived.Test.YtpfgmfiegnkocaaM11
/-
  The document's example; the head that the laws of memory share; walks of MemoryOwn, MemoryPlaces, MemoryTraps.
-/
namespace Go.Proofs.Ytpfgmfiegnkocaa
open Go.RowKit
set_option linter.unusedVariables false
set_option linter.unusedSimpArgs false
set_option maxRecDepth 100000
set_option maxRecDepth 100000
theorem Ws.one {w : World} {g : Nat} {x : Int} {t : TypeId} (h : Has g #[.int .u32 x] t w) (h0 : 0 ≤ x) (h1 : x < 4294967296) : Ws w (some ⟨g, 0, none⟩) 1 1 [x] :=
  ⟨rfl, Nat.le_refl _, by simp [maxLen], by simp, by simpa using ⟨h0, h1⟩, fun ad e j y hy => by
    cases e
    match j, hy with
    | 0, hy => simp at hy; subst hy; exact h.cell 0 _ rfl⟩
theorem M.byte_shown : M.byte [67305985] 1 = 2 ∧ M.bt [67305985] 1 = 0 := by decide
theorem M.new_one (w : World) : Calls Try.prog 36 #[.int .i64 1] w fun e w' => e = .returned (.tuple #[.pointer (some ⟨w.heap.size, 0, none⟩), .int .i64 0]) ∧ Mem w.heap.size [0] w' ∧ Kept w w' ∧ w'.heap.size = w.heap.size + 1 := M.new_yes 1 (by omega) w
theorem M.place_zero {B : Nat} {ws : List Int} {w : World} (h : Mem B ws w) (A : Option Addr) (n c : Nat) (xs : List Int) (hx : Ws w A n c xs) (hf : n = ws.length) :
    Calls Try.prog 38 #[.pointer (some ⟨B, 0, none⟩), .int .i64 0, .slice A n c] w fun e w' => e = .returned (.int .i64 0) ∧ Mem B xs w' ∧ But B w w' := by
  have := M.place_yes h 0 A n c xs hx (by omega)
  have e : M.placed ws 0 xs = xs := by
    unfold M.placed
    rw [List.drop_of_length_le (by have := hx.len; omega)]
    simp
  rw [e] at this
  exact this
theorem M.setW_self (ws : List Int) (a : Int) (h0 : 0 ≤ a) : M.setW ws a (M.word ws a) = ws := by
  unfold M.setW M.word
  by_cases c : M.wt ws a = 0
  · rw [if_pos c, if_pos c]
    have c3 := M.bt_zero h0 (M.wt_zero c).2
    rw [show ws.getD (a / 4).toNat 0 = ws[(a / 4).toNat] by simp [c3]]
    exact List.set_getElem_self c3
  · rw [if_neg c]
theorem M.setB_self (ws : List Int) (a : Int) (h0 : 0 ≤ a) : M.setB ws a (M.byte ws a) = ws := by
  unfold M.setB M.byte
  by_cases c : M.bt ws a = 0
  · rw [if_pos c, if_pos c]
    have c3 := M.bt_zero h0 c
    rw [show ws.getD (a / 4).toNat 0 = ws[(a / 4).toNat] by simp [c3]]
    rw [show M.mix ws[(a / 4).toNat] a (ws[(a / 4).toNat] / 2 ^ (8 * (a % 4)).toNat % 256) = ws[(a / 4).toNat] by unfold M.mix; omega]
    exact List.set_getElem_self c3
  · rw [if_neg c]
theorem M.word_range (ws : List Int) (a : Int) (hr : ∀ x ∈ ws, 0 ≤ x ∧ x < 4294967296) : 0 ≤ M.word ws a ∧ M.word ws a < 4294967296 := by
  unfold M.word
  split
  · rw [List.getD_eq_getElem?_getD]
    cases h : ws[(a / 4).toNat]? with
    | none => simp
    | some x => exact hr x (List.mem_of_getElem? h)
  · omega
theorem M.byte_range (ws : List Int) (a : Int) : 0 ≤ M.byte ws a ∧ M.byte ws a < 256 := by
  unfold M.byte
  split <;> omega
theorem M.cases (ws : List Int) (a : Int) (h0 : 0 ≤ a) : (a % 4 = 0 ∧ 4 * (ws.length : Int) ≤ a ∧ M.wt ws a = 3 ∧ M.bt ws a = 3 ∧ M.word ws a = 0 ∧ M.byte ws a = 0) ∨ (a % 4 = 0 ∧ ¬ 4 * (ws.length : Int) ≤ a ∧ M.wt ws a = 0 ∧ M.bt ws a = 0) ∨
    (¬ a % 4 = 0 ∧ 4 * (ws.length : Int) ≤ a ∧ M.wt ws a = 4 ∧ M.bt ws a = 3 ∧ M.word ws a = 0 ∧ M.byte ws a = 0) ∨ (¬ a % 4 = 0 ∧ ¬ 4 * (ws.length : Int) ≤ a ∧ M.wt ws a = 4 ∧ M.bt ws a = 0 ∧ M.word ws a = 0) := by
  have hb : M.bt ws a = if 4 * (ws.length : Int) ≤ a then 3 else 0 := by
    unfold M.bt
    by_cases c : 4 * (ws.length : Int) ≤ a
    · rw [if_pos c, if_pos (by omega)]
    · rw [if_neg c, if_neg (by omega)]
  by_cases c1 : a % 4 = 0 <;> by_cases c2 : 4 * (ws.length : Int) ≤ a <;> simp only [M.word, M.byte, M.wt, c1, hb, c2, if_true, if_false] <;> simp
end Go.Proofs.Ytpfgmfiegnkocaa
/-
  Appends to a row of words of the call's own.
-/
namespace Go.Proofs.Ytpfgmfiegnkocaa
open Go.RowKit
set_option linter.unusedVariables false
set_option linter.unusedSimpArgs false
set_option maxRecDepth 100000
theorem below_but {N B : Nat} {a b c : World} (h : Below N a b) (k : But B b c) (hB : N ≤ B) (hN : N ≤ b.heap.size) : Below N a c :=
  h.trans ⟨k.os, k.tape, k.output, k.size, fun i hi => k.block i (by omega) (by omega)⟩
theorem below_kept {N : Nat} {a b c : World} (h : Below N a b) (k : Kept b c) (hN : N ≤ b.heap.size) : Below N a c := h.trans (k.below.mono hN)
/-- the slice at the head of the block g owns the words xs -/
def Own (base g n cap : Nat) (xs : List Int) (w : World) : Prop := w.ownsRow base 39 1 (.slice (some ⟨g, 0, none⟩) n cap) n (xs.map (Value.int .u32))
theorem Own.has {base g n cap : Nat} {xs : List Int} {w : World} (h : Own base g n cap xs w) : base ≤ g ∧ n ≤ cap ∧ cap ≤ maxLen ∧ xs.length = n ∧ ∃ cur : Array Value, Has g cur 39 w ∧ cur.size = cap ∧ cur.toList.take n = xs.map (Value.int .u32) := by
  obtain ⟨h1, h2⟩ := h
  rcases h2 with ⟨h2, _⟩ | ⟨g', cap', cur, hv, hb, hh, hle, hm, hs, ht⟩
  · cases h2
  · cases hv
    rw [Nat.mul_one] at hs ht h1
    exact ⟨hb, hle, hm, by simpa using h1, cur, hh, hs, ht⟩
theorem Own.ws {base g n cap : Nat} {xs : List Int} {w : World} (h : Own base g n cap xs w) (hr : ∀ x ∈ xs, 0 ≤ x ∧ x < 4294967296) : Ws w (some ⟨g, 0, none⟩) n cap xs := by
  obtain ⟨h1, h2, h3, h4, cur, hh, hs, ht⟩ := h.has
  refine ⟨h4, h2, h3, by simp, hr, fun ad e j x hx => ?_⟩
  cases e
  rw [show (⟨g, 0, none⟩ : Addr).add j = ⟨g, j, none⟩ by cases j <;> simp [Addr.add]]
  have hj : j < n := by
    rcases Nat.lt_or_ge j n with h1 | h1
    · exact h1
    · rw [List.getElem?_eq_none (by omega)] at hx; cases hx
  refine hh.cell j _ ?_
  have : (cur.toList.take n)[j]? = some (Value.int .u32 x) := by rw [ht, List.getElem?_map, hx]; rfl
  rw [List.getElem?_take, if_pos hj] at this
  simpa using this
/-- nothing, not nil -/
theorem Own.new (w : World) (base : Nat) (hb : base ≤ w.heap.size) : Own base w.heap.size 0 0 [] (w.alloc (.cells #[] 39)) :=
  ⟨rfl, Or.inr ⟨w.heap.size, 0, #[], rfl, hb, heap_alloc_last _ _, Nat.le_refl _, by simp [maxLen], rfl, rfl⟩⟩
theorem append_words {w : World} {ops : Array Oper} {rest : List Oper} {o : Oper} {a : Act} {Q : Exit → Act → World → Prop} (hgd : o.guard = none) (s x : Operand)
    (ho : o.op = .call { callee := .builtin .append, args := #[s, x], argTypes := #[22, 22] }) (base g n cap : Nat) (xs : List Int) (hs : a.eval s = .slice (some ⟨g, 0, none⟩) n cap) (hown : Own base g n cap xs w)
    (A : Option Addr) (m c : Nat) (ys : List Int) (hx : a.eval x = .slice A m c) (hY : Ws w A m c ys) (hb : n + m ≤ 1000000000000) (hbase : base ≤ w.heap.size)
    (h : ∀ g' cap' w', Own base g' (n + m) cap' (xs ++ ys) w' → w.grownBy w' (some g) → wpList Try.prog ops Q rest (a.put o.dst (.slice (some ⟨g', 0, none⟩) (n + m) cap')) w') : wpList Try.prog ops Q (o :: rest) a w := by
  obtain ⟨i0, hi, hz0, hz1, hz2⟩ := info_parts M.info32
  cases A with
  | none =>
    have hc := hY.nil rfl
    have hm : m = 0 := by have := hY.le; omega
    subst hc hm
    have hy : ys = [] := List.eq_nil_of_length_eq_zero hY.len
    subst hy
    refine wpList_append_own_none hgd s x 22 ho base 39 i0 1 Try.underlying22 hi _ n _ hs hown hx ?_
    have := h g cap w (by rw [Nat.add_zero, List.append_nil]; exact hown) ⟨rfl, rfl, rfl, Nat.le_refl _, fun _ _ _ => rfl⟩
    exact this
  | some ad =>
    refine wpList_append_own w hgd s x 22 ho base 39 i0 (.int .u32 0) 1 4 Try.underlying22 hi hz0 hz1 hz2 rfl (by decide) _ n (xs.map (Value.int .u32)) hs hown ad m c (ys.map (Value.int .u32)) hx (by rw [List.length_map, hY.len, Nat.mul_one]) ?_ ?_ (by unfold maxLen; omega) (by omega) hbase ?_
    · intro j u hj
      rw [List.getElem?_map, Option.map_eq_some_iff] at hj
      obtain ⟨y, hy, rfl⟩ := hj
      exact hY.cel ad rfl j y hy
    · intro u hu
      obtain ⟨y, _, rfl⟩ := List.mem_map.1 hu
      rfl
    · intro v' w' h1 h2 h3
      have hv : ∃ g' cap', v' = .slice (some ⟨g', 0, none⟩) (n + m) cap' := by
        rcases h1.2 with ⟨h4, _⟩ | ⟨g', cap', cur, h4, _⟩
        · have := (h3.1 h4).1
          cases this
        · exact ⟨g', cap', h4⟩
      obtain ⟨g', cap', rfl⟩ := hv
      rw [← List.map_append] at h1
      exact h g' cap' w' h1 h2
end Go.Proofs.Ytpfgmfiegnkocaa
