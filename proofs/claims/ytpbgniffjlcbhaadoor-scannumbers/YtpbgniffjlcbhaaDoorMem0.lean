/-
  Memories as lists of words: a block that may alone have turned, slices of words, a memory's block; what stores do to them. No Go function is named here.
-/
import Derived.Test.YtpbgniffjlcbhaaDoorRow0
import Derived.Laws.CopyRow
namespace Go.Proofs.YtpbgniffjlcbhaaDoor
open Go.RowKit
variable {tyM : TypeId} {tlM : List Value}
set_option linter.unusedVariables false
set_option linter.unusedSimpArgs false
set_option maxRecDepth 100000
/-- only the block B may have turned -/
structure But (B : Nat) (w w' : World) : Prop where
  os : w'.os = w.os
  tape : w'.tape = w.tape
  output : w'.output = w.output
  size : w.heap.size ≤ w'.heap.size
  block : ∀ k, k < w.heap.size → k ≠ B → w'.heap[k]? = w.heap[k]?
  froze : ∀ a, w'.frozen? a = w.frozen? a
theorem But.refl (B : Nat) (w : World) : But B w w := ⟨rfl, rfl, rfl, Nat.le_refl _, fun _ _ _ => rfl, fun _ => rfl⟩
theorem But.trans {B : Nat} {a b c : World} (h : But B a b) (k : But B b c) : But B a c :=
  ⟨k.os.trans h.os, k.tape.trans h.tape, k.output.trans h.output, Nat.le_trans h.size k.size, fun i hi hB => (k.block i (Nat.lt_of_lt_of_le hi h.size) hB).trans (h.block i hi hB), fun x => (k.froze x).trans (h.froze x)⟩
theorem Kept.but {w w' : World} (h : Kept w w') (B : Nat) : But B w w' :=
  ⟨h.below.os, h.below.tape, h.below.output, h.below.size, fun k hk _ => h.below.block k hk, h.froze⟩
theorem But.drew {B : Nat} {a b : World} (h : But B a b) : But B a b.drew := ⟨h.os, h.tape, h.output, h.size, h.block, h.froze⟩
theorem But.drewN {B : Nat} {a b : World} (h : But B a b) (n : Nat) : But B a (b.drewN n) := ⟨h.os, h.tape, h.output, h.size, h.block, h.froze⟩
theorem But.setCell {B : Nat} {a b : World} (h : But B a b) (j : Nat) (v : Value) : But B a (b.setCell ⟨B, j, none⟩ v) :=
  h.trans ⟨rfl, rfl, rfl, by simp [World.setCell], fun k hk hB => Below.heap_setCell _ _ _ _ hB, fun x => World.frozen?_setCell _ _ _ _⟩
theorem froze_setRow (w : World) (B : Nat) (cs : Array Value) (x : Addr) : (w.setRow B cs).frozen? x = w.frozen? x := by
  simp only [World.frozen?, World.setRow, Array.getElem?_modify]
  by_cases e : B = x.block
  · subst e
    simp only [if_true]
    generalize w.heap[x.block]? = o
    cases o with
    | none => rfl
    | some o => cases o <;> rfl
  · simp [e]
theorem But.setRow {B : Nat} {a b : World} (h : But B a b) (cs : Array Value) : But B a (b.setRow B cs) :=
  h.trans ⟨rfl, rfl, rfl, by simp [World.setRow], fun k hk hB => setRow_other b B k cs hB, froze_setRow b B cs⟩
theorem But.has {B k : Nat} {cs : Array Value} {t : TypeId} {w w' : World} (h : But B w w') (hk : k ≠ B) (hh : Has k cs t w) : Has k cs t w' :=
  (h.block k hh.lt hk).trans hh
/-- what has been there since N blocks, over a step that turns a later block alone -/
theorem KeptB.but {N B : Nat} {a b c : World} (h : KeptB N a b) (k : But B b c) (hB : N ≤ B) (hN : N ≤ b.heap.size) : KeptB N a c :=
  ⟨h.below.trans ⟨k.os, k.tape, k.output, k.size, fun i hi => k.block i (by omega) (by omega)⟩, fun x => (k.froze x).trans (h.froze x)⟩
theorem KeptB.kept {N : Nat} {a b c : World} (h : KeptB N a b) (k : Kept b c) (hN : N ≤ b.heap.size) : KeptB N a c :=
  ⟨h.below.trans (k.below.mono hN), fun x => (k.froze x).trans (h.froze x)⟩
theorem But.kept {B : Nat} {a b : World} (h : But B a b) (hB : a.heap.size ≤ B) : Kept a b :=
  ⟨⟨h.os, h.tape, h.output, h.size, fun k hk => h.block k hk (by omega)⟩, h.froze⟩
/-- a step that turned a block made on the way -/
theorem Kept.thenBut {B : Nat} {a b c : World} (h : Kept a b) (k : But B b c) (hB : a.heap.size ≤ B) : Kept a c :=
  ⟨h.below.trans ⟨k.os, k.tape, k.output, k.size, fun i hi => k.block i (by have := h.size; omega) (by omega)⟩, fun x => (k.froze x).trans (h.froze x)⟩
/-- a slice of words -/
structure Ws (w : World) (A : Option Addr) (n c : Nat) (xs : List Int) : Prop where
  len : xs.length = n
  le : n ≤ c
  max : c ≤ maxLen
  nil : A = none → c = 0
  rng : ∀ x ∈ xs, 0 ≤ x ∧ x < 4294967296
  cel : ∀ ad, A = some ad → ∀ j x, xs[j]? = some x → w.cell? (ad.add j) = some (.int .u32 x)
theorem Ws.empty (w : World) : Ws w none 0 0 [] := ⟨rfl, Nat.le_refl _, by simp [maxLen], fun _ => rfl, by simp, by simp⟩
theorem Ws.lt {w : World} {ad : Addr} {n c : Nat} {xs : List Int} (h : Ws w (some ad) n c xs) (hn : 0 < n) : ad.block < w.heap.size := by
  have hl : 0 < xs.length := by have := h.len; omega
  have hx : xs[0]? = some xs[0] := List.getElem?_eq_getElem hl
  have := World.block_lt_of_cell? w _ (h.cel ad rfl 0 _ hx)
  unfold Addr.add at this
  split at this <;> exact this
theorem Ws.to {w w' : World} {A : Option Addr} {n c : Nat} {xs : List Int} (h : Ws w A n c xs) (hk : ∀ ad, A = some ad → 0 < n → w'.heap[ad.block]? = w.heap[ad.block]?) : Ws w' A n c xs :=
  ⟨h.len, h.le, h.max, h.nil, h.rng, fun ad e j x hx => by
    have hj : j < xs.length := by
      rcases Nat.lt_or_ge j xs.length with h1 | h1
      · exact h1
      · rw [List.getElem?_eq_none h1] at hx; cases hx
    rw [World.cell?_of_block (w := w) (by rw [show (ad.add j).block = ad.block by cases j <;> rfl]; exact hk ad e (by have := h.len; omega))]
    exact h.cel ad e j x hx⟩
theorem Ws.below {N : Nat} {w0 w w' : World} {A : Option Addr} {n c : Nat} {xs : List Int} (h : Ws w A n c xs) (hN : w.heap.size ≤ N) (hb : Below N w w') : Ws w' A n c xs :=
  h.to fun ad e hn => hb.block _ (by subst e; have := h.lt hn; omega)
theorem Ws.kept {w w' : World} {A : Option Addr} {n c : Nat} {xs : List Int} (h : Ws w A n c xs) (hb : Kept w w') : Ws w' A n c xs :=
  h.to fun ad e hn => hb.below.block _ (by subst e; exact h.lt hn)
theorem Ws.but {B : Nat} {w w' : World} {A : Option Addr} {n c : Nat} {xs : List Int} (h : Ws w A n c xs) (hb : But B w w') (hB : ∀ ad, A = some ad → 0 < n → ad.block ≠ B) : Ws w' A n c xs :=
  h.to fun ad e hn => hb.block _ (by subst e; exact h.lt hn) (hB ad e hn)
theorem Ws.drew {w : World} {A : Option Addr} {n c : Nat} {xs : List Int} (h : Ws w A n c xs) : Ws w.drew A n c xs := ⟨h.len, h.le, h.max, h.nil, h.rng, h.cel⟩
/-- the beginning of a slice -/
theorem Ws.take {w : World} {A : Option Addr} {n c : Nat} {xs : List Int} (h : Ws w A n c xs) (k : Nat) (hk : k ≤ n) : Ws w A k c (xs.take k) :=
  ⟨by simp [h.len]; omega, by have := h.le; omega, h.max, h.nil, fun x hx => h.rng x (List.mem_of_mem_take hx), fun ad e j x hx => h.cel ad e j x (by
    rw [List.getElem?_take] at hx
    split at hx
    · exact hx
    · cases hx)⟩
/-- the block B, of the type tyM, begins with a memory of the words ws; behind it stand the cells tlM -/
structure MemT (tyM : TypeId) (tlM : List Value) (B : Nat) (ws : List Int) (w : World) : Prop where
  len : ws.length ≤ 4096
  rng : ∀ x ∈ ws, 0 ≤ x ∧ x < 4294967296
  has : ∃ cs : Array Value, Has B cs tyM w ∧ cs.size = 4097 + tlM.length ∧ cs[4096]? = some (.int .i64 (ws.length : Int)) ∧ (∀ (j : Nat) (x : Int), ws[j]? = some x → cs[j]? = some (Value.int .u32 x)) ∧ ∀ j : Nat, cs[4097 + j]? = tlM[j]?
theorem MemT.lt {B : Nat} {ws : List Int} {w : World} (h : MemT tyM tlM B ws w) : B < w.heap.size := by obtain ⟨cs, hh, _⟩ := h.has; exact hh.lt
theorem MemT.kept {B : Nat} {ws : List Int} {w w' : World} (h : MemT tyM tlM B ws w) (hK : Kept w w') : MemT tyM tlM B ws w' := by
  obtain ⟨cs, h1, h2⟩ := h.has; exact ⟨h.len, h.rng, cs, h1.kept hK, h2⟩
theorem MemT.but {B B' : Nat} {ws : List Int} {w w' : World} (h : MemT tyM tlM B ws w) (hb : But B' w w') (hB : B ≠ B') : MemT tyM tlM B ws w' := by
  obtain ⟨cs, h1, h2⟩ := h.has; exact ⟨h.len, h.rng, cs, hb.has hB h1, h2⟩
theorem MemT.drew {B : Nat} {ws : List Int} {w : World} (h : MemT tyM tlM B ws w) : MemT tyM tlM B ws w.drew := ⟨h.len, h.rng, h.has⟩
theorem MemT.count {B : Nat} {ws : List Int} {w : World} (h : MemT tyM tlM B ws w) : w.cell? ⟨B, 4096, none⟩ = some (.int .i64 (ws.length : Int)) := by
  obtain ⟨cs, h1, _, h2, _⟩ := h.has; exact h1.cell 4096 _ h2
theorem MemT.word {B : Nat} {ws : List Int} {w : World} (h : MemT tyM tlM B ws w) (j : Nat) (hj : j < ws.length) : w.cell? ⟨B, j, none⟩ = some (.int .u32 ws[j]) := by
  obtain ⟨cs, h1, _, _, h2, _⟩ := h.has; exact h1.cell j _ (h2 j _ (List.getElem?_eq_getElem hj))
theorem MemT.free {B : Nat} {ws : List Int} {w : World} (h : MemT tyM tlM B ws w) (j : Nat) : w.frozen? ⟨B, j, none⟩ = false := by
  obtain ⟨cs, h1, _⟩ := h.has; exact h1.free j
theorem mem_set {l : List Int} {j : Nat} {x y : Int} (h : y ∈ l.set j x) : y ∈ l ∨ y = x := List.mem_or_eq_of_mem_set h
theorem MemT.set {B : Nat} {ws : List Int} {w : World} (h : MemT tyM tlM B ws w) (j : Nat) (hj : j < ws.length) (x : Int) (h0 : 0 ≤ x) (h1 : x < 4294967296) : MemT tyM tlM B (ws.set j x) (w.setCell ⟨B, j, none⟩ (.int .u32 x)) := by
  obtain ⟨cs, hh, h2, h3, h4, h5⟩ := h.has
  have hl := h.len
  refine ⟨by simpa using hl, fun y hy => ?_, cs.setIfInBounds j (.int .u32 x), hh.set j _, by simpa using h2, ?_, fun k y hk => ?_, fun k => ?_⟩
  · rcases mem_set hy with hy | rfl
    · exact h.rng y hy
    · exact ⟨h0, h1⟩
  · rw [Array.getElem?_setIfInBounds_ne (by omega), h3, List.length_set]
  · rw [List.getElem?_set] at hk
    by_cases e : j = k
    · subst e
      rw [if_pos rfl, if_pos hj] at hk
      cases hk
      rw [Array.getElem?_setIfInBounds_self_of_lt (by omega)]
    · rw [if_neg e] at hk
      rw [Array.getElem?_setIfInBounds_ne e]
      exact h4 k y hk
  · rw [Array.getElem?_setIfInBounds_ne (by omega)]
    exact h5 k
theorem MemT.place {B : Nat} {ws : List Int} {w : World} (h : MemT tyM tlM B ws w) (k : Nat) (xs : List Int) (hk : k + xs.length ≤ ws.length) (hx : ∀ x ∈ xs, 0 ≤ x ∧ x < 4294967296) (cs : Array Value) (hh : Has B cs tyM w)
    (hs : cs.size = 4097 + tlM.length) (h3 : cs[4096]? = some (.int .i64 (ws.length : Int))) (h4 : ∀ (j : Nat) (x : Int), ws[j]? = some x → cs[j]? = some (Value.int .u32 x)) (h5 : ∀ j : Nat, cs[4097 + j]? = tlM[j]?) :
    MemT tyM tlM B (ws.take k ++ xs ++ ws.drop (k + xs.length)) (w.setRow B (cs.toList.take k ++ xs.map (Value.int .u32) ++ cs.toList.drop (k + (xs.map (Value.int .u32)).length)).toArray) := by
  have hl := h.len
  have hlen : (ws.take k ++ xs ++ ws.drop (k + xs.length)).length = ws.length := by simp; omega
  refine ⟨by omega, fun y hy => ?_, _, hh.row _, by simp; omega, ?_, fun j y hj => ?_, fun j => ?_⟩
  · rcases List.mem_append.1 hy with hy | hy
    · rcases List.mem_append.1 hy with hy | hy
      · exact h.rng y (List.mem_of_mem_take hy)
      · exact hx y hy
    · exact h.rng y (List.mem_of_mem_drop hy)
  · rw [hlen]
    simp only [List.getElem?_toArray]
    rw [List.getElem?_append_right (by simp; omega)]
    simp only [List.length_append, List.length_take, List.length_map, List.getElem?_drop, Array.length_toList]
    rw [show k + xs.length + (4096 - (min k cs.size + xs.length)) = 4096 by omega]
    simpa using h3
  · simp only [List.getElem?_toArray]
    by_cases c1 : j < k
    · rw [List.append_assoc, List.getElem?_append_left (by simp; omega), List.getElem?_take, if_pos c1] at hj ⊢
      simpa using h4 j y hj
    · by_cases c2 : j < k + xs.length
      · rw [List.getElem?_append_left (by simp; omega), List.getElem?_append_right (by simp; omega)] at hj ⊢
        rw [show j - (List.take k ws).length = j - k by simp; omega] at hj
        rw [show j - (List.take k cs.toList).length = j - k by simp; omega, List.getElem?_map, hj]
        rfl
      · rw [List.getElem?_append_right (by simp; omega), List.getElem?_drop] at hj ⊢
        rw [show k + xs.length + (j - (List.take k ws ++ xs).length) = j by simp; omega] at hj
        rw [show k + (List.map (Value.int .u32) xs).length + (j - (List.take k cs.toList ++ List.map (Value.int .u32) xs).length) = j by simp; omega]
        simpa using h4 j y hj
  · simp only [List.getElem?_toArray]
    rw [List.getElem?_append_right (by simp; omega), List.getElem?_drop]
    rw [show k + (List.map (Value.int .u32) xs).length + (4097 + j - (List.take k cs.toList ++ List.map (Value.int .u32) xs).length) = 4097 + j by simp; omega]
    simpa using h5 j
end Go.Proofs.YtpbgniffjlcbhaaDoor
