/-
  The document's memory: a struct of one slice of bytes; its contracts: New, trap, get, set.
-/
import Derived.Test.YtpfgmfiegnkocaaM12
import Derived.Test.YtpfgmfiegnkocaaM04
namespace Go.Proofs.Ytpfgmfiegnkocaa
open Go.RowKit
set_option linter.unusedVariables false
set_option linter.unusedSimpArgs false
set_option maxRecDepth 100000
/-- the block D is the document's memory of the words ws, its bytes lie in the block C -/
structure RMem (D C : Nat) (ws : List Int) (w : World) : Prop where
  len : ws.length ≤ 4096
  rng : ∀ x ∈ ws, 0 ≤ x ∧ x < 4294967296
  ne : D ≠ C
  box : Has D #[.slice (some ⟨C, 0, none⟩) (4 * ws.length) (4 * ws.length)] 79 w
  has : ∃ cs : Array Value, Has C cs 5 w ∧ cs.size = 4 * ws.length ∧ ∀ (i : Nat) (x : Int), ws[i]? = some x → ∀ j, j < 4 → cs[4 * i + j]? = some (Value.int .u8 (x / 2 ^ (8 * j) % 256))
theorem MemT.below {tyM : TypeId} {tlM : List Value} {B : Nat} {ws : List Int} {w w' : World} (h : MemT tyM tlM B ws w) (hK : Below w.heap.size w w') : MemT tyM tlM B ws w' := by
  obtain ⟨cs, h1, h2⟩ := h.has; exact ⟨h.len, h.rng, cs, h1.below hK, h2⟩
theorem RMem.below {D C : Nat} {ws : List Int} {w w' : World} (h : RMem D C ws w) (hK : Below w.heap.size w w') : RMem D C ws w' := by
  obtain ⟨cs, h1, h2⟩ := h.has; exact ⟨h.len, h.rng, h.ne, h.box.below hK, cs, h1.below hK, h2⟩
theorem RMem.but {D C B : Nat} {ws : List Int} {w w' : World} (h : RMem D C ws w) (hK : But B w w') (h1 : D ≠ B) (h2 : C ≠ B) : RMem D C ws w' := by
  obtain ⟨cs, h3, h4⟩ := h.has; exact ⟨h.len, h.rng, h.ne, hK.has h1 h.box, cs, hK.has h2 h3, h4⟩
theorem RMem.kept {D C : Nat} {ws : List Int} {w w' : World} (h : RMem D C ws w) (hK : Kept w w') : RMem D C ws w' := h.below hK.below
theorem RMem.sl {D C : Nat} {ws : List Int} {w : World} (h : RMem D C ws w) : w.cell? ⟨D, 0, none⟩ = some (.slice (some ⟨C, 0, none⟩) (4 * ws.length) (4 * ws.length)) := h.box.cell 0 _ rfl
theorem RMem.byte {D C : Nat} {ws : List Int} {w : World} (h : RMem D C ws w) (i : Nat) (hi : i < ws.length) (j : Nat) (hj : j < 4) : w.cell? ⟨C, 4 * i + j, none⟩ = some (.int .u8 (ws[i] / 2 ^ (8 * j) % 256)) := by
  obtain ⟨cs, h3, h4, h5⟩ := h.has
  exact h3.cell _ _ (h5 i _ (List.getElem?_eq_getElem hi) j hj)
theorem RMem.free {D C : Nat} {ws : List Int} {w : World} (h : RMem D C ws w) (j : Nat) : w.frozen? ⟨C, j, none⟩ = false := by
  obtain ⟨cs, h3, h4⟩ := h.has; exact h3.free j
theorem RMem.lt {D C : Nat} {ws : List Int} {w : World} (h : RMem D C ws w) : D < w.heap.size ∧ C < w.heap.size := by
  obtain ⟨cs, h3, h4⟩ := h.has; exact ⟨h.box.lt, h3.lt⟩
theorem made_atM (z : Value) (n j : Nat) (hj : j < n) : (madeCells #[z] n)[j]? = some z := by
  unfold madeCells
  simp [hj, Nat.mod_one]
theorem RMem.new (n : Nat) (hn : n ≤ 4096) (w : World) : RMem (w.heap.size + 1) w.heap.size (List.replicate n 0) ((w.alloc (.cells (madeCells #[Value.int .u8 0] (4 * n)) 5)).alloc (.cells #[.slice (some ⟨w.heap.size, 0, none⟩) (4 * n) (4 * n)] 79)) := by
  refine ⟨by simpa using hn, fun x hx => ?_, by omega, ?_, _, (Has.new _ _ _).alloc _, by simp [size_madeCells], fun i x hi j hj => ?_⟩
  · rw [List.eq_of_mem_replicate hx]; omega
  · rw [List.length_replicate]; exact Has.new1 _ _ _ _
  · rw [List.getElem?_replicate] at hi
    split at hi
    · cases hi
      rw [made_atM _ _ _ (by omega), Int.zero_ediv]; rfl
    · cases hi
theorem M.info8 : (Try.prog.info? 5).map (fun i => (i.zero, i.size, i.bytes)) = some (some (.int .u8 0), 1, 1) := by kernel_rfl
theorem R.shape : shapeOf Try.prog 79 = some (#[.slice none 0 0], [(0, 1)]) := by kernel_rfl
theorem R.built (v : Value) (hv : v.cells = #[v]) : Try.prog.built 79 [(0, v)] = some #[v] := by
  rw [built_of R.shape]
  have := fill_one (place := fun x => ([(0, 1)] : List (Nat × Nat)).toArray[x]?) (z := #[.slice none 0 0]) (i := 0) (off := 0) rfl hv (by decide)
  exact this
theorem make_row2 {P : Program} {w : World} {ops : Array Oper} {rest : List Oper} {o : Oper} {a : Act} {Q : Exit → Act → World → Prop} (hgd : o.guard = none) (l c : Operand) (t : TypeId) (ho : o.op = .makeSlice t l c)
    (e : TypeId) {z : Value} {b : Nat} (h1 : P.underlying t = some (.slice e)) (hi : (P.info? e).map (fun i => (i.zero, i.size, i.bytes)) = some (some z, 1, b)) (n : Nat) (L : Int) (hl : a.eval l = .int .i64 L) (hc : a.eval c = .int .i64 L) (hL : L = n)
    (b2 : b * n ≤ 281474976710656) (b3 : n ≤ maxLen)
    (h : wpList P ops Q rest (a.put o.dst (.slice (some ⟨w.heap.size, 0, none⟩) n n)) (w.alloc (.cells (madeCells z.cells n) e))) : wpList P ops Q (o :: rest) a w := by
  subst hL
  exact make_row hgd l c t ho e h1 hi n hl hc b2 b3 h
theorem R.new_any (n : Nat) (hn : n ≤ 4096) (w : World) :
    Calls Try.prog 47 #[.int .i64 n] w fun e w' => e = .returned (.tuple #[.pointer (some ⟨w.heap.size + 1, 0, none⟩), .int .i64 0]) ∧ RMem (w.heap.size + 1) w.heap.size (List.replicate n 0) w' ∧ Kept w w' ∧ w'.heap.size = w.heap.size + 2 := by
  have h0 : (0 : Int) ≤ n := by omega
  have h1 : (n : Int) ≤ 4096 := by omega
  go_enter Try.func47, Try.ntmps47
  go_wp2_with (first
    | (with_reducible refine make_row2 rfl (.tmp 11) (.tmp 11) 52 rfl 5 Try.underlying52 M.info8 (4 * n) _ rfl rfl (by omega) (by omega) (by unfold maxLen; omega) ?_)
    | ((with_reducible refine build_has (o := ⟨some 13, _, _, _, _, _⟩) rfl 79 _ rfl #[.slice (some ⟨w.heap.size, 0, none⟩) (4 * n) (4 * n)] ?hf4 ?_); (case hf4 => (go_simp; exact R.built _ rfl))))
  go_ret2
  exact ⟨rfl, RMem.new n hn w, ((Kept.refl w).alloc _ _).alloc _ _, by simp⟩
theorem R.sum (x : Int) (h0 : 0 ≤ x) (h1 : x < 4294967296) : x / 2 ^ (8 * 0) % 256 + x / 2 ^ (8 * 1) % 256 * 256 + x / 2 ^ (8 * 2) % 256 * 65536 + x / 2 ^ (8 * 3) % 256 * 16777216 = x := by
  show x / 1 % 256 + x / 256 % 256 * 256 + x / 65536 % 256 * 65536 + x / 16777216 % 256 * 16777216 = x
  omega
theorem R.wraps (b0 b1 b2 b3 : Int) (r0 : 0 ≤ b0 ∧ b0 < 256) (r1 : 0 ≤ b1 ∧ b1 < 256) (r2 : 0 ≤ b2 ∧ b2 < 256) (r3 : 0 ≤ b3 ∧ b3 < 256) :
    IntKind.u32.wrap (IntKind.u32.wrap (IntKind.u32.wrap (IntKind.u32.wrap b0 + IntKind.u32.wrap (IntKind.u32.wrap b1 * 256)) + IntKind.u32.wrap (IntKind.u32.wrap b2 * 65536)) + IntKind.u32.wrap (IntKind.u32.wrap b3 * 16777216)) = b0 + b1 * 256 + b2 * 65536 + b3 * 16777216 := by
  simp only [IntKind.wrap_u32]
  omega
set_option maxRecDepth 100000 in
theorem R.get_any {D C : Nat} {ws : List Int} {w : World} (h : RMem D C ws w) (n : Nat) (hn : n < ws.length) :
    Calls Try.prog 33 #[.pointer (some ⟨D, 0, none⟩), .int .i64 n] w fun e w' => e = .returned (.int .u32 ws[n]) ∧ Kept w w' := by
  have hc := h.sl
  have hl := h.len
  have hr := h.rng _ (List.getElem_mem hn)
  have g0 := h.byte n hn 0 (by omega)
  have g1 := h.byte n hn 1 (by omega)
  have g2 := h.byte n hn 2 (by omega)
  have g3 := h.byte n hn 3 (by omega)
  have hs := R.sum ws[n] hr.1 hr.2
  have r0 : 0 ≤ ws[n] / 2 ^ (8 * 0) % 256 ∧ ws[n] / 2 ^ (8 * 0) % 256 < 256 := by omega
  have r1 : 0 ≤ ws[n] / 2 ^ (8 * 1) % 256 ∧ ws[n] / 2 ^ (8 * 1) % 256 < 256 := by omega
  have r2 : 0 ≤ ws[n] / 2 ^ (8 * 2) % 256 ∧ ws[n] / 2 ^ (8 * 2) % 256 < 256 := by omega
  have r3 : 0 ≤ ws[n] / 2 ^ (8 * 3) % 256 ∧ ws[n] / 2 ^ (8 * 3) % 256 < 256 := by omega
  generalize ws[n] / 2 ^ (8 * 0) % 256 = b0 at *
  generalize ws[n] / 2 ^ (8 * 1) % 256 = b1 at *
  generalize ws[n] / 2 ^ (8 * 2) % 256 = b2 at *
  generalize ws[n] / 2 ^ (8 * 3) % 256 = b3 at *
  generalize ws[n] = x at *
  generalize hN : ws.length = N at *
  rw [Nat.add_zero] at g0
  have hn0 : (n : Int) < N := by omega
  have hN0 : (N : Int) ≤ 4096 := by omega
  replace hs := Lib.hid hs
  clear h hN hr
  go_enter Try.func33, Try.ntmps33
  go_wp2
  rw [show 4 * n + 4 - 4 * n = 4 by omega]
  refine WS.start 22 (by kernel_rfl) (by kernel_rfl) ?_
  intro w2 hw2
  have hK := Lib.hid (show Kept w w2 by rw [hw2]; exact (Kept.refl w).drew)
  replace g0 := (show w2.cell? ⟨C, 4 * n, none⟩ = w.cell? ⟨C, 4 * n, none⟩ by rw [hw2]; rfl).trans g0
  replace g1 := (show w2.cell? ⟨C, 4 * n + 1, none⟩ = w.cell? ⟨C, 4 * n + 1, none⟩ by rw [hw2]; rfl).trans g1
  replace g2 := (show w2.cell? ⟨C, 4 * n + 2, none⟩ = w.cell? ⟨C, 4 * n + 2, none⟩ by rw [hw2]; rfl).trans g2
  replace g3 := (show w2.cell? ⟨C, 4 * n + 3, none⟩ = w.cell? ⟨C, 4 * n + 3, none⟩ by rw [hw2]; rfl).trans g3
  clear hw2 hc
  simp only [List.take_succ_cons, List.take_zero, List.drop_succ_cons, List.drop_zero]
  iterate 22 (refine WS.step rfl (fun K hK => ?_); go_simp; refine hK _ ?_; clear hK K)
  refine WS.nil ?_
  go_wp2
  go_ret
  refine ⟨?_, hK.out⟩
  rw [R.wraps b0 b1 b2 b3 r0 r1 r2 r3, hs.out]
  rfl
/-- the bytes while a word is set: k of them are -/
def R.Part (C n k : Nat) (x : Int) (cs0 : Array Value) (w : World) : Prop :=
  ∃ cs : Array Value, Has C cs 5 w ∧ cs.size = cs0.size ∧ (∀ j, j < k → cs[4 * n + j]? = some (Value.int .u8 (x / 2 ^ (8 * j) % 256))) ∧ ∀ p, p < 4 * n ∨ 4 * n + k ≤ p → cs[p]? = cs0[p]?
theorem R.part_step {C n k : Nat} {x : Int} {cs0 : Array Value} {w : World} (h : R.Part C n k x cs0 w) (hn : 4 * n + k < cs0.size) : R.Part C n (k + 1) x cs0 (w.setCell ⟨C, 4 * n + k, none⟩ (.int .u8 (x / 2 ^ (8 * k) % 256))) := by
  obtain ⟨cs, h1, h2, h3, h4⟩ := h
  refine ⟨_, h1.set _ _, by simpa using h2, fun j hj => ?_, fun p hp => ?_⟩
  · by_cases c : j = k
    · subst c
      rw [Array.getElem?_setIfInBounds_self_of_lt (by omega)]
    · rw [Array.getElem?_setIfInBounds_ne (by omega)]
      exact h3 j (by omega)
  · rw [Array.getElem?_setIfInBounds_ne (by omega)]
    exact h4 p (by omega)
theorem R.part_cell {C n k : Nat} {x : Int} {cs0 : Array Value} {w : World} (h : R.Part C n k x cs0 w) (hn : 4 * n + k < cs0.size) : ∃ v, w.cell? ⟨C, 4 * n + k, none⟩ = some v := by
  obtain ⟨cs, h1, h2, h3, h4⟩ := h
  exact ⟨_, h1.cell _ _ (Array.getElem?_eq_getElem (by omega))⟩
theorem R.part_free {C n k : Nat} {x : Int} {cs0 : Array Value} {w : World} (h : R.Part C n k x cs0 w) (j : Nat) : w.frozen? ⟨C, j, none⟩ = false := by
  obtain ⟨cs, h1, _⟩ := h
  exact h1.free j
theorem R.part_end {D C n : Nat} {ws : List Int} {x : Int} {w w' : World} {cs0 : Array Value} (h : RMem D C ws w) (hn : n < ws.length) (x0 : 0 ≤ x) (x1 : x < 4294967296) (hs : cs0.size = 4 * ws.length)
    (h5 : ∀ (i : Nat) (x : Int), ws[i]? = some x → ∀ j, j < 4 → cs0[4 * i + j]? = some (Value.int .u8 (x / 2 ^ (8 * j) % 256))) (hP : R.Part C n 4 x cs0 w') (hB : But C w w') : RMem D C (ws.set n x) w' := by
  obtain ⟨cs, h1, h2, h3, h4⟩ := hP
  refine ⟨by simpa using h.len, fun y hy => ?_, h.ne, ?_, cs, h1, by rw [List.length_set]; omega, fun i y hi j hj => ?_⟩
  · rcases mem_set hy with hy | rfl
    · exact h.rng y hy
    · exact ⟨x0, x1⟩
  · rw [List.length_set]; exact hB.has h.ne h.box
  · rw [List.getElem?_set] at hi
    by_cases c : n = i
    · subst c
      rw [if_pos rfl, if_pos hn] at hi
      cases hi
      exact h3 j hj
    · rw [if_neg c] at hi
      rw [h4 _ (by omega)]
      exact h5 i y hi j hj
theorem R.shift (x : Int) (k : Nat) : x / 2 ^ (8 * k) / 256 = x / 2 ^ (8 * (k + 1)) := by
  rw [Int.ediv_ediv_of_nonneg (Int.le_of_lt (Int.pow_pos (by decide))), show (256 : Int) = 2 ^ 8 from rfl, ← Int.pow_add, show 8 * k + 8 = 8 * (k + 1) by omega]
theorem R.bounds (x : Int) (k : Nat) (x0 : 0 ≤ x) (x1 : x < 4294967296) : 0 ≤ x / 2 ^ (8 * k) ∧ x / 2 ^ (8 * k) < 4294967296 := by
  have p : (0 : Int) < 2 ^ (8 * k) := Int.pow_pos (by decide)
  refine ⟨Int.ediv_nonneg x0 (Int.le_of_lt p), ?_⟩
  exact Int.lt_of_le_of_lt (Int.ediv_le_self _ x0) x1
set_option maxRecDepth 100000 in
theorem R.set_any {D C : Nat} {ws : List Int} {w : World} (h : RMem D C ws w) (n : Nat) (hn : n < ws.length) (x : Int) (x0 : 0 ≤ x) (x1 : x < 4294967296) :
    Calls Try.prog 48 #[.pointer (some ⟨D, 0, none⟩), .int .i64 n, .int .u32 x] w fun e w' => e = .returned (.tuple #[]) ∧ RMem D C (ws.set n x) w' ∧ But C w w' := by
  have hl := h.len
  have hc := h.sl
  have hD := h.lt.1
  have hne := h.ne
  obtain ⟨cs0, hh, hs, h5⟩ := h.has
  have hE := Lib.hid (fun (w' : World) (hP : R.Part C n 4 x cs0 w') (hB : But C w w') => R.part_end h hn x0 x1 hs h5 hP hB)
  have hP0 := Lib.hid (show R.Part C n 0 x cs0 w from ⟨cs0, hh, rfl, fun j hj => by omega, fun _ _ => rfl⟩)
  replace hc := Lib.hid hc
  generalize hN : ws.length = N at *
  have hn0 : (n : Int) < N := by omega
  have hN0 : (N : Int) ≤ 4096 := by omega
  clear h hN hh h5
  go_enter Try.func48, Try.ntmps48
  go_wp2
  go_loopw [2, 6] (fun xv i wr => ∃ k : Nat, k ≤ 4 ∧ i = .int .i64 k ∧ xv = .int .u32 (x / 2 ^ (8 * k)) ∧ But C w wr ∧ R.Part C n k x cs0 wr) (fun _ i _ => 4 - (intOf i).toNat)
  case atStart => exact ⟨0, by omega, rfl, by rw [Nat.mul_zero, Int.pow_zero, Int.ediv_one], But.refl _ _, hP0.out⟩
  case round =>
    obtain ⟨k, hk, rfl, rfl, hB, hP⟩ := hrel
    have hr := R.bounds x k x0 x1
    by_cases d1 : k < 4
    · have d2 : (k : Int) < 4 := by omega
      have g1 := (World.cell?_of_block (w := w) (hB.block D hD hne) : wr.cell? ⟨D, 0, none⟩ = w.cell? ⟨D, 0, none⟩).trans hc.out
      obtain ⟨v, hv⟩ := R.part_cell hP (by omega)
      have hf := R.part_free hP (4 * n + k)
      have hS := Lib.hid (R.part_step hP (by omega))
      have hB2 := Lib.hid (hB.setCell (4 * n + k) (.int .u8 (x / 2 ^ (8 * k) % 256)))
      have hx := R.shift x k
      clear hP hB
      go_wp2
      go_roundw
      case rel => exact ⟨k + 1, by omega, by go_num, by rw [hx], hB2.out, hS.out⟩
      case measure => simp [intOf]; omega
    · have d2 : ¬ (k : Int) < 4 := by omega
      obtain rfl : k = 4 := by omega
      have hR := Lib.hid (hE.out _ hP hB)
      replace hB := Lib.hid hB
      clear hP
      go_wp2
      go_end0
      exact ⟨rfl, hR.out, hB.out⟩
end Go.Proofs.Ytpfgmfiegnkocaa
