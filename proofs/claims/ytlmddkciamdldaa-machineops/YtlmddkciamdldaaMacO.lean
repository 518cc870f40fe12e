/-
  The law MachineOps.
-/
import Derived.Test.YtlmddkciamdldaaMacK
import Derived.Test.YtlmddkciamdldaaQe
namespace Go.Proofs.Ytlmddkciamdldaa
open Go.RowKit
set_option linter.unusedVariables false
set_option linter.unusedSimpArgs false
set_option maxRecDepth 100000
theorem fit_br (op i : Int) (u : Bool) : ∃ op' i', I.May ⟨7, op', 0, 0, 0, i', u⟩ ∧ ∀ w, Calls Try.prog 8 #[.agg #[.int .i64 6, .int .i64 op, .int .i64 0, .int .i64 0, .int .i64 0, .int .i64 i, .bool u]] w fun e w' => e = .returned (.agg #[.int .i64 7, .int .i64 (op'), .int .i64 0, .int .i64 0, .int .i64 0, .int .i64 (i'), .bool u]) ∧ Kept w w' := by
  obtain ⟨O15, E15⟩ : ∃ r, bits .and .i64 op 15 = r := ⟨_, rfl⟩
  obtain ⟨M17, E17⟩ : ∃ r, bits .and .i64 i 131071 = r := ⟨_, rfl⟩
  obtain ⟨M20, E20⟩ : ∃ r, bits .and .i64 i 1048575 = r := ⟨_, rfl⟩
  obtain ⟨M24, E24⟩ : ∃ r, bits .and .i64 i 16777215 = r := ⟨_, rfl⟩
  have h15 : 0 ≤ O15 ∧ O15 ≤ 15 := by rw [← E15, i64_and_4]; omega
  have h17 : 0 ≤ M17 ∧ M17 ≤ 131071 := by rw [← E17, i64_and_17]; omega
  have h20 : 0 ≤ M20 ∧ M20 ≤ 1048575 := by rw [← E20, i64_and_20]; omega
  have h24 : 0 ≤ M24 ∧ M24 ≤ 16777215 := by rw [← E24, i64_and_24]; omega
  refine ⟨O15, M24 - 8388608, ?_, fit_7 6 op 0 0 0 i _ _ _ _ _ O15 _ M17 M20 M24 u (by simp [wrap64]) rfl rfl rfl rfl rfl E15 rfl E17 E20 E24 h17.1 h17.2 h20.1 h20.2 h24.1 h24.2⟩
  unfold I.May
  simp
  omega
/-- how a machine is set up -/
def X.setC (s : A.Regs) (pc : Int) (v : Value) : Array Value := #[.int .u32 (s.r 0), .int .u32 (s.r 1), .int .u32 (s.r 2), .int .u32 (s.r 3), .int .u32 (s.r 4), .int .u32 (s.r 5), .int .u32 (s.r 6), .int .u32 (s.r 7), .int .u32 (s.r 8), .int .u32 (s.r 9), .int .u32 (s.r 10), .int .u32 (s.r 11), .int .u32 (s.r 12), .int .u32 (s.r 13), .int .u32 (s.r 14), .int .u32 (s.r 15), .int .u32 s.h, .bool s.n, .bool s.z, .bool s.c, .bool s.v, .int .u32 pc, v]
theorem X.setC_regs {s : A.Regs} {pc : Int} {v : Value} {g : Nat} {t : TypeId} {w : World} (h : Has g (X.setC s pc v) t w) : w.rangeAt g 0 (A.cells s).toList := by
  intro j y hj
  have hl : j < 21 := by
    rcases Nat.lt_or_ge j 21 with h1 | h1
    · exact h1
    · rw [List.getElem?_eq_none (by simp; omega)] at hj; cases hj
  rw [Nat.zero_add]
  refine h.cell j y ?_
  have e : X.setC s pc v = (A.cells s) ++ #[.int .u32 pc, v] := rfl
  rw [e, Array.getElem?_append_left (by simp; omega)]
  simpa using hj
set_option maxHeartbeats 1000000 in
theorem walk_Ops_0 (k1 op1 a1 b1 c1 i1 : Int) (u1 : Bool) (s : A.Regs) (pc : Int) (v : Value) (hs : A.Ok s) (p0 : 0 ≤ pc) (p1 : pc < 4294967296) (f : Nat) (hf : pc % 16 = f) (f16 : f < 16) (k op a b c i : Int) (u : Bool) (hm : I.May ⟨k, op, a, b, c, i, u⟩) (wj t y : Int) (S' : A.Regs) (w : World) (j0 : 0 ≤ wj) (j1 : wj < 4294967296)
    (C1 : Hid (∀ w, Calls Try.prog 8 #[.agg #[.int .i64 k1, .int .i64 op1, .int .i64 a1, .int .i64 b1, .int .i64 c1, .int .i64 i1, .bool u1]] w fun e w' => e = .returned (.agg #[.int .i64 k, .int .i64 op, .int .i64 a, .int .i64 b, .int .i64 c, .int .i64 i, .bool u]) ∧ Kept w w'))
    (CE : Hid (∀ w, Calls Try.prog 9 #[.agg #[.int .i64 k, .int .i64 op, .int .i64 a, .int .i64 b, .int .i64 c, .int .i64 i, .bool u]] w fun e w' => e = .returned (.tuple #[.int .u32 wj, .int .i64 0]) ∧ Kept w w'))
    (hx : X.step ⟨M.placed (List.replicate 16 0) f [wj], s, 4 * f, 0, [], []⟩ = ⟨M.placed (List.replicate 16 0) f [wj], S', y, t, [], []⟩) (k0 : 1 ≤ k) (k5 : k < 5) (CD : Hid (∀ w, Calls Try.prog 14 #[.agg (A.cells s), .agg #[.int .i64 k, .int .i64 op, .int .i64 a, .int .i64 b, .int .i64 c, .int .i64 i, .bool u]] w fun e w' => e = .returned (.tuple #[.agg (A.cells S'), .int .i64 t]) ∧ Kept w w')) (ht : (t = 0 ∧ y = 4 * (f : Int) + 4) ∨ (t = 5 ∧ y = 4 * (f : Int))) :
    Calls Try.prog 3 #[.agg #[.int .i64 k1, .int .i64 op1, .int .i64 a1, .int .i64 b1, .int .i64 c1, .int .i64 i1, .bool u1], .agg (X.setC s pc v)] w fun e w' => e = .returned (.bool true) ∧ Below w.heap.size w w' := by
  have k5' : ¬ k = 5 := by omega
  have e5 : (k == 5) = false := by simpa using k5'
  have d5 : decide (k < 5) = true := decide_eq_true k5
  go_enter Try.func3, Try.ntmps3
  go_wp2_with (fail)
  refine (shown_any _).mono ?_; rintro e w1 ⟨rfl, hT1⟩
  have hA := ((Kept.refl w).alloc #[.int .i64 k1, .int .i64 op1, .int .i64 a1, .int .i64 b1, .int .i64 c1, .int .i64 i1, .bool u1] 23).alloc (X.setC s pc v) 30
  have hb1 : Below w.heap.size w w1 := hA.below.trans (hT1.below w.heap.size hA.size fun _ h => h.elim)
  have hI1 : Has w.heap.size #[.int .i64 k1, .int .i64 op1, .int .i64 a1, .int .i64 b1, .int .i64 c1, .int .i64 i1, .bool u1] 23 w1 := (hT1.block _ ((Has.new _ _ w).alloc _).lt id).trans ((Has.new _ _ w).alloc _)
  have hS1 : Has (w.heap.size + 1) (X.setC s pc v) 30 w1 := (hT1.block _ (Has.new1 _ _ w _).lt id).trans (Has.new1 _ _ w _)
  clear hA hT1
  replace hI1 := Lib.hid hI1
  replace hS1 := Lib.hid hS1
  go_wp2_with (with_reducible refine load_has rfl 23 _ rfl _ rfl hI1.out Try.underlying23 rfl (by kernel_rfl) ?_)
  refine (C1.out _).mono ?_; rintro e w2 ⟨rfl, hK2⟩
  have hJ := Lib.hid (Has.new #[.int .i64 k, .int .i64 op, .int .i64 a, .int .i64 b, .int .i64 c, .int .i64 i, .bool u] 23 w2)
  have hK3 := hK2.alloc #[.int .i64 k, .int .i64 op, .int .i64 a, .int .i64 b, .int .i64 c, .int .i64 i, .bool u] 23
  have hb3 := Lib.hid (below_kept hb1 hK3 hb1.size)
  have hS3 := Lib.hid (hS1.out.kept hK3)
  clear hI1 hS1 hb1 hK2 hK3
  go_upto_region 5 with (fail)
  generalize w2.heap.size = g2 at *
  generalize w2.alloc (Obj.cells _ _) = w3 at *
  go_wp2_with (with_reducible refine load_has rfl 23 _ rfl _ rfl hJ.out Try.underlying23 rfl (by kernel_rfl) ?_)
  refine (CE.out _).mono ?_; rintro e w4 ⟨rfl, hK4⟩
  replace hJ := Lib.hid (hJ.out.kept hK4)
  replace hS3 := Lib.hid (hS3.out.kept hK4)
  replace hb3 := Lib.hid (below_kept hb3.out hK4 hb3.out.size)
  clear hK4 CE C1
  go_wp2_with (fail)
  refine (new_live 16 (by omega) (Ws.empty w4) (by omega)).mono ?_; rintro e w5 ⟨B, rfl, hL⟩
  have cpc : (w5).cell? ⟨w.heap.size + 1, 21, none⟩ = some (.int .u32 pc) := by
    rw [World.cell?_of_block (w := w4) (hL.below.block _ hS3.out.lt)]
    exact hS3.out.cell 21 _ rfl
  have hL1 := Lib.hid (hL.kept ((Kept.refl w5).alloc #[.int .u32 wj] 24))
  have hW1 := Lib.hid (Ws.sole (Has.new #[.int .u32 wj] 24 w5) j0 j1)
  clear hL
  go_wp2_with (fail)
  rw [hf]
  refine (place_live hL1.out f _ 1 1 [wj] hW1.out (by simp; omega)).mono ?_; rintro e w6 ⟨rfl, hL6⟩
  replace hL6 : Live w4 B ⟨M.placed (List.replicate 16 0) f [wj], A.none', 0, 0, [], []⟩ w6 := hL6
  have hS6 := Lib.hid (show Has (w.heap.size + 1) (X.setC s pc v) 30 w6 from (hL6.below.block _ hS3.out.lt).trans hS3.out)
  replace hL6 := Lib.hid hL6
  clear hL1 hW1 cpc
  go_wp2_with (with_reducible refine wpList_load_mid (op := ⟨some 70, _, _, _, _, _⟩) rfl 27 _ rfl _ _ rfl (A.cells s).toList _ (X.setC_regs hS6.out) Try.underlying27 rfl (by rw [Array.length_toList]; exact A.info25 _) ?_)
  refine (start_live hL6.out (4 * (f : Int)) s hs (by omega) (by omega)).mono ?_; rintro e w7 ⟨rfl, hL7⟩
  replace hL7 : Live w4 B ⟨M.placed (List.replicate 16 0) f [wj], s, 4 * (f : Int), 0, [], []⟩ w7 := hL7
  replace hL7 := Lib.hid hL7
  clear hL6 hS6
  go_wp2_with (fail)
  refine (step_live hL7.out (by simp)).mono ?_; rintro e w8 ⟨rfl, hL8⟩
  rw [hx] at hL8 ⊢
  have hS8 := Lib.hid (show Has (w.heap.size + 1) (X.setC s pc v) 30 w8 from (hL8.below.block _ hS3.out.lt).trans hS3.out)
  have hJ8 := (show Has g2 #[.int .i64 k, .int .i64 op, .int .i64 a, .int .i64 b, .int .i64 c, .int .i64 i, .bool u] 23 w8 from (hL8.below.block _ hJ.out.lt).trans hJ.out)
  replace hL8 := Lib.hid hL8
  have cj0 : w8.cell? ⟨g2, 0, none⟩ = some (.int .i64 k) := hJ8.cell 0 _ rfl
  clear hL7 hS3 hJ hx
  generalize M.placed (List.replicate 16 0) f [wj] = ws at *
  go_upto_region 15 with (fail)
  go_wp2_with (first
    | (with_reducible refine wpList_load_mid (op := ⟨some 79, _, _, _, _, _⟩) rfl 27 _ rfl _ _ rfl (A.cells s).toList _ (X.setC_regs hS8.out) Try.underlying27 rfl (by rw [Array.length_toList]; exact A.info25 _) ?_)
    | (with_reducible refine load_has rfl 23 _ rfl _ rfl hJ8 Try.underlying23 rfl (by kernel_rfl) ?_))
  refine (CD.out _).mono ?_; rintro e w9 ⟨rfl, hK9⟩
  have hKa := hK9.trans ((Kept.refl w9).alloc (A.cells S') 27)
  have hS0 := (show Live w4 B ⟨ws, S', y, t, [], []⟩ (w9.alloc (.cells (A.cells S') 27)).drew ∧ Has w9.heap.size (A.cells S') 27 (w9.alloc (.cells (A.cells S') 27)).drew from ⟨hL8.out.kept hKa.drew, Has.new _ _ _⟩)
  clear hK9 hL8 hS8 hJ8 cj0 CD hKa
  generalize hg14 : w9.heap.size = g14 at *
  go_upto_region 16 with (with_reducible refine store_last rfl 27 _ _ rfl _ _ rfl rfl hg14.symm (A.info25 _) (by kernel_rfl) (A.one_cells _) ?_)
  generalize w9.alloc (Obj.cells _ _) = wa at *
  replace hS0 := Lib.hid hS0
  rcases ht with ⟨rfl, rfl⟩ | ⟨rfl, rfl⟩
  · go_upto_region 18 with (fail)
    refine wp_region_held_drew (S := fun wz => Live w4 B ⟨ws, S', 4 * (f : Int) + 4, 0, [], []⟩ wz ∧ Has g14 (A.cells S') 27 wz) (by kernel_rfl) ?_ (fun hHeld => ?_)
    · exact hS0.out
    refine wpAnyH_take (i := 0) (oi := { dst := some 88, op := Op.move (Operand.tmp 13), type := 3, pos := "law.go:164", after := #[], guard := none }) (v := ?_) rfl (by kernel_rfl) (by kernel_rfl) (by kernel_rfl) (fun _ _ _ h => h) (Or.inl ⟨rfl, ?_⟩) hHeld ?_
    rotate_left
    · (intro wz hSw; (try dsimp only at hSw); go_simp; try with_reducible rfl)
    try simp only [Act.put, List.setIfInBounds_toArray, List.set_cons_zero, List.set_cons_succ]
    refine wpAnyH_take (i := 1) (oi := { dst := some 89, op := Op.move (Operand.tmp 15), type := 3, pos := "law.go:164", after := #[], guard := none }) (v := ?_) rfl (by kernel_rfl) (by kernel_rfl) (by kernel_rfl) (fun _ _ _ h => h) (Or.inl ⟨rfl, ?_⟩) hHeld ?_
    rotate_left
    · (intro wz hSw; (try dsimp only at hSw); go_simp; try with_reducible rfl)
    try simp only [Act.put, List.setIfInBounds_toArray, List.set_cons_zero, List.set_cons_succ]
    refine wpAnyH_take (i := 2) (oi := { dst := some 90, op := Op.binOp BinOp.eql 3 (Operand.tmp 88) (Operand.tmp 89) 3, type := 4, pos := "law.go:164", after := #[eD 0, eD 1], guard := none }) (v := ?_) rfl (by kernel_rfl) (by kernel_rfl) (by kernel_rfl) (fun _ _ _ h => h) (Or.inl ⟨rfl, ?_⟩) hHeld ?_
    rotate_left
    · (intro wz hSw; (try dsimp only at hSw); go_simp; try with_reducible rfl)
    try simp only [Act.put, List.setIfInBounds_toArray, List.set_cons_zero, List.set_cons_succ]
    refine wpAnyH_take (i := 3) (oi := { dst := some 91, op := Op.move (Operand.tmp 90), type := 4, pos := "law.go:164", after := #[eD 2], guard := none }) (v := ?_) rfl (by kernel_rfl) (by kernel_rfl) (by kernel_rfl) (fun _ _ _ h => h) (Or.inl ⟨rfl, ?_⟩) hHeld ?_
    rotate_left
    · (intro wz hSw; (try dsimp only at hSw); go_simp; try with_reducible rfl)
    try simp only [Act.put, List.setIfInBounds_toArray, List.set_cons_zero, List.set_cons_succ]
    refine wpAnyH_take (i := 4) (oi := { dst := some 92, op := Op.move (Operand.tmp 9), type := 36, pos := "law.go:164", after := #[eG 3], guard := some (3, true) }) (v := ?_) rfl (by kernel_rfl) (by kernel_rfl) (by kernel_rfl) (fun _ _ _ h => h) (Or.inl ⟨rfl, ?_⟩) hHeld ?_
    rotate_left
    · (intro wz hSw; (try dsimp only at hSw); go_simp; try with_reducible rfl)
    try simp only [Act.put, List.setIfInBounds_toArray, List.set_cons_zero, List.set_cons_succ]
    refine wpAnyH_take (i := 6) (oi := { dst := some 94, op := Op.load 27 (Operand.tmp 14), type := 27, pos := "law.go:164", after := #[eG 3], guard := some (3, true) }) (v := ?_) rfl (by kernel_rfl) (by kernel_rfl) (by kernel_rfl) (fun _ _ _ h => h) (Or.inl ⟨rfl, ?_⟩) hHeld ?_
    rotate_left
    · (intro wz hSw; refine exec_load_has 27 (Operand.tmp 14) ?_ _ ?_ hSw.2 Try.underlying27 rfl (A.info25 _) <;> rfl)
    try simp only [Act.put, List.setIfInBounds_toArray, List.set_cons_zero, List.set_cons_succ]
    refine wpAnyH_ready (rs := [5]) (by kernel_rfl) (by simp) ?_
    refine AllReadyH.cons (o := { dst := some 93, op := Op.call { callee := Callee.value (Operand.func 15), args := #[Operand.tmp 92], argTypes := #[36] }, type := 27, pos := "law.go:164", after := #[eD 4, eC 3, eG 3], guard := some (3, true) }) rfl (fun K hK => ?_) (AllReadyH.nil)
    go_simp
    go_at_call 15
    refine (regs_live hHeld.1).mono ?_
    rintro e wd ⟨rfl, hKd⟩
    have hN := (show (fun wz => Live w4 B ⟨ws, S', 4 * (f : Int) + 4, 0, [], []⟩ wz ∧ Has g14 (A.cells S') 27 wz) _ from ⟨hHeld.1.kept hKd, hHeld.2.kept hKd⟩)
    clear hHeld
    refine hK.out _ _ hN (fun hHeld => ?_)
    clear hK K hN
    try simp only [Act.put, List.setIfInBounds_toArray, List.set_cons_zero, List.set_cons_succ]
    refine wpAnyH_take (i := 7) (oi := { dst := some 95, op := Op.binOp BinOp.eql 27 (Operand.tmp 93) (Operand.tmp 94) 27, type := 4, pos := "law.go:164", after := #[eD 5, eD 6, eG 3], guard := some (3, true) }) (v := ?_) rfl (by kernel_rfl) (by kernel_rfl) (by kernel_rfl) (fun _ _ _ h => h) (Or.inl ⟨rfl, ?_⟩) hHeld ?_
    rotate_left
    · (intro wz hSw; refine exec_eq_regs (o := { dst := some 95, op := Op.binOp BinOp.eql 27 (Operand.tmp 93) (Operand.tmp 94) 27, type := 4, pos := "law.go:164", after := #[eD 5, eD 6, eG 3], guard := some (3, true) }) (Operand.tmp 93) (Operand.tmp 94) ?_ S' ?_ ?_ <;> rfl)
    try simp only [Act.put, List.setIfInBounds_toArray, List.set_cons_zero, List.set_cons_succ]
    refine wpAnyH_take (i := 8) (oi := { dst := some 96, op := Op.pick (Operand.tmp 91) (Operand.tmp 95) (Operand.const (Value.bool false)), type := 4, pos := "law.go:164", after := #[eD 3, eD 7], guard := none }) (v := ?_) rfl (by kernel_rfl) (by kernel_rfl) (by kernel_rfl) (fun _ _ _ h => h) (Or.inl ⟨rfl, ?_⟩) hHeld ?_
    rotate_left
    · (intro wz hSw; (try dsimp only at hSw); go_simp; try with_reducible rfl)
    try simp only [Act.put, List.setIfInBounds_toArray, List.set_cons_zero, List.set_cons_succ]
    refine wpAnyH_take (i := 9) (oi := { dst := some 97, op := Op.move (Operand.tmp 96), type := 4, pos := "law.go:164", after := #[eD 8, eC 5], guard := none }) (v := ?_) rfl (by kernel_rfl) (by kernel_rfl) (by kernel_rfl) (fun _ _ _ h => h) (Or.inl ⟨rfl, ?_⟩) hHeld ?_
    rotate_left
    · (intro wz hSw; (try dsimp only at hSw); go_simp; try with_reducible rfl)
    try simp only [Act.put, List.setIfInBounds_toArray, List.set_cons_zero, List.set_cons_succ]
    refine wpAnyH_take (i := 10) (oi := { dst := some 98, op := Op.move (Operand.tmp 9), type := 36, pos := "law.go:164", after := #[eG 9], guard := some (9, true) }) (v := ?_) rfl (by kernel_rfl) (by kernel_rfl) (by kernel_rfl) (fun _ _ _ h => h) (Or.inl ⟨rfl, ?_⟩) hHeld ?_
    rotate_left
    · (intro wz hSw; (try dsimp only at hSw); go_simp; try with_reducible rfl)
    try simp only [Act.put, List.setIfInBounds_toArray, List.set_cons_zero, List.set_cons_succ]
    refine wpAnyH_take (i := 12) (oi := { dst := some 100, op := Op.move (Operand.tmp 12), type := 24, pos := "law.go:164", after := #[eG 9], guard := some (9, true) }) (v := ?_) rfl (by kernel_rfl) (by kernel_rfl) (by kernel_rfl) (fun _ _ _ h => h) (Or.inl ⟨rfl, ?_⟩) hHeld ?_
    rotate_left
    · (intro wz hSw; (try dsimp only at hSw); go_simp; try with_reducible rfl)
    try simp only [Act.put, List.setIfInBounds_toArray, List.set_cons_zero, List.set_cons_succ]
    refine wpAnyH_ready (rs := [11]) (by kernel_rfl) (by simp) ?_
    refine AllReadyH.cons (o := { dst := some 99, op := Op.call { callee := Callee.value (Operand.func 16), args := #[Operand.tmp 98], argTypes := #[36] }, type := 24, pos := "law.go:164", after := #[eD 10, eC 9, eG 9], guard := some (9, true) }) rfl (fun K hK => ?_) (AllReadyH.nil)
    go_simp
    go_at_call 16
    refine (pc_live hHeld.1).mono ?_
    rintro e we ⟨rfl, rfl⟩
    have hN := (show (fun wz => Live w4 B ⟨ws, S', 4 * (f : Int) + 4, 0, [], []⟩ wz ∧ Has g14 (A.cells S') 27 wz) _ from hHeld)
    clear hHeld
    refine hK.out _ _ hN (fun hHeld => ?_)
    clear hK K hN
    try simp only [Act.put, List.setIfInBounds_toArray, List.set_cons_zero, List.set_cons_succ]
    refine wpAnyH_take (i := 13) (oi := { dst := some 101, op := Op.binOp BinOp.eql 24 (Operand.tmp 99) (Operand.tmp 100) 24, type := 4, pos := "law.go:164", after := #[eD 11, eD 12, eG 9], guard := some (9, true) }) (v := ?_) rfl (by kernel_rfl) (by kernel_rfl) (by kernel_rfl) (fun _ _ _ h => h) (Or.inl ⟨rfl, ?_⟩) hHeld ?_
    rotate_left
    · (intro wz hSw; (try dsimp only at hSw); go_simp; try with_reducible rfl)
    try simp only [Act.put, List.setIfInBounds_toArray, List.set_cons_zero, List.set_cons_succ]
    refine wpAnyH_take (i := 14) (oi := { dst := some 102, op := Op.pick (Operand.tmp 97) (Operand.tmp 101) (Operand.const (Value.bool false)), type := 4, pos := "law.go:164", after := #[eD 9, eD 13], guard := none }) (v := ?_) rfl (by kernel_rfl) (by kernel_rfl) (by kernel_rfl) (fun _ _ _ h => h) (Or.inl ⟨rfl, ?_⟩) hHeld ?_
    rotate_left
    · (intro wz hSw; (try dsimp only at hSw); go_simp; try with_reducible rfl)
    try simp only [Act.put, List.setIfInBounds_toArray, List.set_cons_zero, List.set_cons_succ]
    refine wpAnyH_take (i := 15) (oi := { dst := some 4, op := Op.assign (Operand.tmp 102), type := 4, pos := "law.go:164", after := #[eD 14, eC 11, eP 0, eP 1, eP 2, eP 3, eP 4, eP 5, eP 6, eP 7, eP 8, eP 9, eP 10, eP 11, eP 12, eP 13, eP 14], guard := none }) (v := ?_) rfl (by kernel_rfl) (by kernel_rfl) (by kernel_rfl) (fun _ _ _ h => h) (Or.inl ⟨rfl, ?_⟩) hHeld ?_
    rotate_left
    · (intro wz hSw; (try dsimp only at hSw); go_simp; try with_reducible rfl)
    try simp only [Act.put, List.setIfInBounds_toArray, List.set_cons_zero, List.set_cons_succ]
    refine wpAnyH_done (by kernel_rfl) ?_ _
    have hbf := Lib.hid (hb3.out.trans (hHeld.1.below.mono hb3.out.size))
    clear hHeld
    go_wp2
    go_ret
    exact ⟨rfl, hbf.out⟩
  · go_upto_region 18 with (fail)
    refine wp_region_held_drew (S := fun wz => Live w4 B ⟨ws, S', 4 * (f : Int), 5, [], []⟩ wz ∧ Has g14 (A.cells S') 27 wz) (by kernel_rfl) ?_ (fun hHeld => ?_)
    · exact hS0.out
    refine wpAnyH_take (i := 0) (oi := { dst := some 88, op := Op.move (Operand.tmp 13), type := 3, pos := "law.go:164", after := #[], guard := none }) (v := ?_) rfl (by kernel_rfl) (by kernel_rfl) (by kernel_rfl) (fun _ _ _ h => h) (Or.inl ⟨rfl, ?_⟩) hHeld ?_
    rotate_left
    · (intro wz hSw; (try dsimp only at hSw); go_simp; try with_reducible rfl)
    try simp only [Act.put, List.setIfInBounds_toArray, List.set_cons_zero, List.set_cons_succ]
    refine wpAnyH_take (i := 1) (oi := { dst := some 89, op := Op.move (Operand.tmp 15), type := 3, pos := "law.go:164", after := #[], guard := none }) (v := ?_) rfl (by kernel_rfl) (by kernel_rfl) (by kernel_rfl) (fun _ _ _ h => h) (Or.inl ⟨rfl, ?_⟩) hHeld ?_
    rotate_left
    · (intro wz hSw; (try dsimp only at hSw); go_simp; try with_reducible rfl)
    try simp only [Act.put, List.setIfInBounds_toArray, List.set_cons_zero, List.set_cons_succ]
    refine wpAnyH_take (i := 2) (oi := { dst := some 90, op := Op.binOp BinOp.eql 3 (Operand.tmp 88) (Operand.tmp 89) 3, type := 4, pos := "law.go:164", after := #[eD 0, eD 1], guard := none }) (v := ?_) rfl (by kernel_rfl) (by kernel_rfl) (by kernel_rfl) (fun _ _ _ h => h) (Or.inl ⟨rfl, ?_⟩) hHeld ?_
    rotate_left
    · (intro wz hSw; (try dsimp only at hSw); go_simp; try with_reducible rfl)
    try simp only [Act.put, List.setIfInBounds_toArray, List.set_cons_zero, List.set_cons_succ]
    refine wpAnyH_take (i := 3) (oi := { dst := some 91, op := Op.move (Operand.tmp 90), type := 4, pos := "law.go:164", after := #[eD 2], guard := none }) (v := ?_) rfl (by kernel_rfl) (by kernel_rfl) (by kernel_rfl) (fun _ _ _ h => h) (Or.inl ⟨rfl, ?_⟩) hHeld ?_
    rotate_left
    · (intro wz hSw; (try dsimp only at hSw); go_simp; try with_reducible rfl)
    try simp only [Act.put, List.setIfInBounds_toArray, List.set_cons_zero, List.set_cons_succ]
    refine wpAnyH_take (i := 4) (oi := { dst := some 92, op := Op.move (Operand.tmp 9), type := 36, pos := "law.go:164", after := #[eG 3], guard := some (3, true) }) (v := ?_) rfl (by kernel_rfl) (by kernel_rfl) (by kernel_rfl) (fun _ _ _ h => h) (Or.inl ⟨rfl, ?_⟩) hHeld ?_
    rotate_left
    · (intro wz hSw; (try dsimp only at hSw); go_simp; try with_reducible rfl)
    try simp only [Act.put, List.setIfInBounds_toArray, List.set_cons_zero, List.set_cons_succ]
    refine wpAnyH_take (i := 6) (oi := { dst := some 94, op := Op.load 27 (Operand.tmp 14), type := 27, pos := "law.go:164", after := #[eG 3], guard := some (3, true) }) (v := ?_) rfl (by kernel_rfl) (by kernel_rfl) (by kernel_rfl) (fun _ _ _ h => h) (Or.inl ⟨rfl, ?_⟩) hHeld ?_
    rotate_left
    · (intro wz hSw; refine exec_load_has 27 (Operand.tmp 14) ?_ _ ?_ hSw.2 Try.underlying27 rfl (A.info25 _) <;> rfl)
    try simp only [Act.put, List.setIfInBounds_toArray, List.set_cons_zero, List.set_cons_succ]
    refine wpAnyH_ready (rs := [5]) (by kernel_rfl) (by simp) ?_
    refine AllReadyH.cons (o := { dst := some 93, op := Op.call { callee := Callee.value (Operand.func 15), args := #[Operand.tmp 92], argTypes := #[36] }, type := 27, pos := "law.go:164", after := #[eD 4, eC 3, eG 3], guard := some (3, true) }) rfl (fun K hK => ?_) (AllReadyH.nil)
    go_simp
    go_at_call 15
    refine (regs_live hHeld.1).mono ?_
    rintro e wd ⟨rfl, hKd⟩
    have hN := (show (fun wz => Live w4 B ⟨ws, S', 4 * (f : Int), 5, [], []⟩ wz ∧ Has g14 (A.cells S') 27 wz) _ from ⟨hHeld.1.kept hKd, hHeld.2.kept hKd⟩)
    clear hHeld
    refine hK.out _ _ hN (fun hHeld => ?_)
    clear hK K hN
    try simp only [Act.put, List.setIfInBounds_toArray, List.set_cons_zero, List.set_cons_succ]
    refine wpAnyH_take (i := 7) (oi := { dst := some 95, op := Op.binOp BinOp.eql 27 (Operand.tmp 93) (Operand.tmp 94) 27, type := 4, pos := "law.go:164", after := #[eD 5, eD 6, eG 3], guard := some (3, true) }) (v := ?_) rfl (by kernel_rfl) (by kernel_rfl) (by kernel_rfl) (fun _ _ _ h => h) (Or.inl ⟨rfl, ?_⟩) hHeld ?_
    rotate_left
    · (intro wz hSw; refine exec_eq_regs (o := { dst := some 95, op := Op.binOp BinOp.eql 27 (Operand.tmp 93) (Operand.tmp 94) 27, type := 4, pos := "law.go:164", after := #[eD 5, eD 6, eG 3], guard := some (3, true) }) (Operand.tmp 93) (Operand.tmp 94) ?_ S' ?_ ?_ <;> rfl)
    try simp only [Act.put, List.setIfInBounds_toArray, List.set_cons_zero, List.set_cons_succ]
    refine wpAnyH_take (i := 8) (oi := { dst := some 96, op := Op.pick (Operand.tmp 91) (Operand.tmp 95) (Operand.const (Value.bool false)), type := 4, pos := "law.go:164", after := #[eD 3, eD 7], guard := none }) (v := ?_) rfl (by kernel_rfl) (by kernel_rfl) (by kernel_rfl) (fun _ _ _ h => h) (Or.inl ⟨rfl, ?_⟩) hHeld ?_
    rotate_left
    · (intro wz hSw; (try dsimp only at hSw); go_simp; try with_reducible rfl)
    try simp only [Act.put, List.setIfInBounds_toArray, List.set_cons_zero, List.set_cons_succ]
    refine wpAnyH_take (i := 9) (oi := { dst := some 97, op := Op.move (Operand.tmp 96), type := 4, pos := "law.go:164", after := #[eD 8, eC 5], guard := none }) (v := ?_) rfl (by kernel_rfl) (by kernel_rfl) (by kernel_rfl) (fun _ _ _ h => h) (Or.inl ⟨rfl, ?_⟩) hHeld ?_
    rotate_left
    · (intro wz hSw; (try dsimp only at hSw); go_simp; try with_reducible rfl)
    try simp only [Act.put, List.setIfInBounds_toArray, List.set_cons_zero, List.set_cons_succ]
    refine wpAnyH_take (i := 10) (oi := { dst := some 98, op := Op.move (Operand.tmp 9), type := 36, pos := "law.go:164", after := #[eG 9], guard := some (9, true) }) (v := ?_) rfl (by kernel_rfl) (by kernel_rfl) (by kernel_rfl) (fun _ _ _ h => h) (Or.inl ⟨rfl, ?_⟩) hHeld ?_
    rotate_left
    · (intro wz hSw; (try dsimp only at hSw); go_simp; try with_reducible rfl)
    try simp only [Act.put, List.setIfInBounds_toArray, List.set_cons_zero, List.set_cons_succ]
    refine wpAnyH_take (i := 12) (oi := { dst := some 100, op := Op.move (Operand.tmp 12), type := 24, pos := "law.go:164", after := #[eG 9], guard := some (9, true) }) (v := ?_) rfl (by kernel_rfl) (by kernel_rfl) (by kernel_rfl) (fun _ _ _ h => h) (Or.inl ⟨rfl, ?_⟩) hHeld ?_
    rotate_left
    · (intro wz hSw; (try dsimp only at hSw); go_simp; try with_reducible rfl)
    try simp only [Act.put, List.setIfInBounds_toArray, List.set_cons_zero, List.set_cons_succ]
    refine wpAnyH_ready (rs := [11]) (by kernel_rfl) (by simp) ?_
    refine AllReadyH.cons (o := { dst := some 99, op := Op.call { callee := Callee.value (Operand.func 16), args := #[Operand.tmp 98], argTypes := #[36] }, type := 24, pos := "law.go:164", after := #[eD 10, eC 9, eG 9], guard := some (9, true) }) rfl (fun K hK => ?_) (AllReadyH.nil)
    go_simp
    go_at_call 16
    refine (pc_live hHeld.1).mono ?_
    rintro e we ⟨rfl, rfl⟩
    have hN := (show (fun wz => Live w4 B ⟨ws, S', 4 * (f : Int), 5, [], []⟩ wz ∧ Has g14 (A.cells S') 27 wz) _ from hHeld)
    clear hHeld
    refine hK.out _ _ hN (fun hHeld => ?_)
    clear hK K hN
    try simp only [Act.put, List.setIfInBounds_toArray, List.set_cons_zero, List.set_cons_succ]
    refine wpAnyH_take (i := 13) (oi := { dst := some 101, op := Op.binOp BinOp.eql 24 (Operand.tmp 99) (Operand.tmp 100) 24, type := 4, pos := "law.go:164", after := #[eD 11, eD 12, eG 9], guard := some (9, true) }) (v := ?_) rfl (by kernel_rfl) (by kernel_rfl) (by kernel_rfl) (fun _ _ _ h => h) (Or.inl ⟨rfl, ?_⟩) hHeld ?_
    rotate_left
    · (intro wz hSw; (try dsimp only at hSw); go_simp; try with_reducible rfl)
    try simp only [Act.put, List.setIfInBounds_toArray, List.set_cons_zero, List.set_cons_succ]
    refine wpAnyH_take (i := 14) (oi := { dst := some 102, op := Op.pick (Operand.tmp 97) (Operand.tmp 101) (Operand.const (Value.bool false)), type := 4, pos := "law.go:164", after := #[eD 9, eD 13], guard := none }) (v := ?_) rfl (by kernel_rfl) (by kernel_rfl) (by kernel_rfl) (fun _ _ _ h => h) (Or.inl ⟨rfl, ?_⟩) hHeld ?_
    rotate_left
    · (intro wz hSw; (try dsimp only at hSw); go_simp; try with_reducible rfl)
    try simp only [Act.put, List.setIfInBounds_toArray, List.set_cons_zero, List.set_cons_succ]
    refine wpAnyH_take (i := 15) (oi := { dst := some 4, op := Op.assign (Operand.tmp 102), type := 4, pos := "law.go:164", after := #[eD 14, eC 11, eP 0, eP 1, eP 2, eP 3, eP 4, eP 5, eP 6, eP 7, eP 8, eP 9, eP 10, eP 11, eP 12, eP 13, eP 14], guard := none }) (v := ?_) rfl (by kernel_rfl) (by kernel_rfl) (by kernel_rfl) (fun _ _ _ h => h) (Or.inl ⟨rfl, ?_⟩) hHeld ?_
    rotate_left
    · (intro wz hSw; (try dsimp only at hSw); go_simp; try with_reducible rfl)
    try simp only [Act.put, List.setIfInBounds_toArray, List.set_cons_zero, List.set_cons_succ]
    refine wpAnyH_done (by kernel_rfl) ?_ _
    have hbf := Lib.hid (hb3.out.trans (hHeld.1.below.mono hb3.out.size))
    clear hHeld
    go_wp2
    go_ret
    exact ⟨rfl, hbf.out⟩
end Go.Proofs.Ytlmddkciamdldaa
