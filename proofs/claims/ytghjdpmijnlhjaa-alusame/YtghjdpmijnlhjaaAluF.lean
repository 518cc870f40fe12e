/-
  The walk of the law AluSame.
-/
import Derived.Test.YtghjdpmijnlhjaaAluE
namespace Go.Proofs.Ytghjdpmijnlhjaa
open Go.RowKit
set_option linter.unusedVariables false
set_option linter.unusedSimpArgs false
set_option maxRecDepth 100000 in
set_option maxHeartbeats 2000000 in
theorem walk_Same_a (s S T : A.Regs) (k0 k1 k2 k3 n O a b c M q : Int) (x0 : 0 ≤ k0) (y0 : k0 ≤ 255) (x1 : 0 ≤ k1) (y1 : k1 ≤ 255) (x2 : 0 ≤ k2) (y2 : k2 ≤ 255) (x3 : 0 ≤ k3) (y3 : k3 ≤ 255) (n0 : -2147483648 ≤ n) (n1 : n ≤ 2147483647)
    (hO : k0 % 12 = O) (ha : bits .and .u8 k1 15 = a) (hb : bits .and .u8 k2 15 = b) (hc : bits .and .u8 k3 15 = c) (hM : bits .and .i64 n 131071 = M) (O0 : 0 ≤ O) (O1 : O < 12) (a0 : 0 ≤ a) (a1 : a < 16) (b0 : 0 ≤ b) (b1 : b < 16) (c0 : 0 ≤ c) (c1 : c < 16) (M0 : 0 ≤ M) (M1 : M ≤ 131071)
    (hSS : A.set s c.toNat ((M - 65536) % 4294967296) = S) (t1 : b = c) (t2 : O = 0) (w : World)
    (C1 : Hid (∀ w, Calls Try.prog 11 #[.agg (A.cells (S)), .agg #[.int .i64 1, .int .i64 0, .int .i64 a, .int .i64 0, .int .i64 c, .int .i64 0, .bool false]] w fun e w' => e = .returned (.tuple #[.agg (A.cells (T)), .int .i64 q]) ∧ Kept w w'))
    (C2 : Hid (∀ w, Calls Try.prog 11 #[.agg (A.cells (S)), .agg #[.int .i64 2, .int .i64 0, .int .i64 a, .int .i64 0, .int .i64 0, .int .i64 (M - 65536), .bool false]] w fun e w' => e = .returned (.tuple #[.agg (A.cells (T)), .int .i64 q]) ∧ Kept w w')) :
    Calls Try.prog 5 #[.agg (A.cells s), .agg #[.int .u8 k0, .int .u8 k1, .int .u8 k2, .int .u8 k3], .int .i32 n] w fun e w' => e = .returned (.bool true) ∧ Below w.heap.size w w' := by
  go_enter Try.func5, Try.ntmps5
  go_wp2_with fail
  refine (shown_any _).mono ?_; rintro e w1 ⟨rfl, hK1⟩
  have hS := ((Has.new (A.cells s) 25 w).alloc _).kept hK1
  have hA := (Has.new1 (#[.int .u8 k0, .int .u8 k1, .int .u8 k2, .int .u8 k3]) 36 w _).kept hK1
  have hK := (((Kept.refl w).alloc _ _).alloc _ _).trans hK1
  clear hK1
  skip
  replace hS := Lib.hid hS
  replace hA := Lib.hid hA
  replace hK := Lib.hid hK
  generalize hBe : w.heap.size = B at hS hA ⊢
  have hB : w.heap.size ≤ B := by omega
  clear hBe
  have q0 := hA.out.cell 0 _ rfl
  have q1 := hA.out.cell 1 _ rfl
  have q2 := hA.out.cell 2 _ rfl
  have q3 := hA.out.cell 3 _ rfl
  have qc := hS.out.cell c.toNat _ (A.cell_r s c.toNat (by omega))
  have fc := hS.out.free c.toNat
  go_upto_region 12 with (fail)
  clear q0 q1 q2 q3 qc fc hA
  replace hS := hS.out.set c.toNat (.int .u32 ((M - 65536) % 4294967296))
  rw [A.set_r s c.toNat (by omega)] at hS
  replace hK := hK.out.setCell (p := ⟨B, c.toNat, none⟩) (by show w.heap.size ≤ B; exact hB) (.int .u32 ((M - 65536) % 4294967296))
  generalize World.setCell _ _ _ = w2 at *
  rw [hSS] at hS
  replace hS := Lib.hid hS
  replace hK := Lib.hid hK
  go_wp2_with (first
    | (with_reducible refine load_has (o := ⟨some 52, _, _, _, _, _⟩) rfl 25 _ rfl _ rfl hS.out Try.underlying25 rfl (A.info25 _) ?_))
  refine (C1.out _).mono ?_; rintro e w3 ⟨rfl, hK3⟩
  replace hS := Lib.hid (hS.out.kept hK3)
  replace hK := Lib.hid (hK.out.trans hK3)
  clear hK3
  go_upto_region 13 with (first
    | (with_reducible refine store_last (o := ⟨none, Op.store 25 (.tmp 13) _, _, _, _, _⟩) rfl 25 _ _ rfl _ _ rfl rfl rfl (A.info25 _) (by kernel_rfl) (A.one_cells _) ?_))
  replace hS := Lib.hid (hS.out.alloc (.cells (A.cells (T)) 25))
  replace hK := Lib.hid (hK.out.alloc (A.cells (T)) 25)
  have hX := Lib.hid (Has.new (A.cells (T)) 25 w3)
  generalize w3.heap.size = B13 at *
  generalize World.alloc w3 _ = w4 at *
  go_wp2_with (first
    | (with_reducible refine load_has (o := ⟨some 62, _, _, _, _, _⟩) rfl 25 _ rfl _ rfl hS.out Try.underlying25 rfl (A.info25 _) ?_))
  refine (C2.out _).mono ?_; rintro e w5 ⟨rfl, hK3⟩
  replace hS := Lib.hid (hS.out.kept hK3)
  replace hX := Lib.hid (hX.out.kept hK3)
  replace hK := Lib.hid (hK.out.trans hK3)
  clear hK3
  go_upto_region 14 with (first
    | (with_reducible refine store_last (o := ⟨none, Op.store 25 (.tmp 15) _, _, _, _, _⟩) rfl 25 _ _ rfl _ _ rfl rfl rfl (A.info25 _) (by kernel_rfl) (A.one_cells _) ?_))
  replace hS := Lib.hid (hS.out.alloc (.cells (A.cells (T)) 25))
  replace hX := Lib.hid (hX.out.alloc (.cells (A.cells (T)) 25))
  replace hK := Lib.hid (hK.out.alloc (A.cells (T)) 25)
  have hY := Lib.hid (Has.new (A.cells (T)) 25 w5)
  generalize w5.heap.size = B15 at *
  generalize World.alloc w5 _ = w6 at *
  go_wp2_with (first
    | (refine want_exec (o := ⟨some 73, _, _, _, _, _⟩) rfl (exec_load_has 25 (.tmp 13) rfl _ rfl hX.out Try.underlying25 rfl (A.info25 _)) ?_)
    | (refine want_exec (o := ⟨some 74, _, _, _, _, _⟩) rfl (exec_load_has 25 (.tmp 15) rfl _ rfl hY.out Try.underlying25 rfl (A.info25 _)) ?_)
    | (refine want_exec (o := ⟨some 75, _, _, _, _, _⟩) rfl (exec_eq_regs (.tmp 73) (.tmp 74) rfl T rfl rfl) ?_))
  go_ret
  exact yesB (by simp) hK.out
set_option maxRecDepth 100000 in
set_option maxHeartbeats 2000000 in
theorem walk_Same_b (s S T : A.Regs) (k0 k1 k2 k3 n O a b c M q : Int) (x0 : 0 ≤ k0) (y0 : k0 ≤ 255) (x1 : 0 ≤ k1) (y1 : k1 ≤ 255) (x2 : 0 ≤ k2) (y2 : k2 ≤ 255) (x3 : 0 ≤ k3) (y3 : k3 ≤ 255) (n0 : -2147483648 ≤ n) (n1 : n ≤ 2147483647)
    (hO : k0 % 12 = O) (ha : bits .and .u8 k1 15 = a) (hb : bits .and .u8 k2 15 = b) (hc : bits .and .u8 k3 15 = c) (hM : bits .and .i64 n 131071 = M) (O0 : 0 ≤ O) (O1 : O < 12) (a0 : 0 ≤ a) (a1 : a < 16) (b0 : 0 ≤ b) (b1 : b < 16) (c0 : 0 ≤ c) (c1 : c < 16) (M0 : 0 ≤ M) (M1 : M ≤ 131071)
    (hSS : A.set s c.toNat ((M - 65536) % 4294967296) = S) (t1 : ¬ b = c) (t1' : (b == c) = false) (t2 : O = 0) (w : World)
    (C1 : Hid (∀ w, Calls Try.prog 11 #[.agg (A.cells (S)), .agg #[.int .i64 1, .int .i64 0, .int .i64 a, .int .i64 0, .int .i64 c, .int .i64 0, .bool false]] w fun e w' => e = .returned (.tuple #[.agg (A.cells (T)), .int .i64 q]) ∧ Kept w w'))
    (C2 : Hid (∀ w, Calls Try.prog 11 #[.agg (A.cells (S)), .agg #[.int .i64 2, .int .i64 0, .int .i64 a, .int .i64 0, .int .i64 0, .int .i64 (M - 65536), .bool false]] w fun e w' => e = .returned (.tuple #[.agg (A.cells (T)), .int .i64 q]) ∧ Kept w w')) :
    Calls Try.prog 5 #[.agg (A.cells s), .agg #[.int .u8 k0, .int .u8 k1, .int .u8 k2, .int .u8 k3], .int .i32 n] w fun e w' => e = .returned (.bool true) ∧ Below w.heap.size w w' := by
  go_enter Try.func5, Try.ntmps5
  go_wp2_with fail
  refine (shown_any _).mono ?_; rintro e w1 ⟨rfl, hK1⟩
  have hS := ((Has.new (A.cells s) 25 w).alloc _).kept hK1
  have hA := (Has.new1 (#[.int .u8 k0, .int .u8 k1, .int .u8 k2, .int .u8 k3]) 36 w _).kept hK1
  have hK := (((Kept.refl w).alloc _ _).alloc _ _).trans hK1
  clear hK1
  skip
  replace hS := Lib.hid hS
  replace hA := Lib.hid hA
  replace hK := Lib.hid hK
  generalize hBe : w.heap.size = B at hS hA ⊢
  have hB : w.heap.size ≤ B := by omega
  clear hBe
  have q0 := hA.out.cell 0 _ rfl
  have q1 := hA.out.cell 1 _ rfl
  have q2 := hA.out.cell 2 _ rfl
  have q3 := hA.out.cell 3 _ rfl
  have qc := hS.out.cell c.toNat _ (A.cell_r s c.toNat (by omega))
  have fc := hS.out.free c.toNat
  go_upto_region 12 with (fail)
  clear q0 q1 q2 q3 qc fc hA
  replace hS := hS.out.set c.toNat (.int .u32 ((M - 65536) % 4294967296))
  rw [A.set_r s c.toNat (by omega)] at hS
  replace hK := hK.out.setCell (p := ⟨B, c.toNat, none⟩) (by show w.heap.size ≤ B; exact hB) (.int .u32 ((M - 65536) % 4294967296))
  generalize World.setCell _ _ _ = w2 at *
  rw [hSS] at hS
  replace hS := Lib.hid hS
  replace hK := Lib.hid hK
  go_wp2_with (first
    | (with_reducible refine load_has (o := ⟨some 52, _, _, _, _, _⟩) rfl 25 _ rfl _ rfl hS.out Try.underlying25 rfl (A.info25 _) ?_))
  refine (C1.out _).mono ?_; rintro e w3 ⟨rfl, hK3⟩
  replace hS := Lib.hid (hS.out.kept hK3)
  replace hK := Lib.hid (hK.out.trans hK3)
  clear hK3
  go_upto_region 13 with (first
    | (with_reducible refine store_last (o := ⟨none, Op.store 25 (.tmp 13) _, _, _, _, _⟩) rfl 25 _ _ rfl _ _ rfl rfl rfl (A.info25 _) (by kernel_rfl) (A.one_cells _) ?_))
  replace hS := Lib.hid (hS.out.alloc (.cells (A.cells (T)) 25))
  replace hK := Lib.hid (hK.out.alloc (A.cells (T)) 25)
  have hX := Lib.hid (Has.new (A.cells (T)) 25 w3)
  generalize w3.heap.size = B13 at *
  generalize World.alloc w3 _ = w4 at *
  go_wp2_with (first
    | (with_reducible refine load_has (o := ⟨some 62, _, _, _, _, _⟩) rfl 25 _ rfl _ rfl hS.out Try.underlying25 rfl (A.info25 _) ?_))
  refine (C2.out _).mono ?_; rintro e w5 ⟨rfl, hK3⟩
  replace hS := Lib.hid (hS.out.kept hK3)
  replace hX := Lib.hid (hX.out.kept hK3)
  replace hK := Lib.hid (hK.out.trans hK3)
  clear hK3
  go_upto_region 14 with (first
    | (with_reducible refine store_last (o := ⟨none, Op.store 25 (.tmp 15) _, _, _, _, _⟩) rfl 25 _ _ rfl _ _ rfl rfl rfl (A.info25 _) (by kernel_rfl) (A.one_cells _) ?_))
  replace hS := Lib.hid (hS.out.alloc (.cells (A.cells (T)) 25))
  replace hX := Lib.hid (hX.out.alloc (.cells (A.cells (T)) 25))
  replace hK := Lib.hid (hK.out.alloc (A.cells (T)) 25)
  have hY := Lib.hid (Has.new (A.cells (T)) 25 w5)
  generalize w5.heap.size = B15 at *
  generalize World.alloc w5 _ = w6 at *
  go_wp2_with (first
    | (refine want_exec (o := ⟨some 73, _, _, _, _, _⟩) rfl (exec_load_has 25 (.tmp 13) rfl _ rfl hX.out Try.underlying25 rfl (A.info25 _)) ?_)
    | (refine want_exec (o := ⟨some 74, _, _, _, _, _⟩) rfl (exec_load_has 25 (.tmp 15) rfl _ rfl hY.out Try.underlying25 rfl (A.info25 _)) ?_)
    | (refine want_exec (o := ⟨some 75, _, _, _, _, _⟩) rfl (exec_eq_regs (.tmp 73) (.tmp 74) rfl T rfl rfl) ?_))
  go_ret
  exact yesB (by simp) hK.out
set_option maxRecDepth 100000 in
set_option maxHeartbeats 2000000 in
theorem walk_Same_c (s S T : A.Regs) (k0 k1 k2 k3 n O a b c M q : Int) (x0 : 0 ≤ k0) (y0 : k0 ≤ 255) (x1 : 0 ≤ k1) (y1 : k1 ≤ 255) (x2 : 0 ≤ k2) (y2 : k2 ≤ 255) (x3 : 0 ≤ k3) (y3 : k3 ≤ 255) (n0 : -2147483648 ≤ n) (n1 : n ≤ 2147483647)
    (hO : k0 % 12 = O) (ha : bits .and .u8 k1 15 = a) (hb : bits .and .u8 k2 15 = b) (hc : bits .and .u8 k3 15 = c) (hM : bits .and .i64 n 131071 = M) (O0 : 0 ≤ O) (O1 : O < 12) (a0 : 0 ≤ a) (a1 : a < 16) (b0 : 0 ≤ b) (b1 : b < 16) (c0 : 0 ≤ c) (c1 : c < 16) (M0 : 0 ≤ M) (M1 : M ≤ 131071)
    (hSS : A.set s c.toNat ((M - 65536) % 4294967296) = S) (t1 : b = c) (t2 : ¬ O = 0) (t2' : (O == 0) = false) (w : World)
    (C1 : Hid (∀ w, Calls Try.prog 11 #[.agg (A.cells (S)), .agg #[.int .i64 1, .int .i64 O, .int .i64 a, .int .i64 ((c + 1) % 16), .int .i64 c, .int .i64 0, .bool false]] w fun e w' => e = .returned (.tuple #[.agg (A.cells (T)), .int .i64 q]) ∧ Kept w w'))
    (C2 : Hid (∀ w, Calls Try.prog 11 #[.agg (A.cells (S)), .agg #[.int .i64 2, .int .i64 O, .int .i64 a, .int .i64 ((c + 1) % 16), .int .i64 0, .int .i64 (M - 65536), .bool false]] w fun e w' => e = .returned (.tuple #[.agg (A.cells (T)), .int .i64 q]) ∧ Kept w w')) :
    Calls Try.prog 5 #[.agg (A.cells s), .agg #[.int .u8 k0, .int .u8 k1, .int .u8 k2, .int .u8 k3], .int .i32 n] w fun e w' => e = .returned (.bool true) ∧ Below w.heap.size w w' := by
  go_enter Try.func5, Try.ntmps5
  go_wp2_with fail
  refine (shown_any _).mono ?_; rintro e w1 ⟨rfl, hK1⟩
  have hS := ((Has.new (A.cells s) 25 w).alloc _).kept hK1
  have hA := (Has.new1 (#[.int .u8 k0, .int .u8 k1, .int .u8 k2, .int .u8 k3]) 36 w _).kept hK1
  have hK := (((Kept.refl w).alloc _ _).alloc _ _).trans hK1
  clear hK1
  skip
  replace hS := Lib.hid hS
  replace hA := Lib.hid hA
  replace hK := Lib.hid hK
  generalize hBe : w.heap.size = B at hS hA ⊢
  have hB : w.heap.size ≤ B := by omega
  clear hBe
  have q0 := hA.out.cell 0 _ rfl
  have q1 := hA.out.cell 1 _ rfl
  have q2 := hA.out.cell 2 _ rfl
  have q3 := hA.out.cell 3 _ rfl
  have qc := hS.out.cell c.toNat _ (A.cell_r s c.toNat (by omega))
  have fc := hS.out.free c.toNat
  go_upto_region 12 with (fail)
  clear q0 q1 q2 q3 qc fc hA
  replace hS := hS.out.set c.toNat (.int .u32 ((M - 65536) % 4294967296))
  rw [A.set_r s c.toNat (by omega)] at hS
  replace hK := hK.out.setCell (p := ⟨B, c.toNat, none⟩) (by show w.heap.size ≤ B; exact hB) (.int .u32 ((M - 65536) % 4294967296))
  generalize World.setCell _ _ _ = w2 at *
  rw [hSS] at hS
  replace hS := Lib.hid hS
  replace hK := Lib.hid hK
  go_wp2_with (first
    | (with_reducible refine load_has (o := ⟨some 52, _, _, _, _, _⟩) rfl 25 _ rfl _ rfl hS.out Try.underlying25 rfl (A.info25 _) ?_))
  refine (C1.out _).mono ?_; rintro e w3 ⟨rfl, hK3⟩
  replace hS := Lib.hid (hS.out.kept hK3)
  replace hK := Lib.hid (hK.out.trans hK3)
  clear hK3
  go_upto_region 13 with (first
    | (with_reducible refine store_last (o := ⟨none, Op.store 25 (.tmp 13) _, _, _, _, _⟩) rfl 25 _ _ rfl _ _ rfl rfl rfl (A.info25 _) (by kernel_rfl) (A.one_cells _) ?_))
  replace hS := Lib.hid (hS.out.alloc (.cells (A.cells (T)) 25))
  replace hK := Lib.hid (hK.out.alloc (A.cells (T)) 25)
  have hX := Lib.hid (Has.new (A.cells (T)) 25 w3)
  generalize w3.heap.size = B13 at *
  generalize World.alloc w3 _ = w4 at *
  go_wp2_with (first
    | (with_reducible refine load_has (o := ⟨some 62, _, _, _, _, _⟩) rfl 25 _ rfl _ rfl hS.out Try.underlying25 rfl (A.info25 _) ?_))
  refine (C2.out _).mono ?_; rintro e w5 ⟨rfl, hK3⟩
  replace hS := Lib.hid (hS.out.kept hK3)
  replace hX := Lib.hid (hX.out.kept hK3)
  replace hK := Lib.hid (hK.out.trans hK3)
  clear hK3
  go_upto_region 14 with (first
    | (with_reducible refine store_last (o := ⟨none, Op.store 25 (.tmp 15) _, _, _, _, _⟩) rfl 25 _ _ rfl _ _ rfl rfl rfl (A.info25 _) (by kernel_rfl) (A.one_cells _) ?_))
  replace hS := Lib.hid (hS.out.alloc (.cells (A.cells (T)) 25))
  replace hX := Lib.hid (hX.out.alloc (.cells (A.cells (T)) 25))
  replace hK := Lib.hid (hK.out.alloc (A.cells (T)) 25)
  have hY := Lib.hid (Has.new (A.cells (T)) 25 w5)
  generalize w5.heap.size = B15 at *
  generalize World.alloc w5 _ = w6 at *
  go_wp2_with (first
    | (refine want_exec (o := ⟨some 73, _, _, _, _, _⟩) rfl (exec_load_has 25 (.tmp 13) rfl _ rfl hX.out Try.underlying25 rfl (A.info25 _)) ?_)
    | (refine want_exec (o := ⟨some 74, _, _, _, _, _⟩) rfl (exec_load_has 25 (.tmp 15) rfl _ rfl hY.out Try.underlying25 rfl (A.info25 _)) ?_)
    | (refine want_exec (o := ⟨some 75, _, _, _, _, _⟩) rfl (exec_eq_regs (.tmp 73) (.tmp 74) rfl T rfl rfl) ?_))
  go_ret
  exact yesB (by simp) hK.out
set_option maxRecDepth 100000 in
set_option maxHeartbeats 2000000 in
theorem walk_Same_d (s S T : A.Regs) (k0 k1 k2 k3 n O a b c M q : Int) (x0 : 0 ≤ k0) (y0 : k0 ≤ 255) (x1 : 0 ≤ k1) (y1 : k1 ≤ 255) (x2 : 0 ≤ k2) (y2 : k2 ≤ 255) (x3 : 0 ≤ k3) (y3 : k3 ≤ 255) (n0 : -2147483648 ≤ n) (n1 : n ≤ 2147483647)
    (hO : k0 % 12 = O) (ha : bits .and .u8 k1 15 = a) (hb : bits .and .u8 k2 15 = b) (hc : bits .and .u8 k3 15 = c) (hM : bits .and .i64 n 131071 = M) (O0 : 0 ≤ O) (O1 : O < 12) (a0 : 0 ≤ a) (a1 : a < 16) (b0 : 0 ≤ b) (b1 : b < 16) (c0 : 0 ≤ c) (c1 : c < 16) (M0 : 0 ≤ M) (M1 : M ≤ 131071)
    (hSS : A.set s c.toNat ((M - 65536) % 4294967296) = S) (t1 : ¬ b = c) (t1' : (b == c) = false) (t2 : ¬ O = 0) (t2' : (O == 0) = false) (w : World)
    (C1 : Hid (∀ w, Calls Try.prog 11 #[.agg (A.cells (S)), .agg #[.int .i64 1, .int .i64 O, .int .i64 a, .int .i64 b, .int .i64 c, .int .i64 0, .bool false]] w fun e w' => e = .returned (.tuple #[.agg (A.cells (T)), .int .i64 q]) ∧ Kept w w'))
    (C2 : Hid (∀ w, Calls Try.prog 11 #[.agg (A.cells (S)), .agg #[.int .i64 2, .int .i64 O, .int .i64 a, .int .i64 b, .int .i64 0, .int .i64 (M - 65536), .bool false]] w fun e w' => e = .returned (.tuple #[.agg (A.cells (T)), .int .i64 q]) ∧ Kept w w')) :
    Calls Try.prog 5 #[.agg (A.cells s), .agg #[.int .u8 k0, .int .u8 k1, .int .u8 k2, .int .u8 k3], .int .i32 n] w fun e w' => e = .returned (.bool true) ∧ Below w.heap.size w w' := by
  go_enter Try.func5, Try.ntmps5
  go_wp2_with fail
  refine (shown_any _).mono ?_; rintro e w1 ⟨rfl, hK1⟩
  have hS := ((Has.new (A.cells s) 25 w).alloc _).kept hK1
  have hA := (Has.new1 (#[.int .u8 k0, .int .u8 k1, .int .u8 k2, .int .u8 k3]) 36 w _).kept hK1
  have hK := (((Kept.refl w).alloc _ _).alloc _ _).trans hK1
  clear hK1
  skip
  replace hS := Lib.hid hS
  replace hA := Lib.hid hA
  replace hK := Lib.hid hK
  generalize hBe : w.heap.size = B at hS hA ⊢
  have hB : w.heap.size ≤ B := by omega
  clear hBe
  have q0 := hA.out.cell 0 _ rfl
  have q1 := hA.out.cell 1 _ rfl
  have q2 := hA.out.cell 2 _ rfl
  have q3 := hA.out.cell 3 _ rfl
  have qc := hS.out.cell c.toNat _ (A.cell_r s c.toNat (by omega))
  have fc := hS.out.free c.toNat
  go_upto_region 12 with (fail)
  clear q0 q1 q2 q3 qc fc hA
  replace hS := hS.out.set c.toNat (.int .u32 ((M - 65536) % 4294967296))
  rw [A.set_r s c.toNat (by omega)] at hS
  replace hK := hK.out.setCell (p := ⟨B, c.toNat, none⟩) (by show w.heap.size ≤ B; exact hB) (.int .u32 ((M - 65536) % 4294967296))
  generalize World.setCell _ _ _ = w2 at *
  rw [hSS] at hS
  replace hS := Lib.hid hS
  replace hK := Lib.hid hK
  go_wp2_with (first
    | (with_reducible refine load_has (o := ⟨some 52, _, _, _, _, _⟩) rfl 25 _ rfl _ rfl hS.out Try.underlying25 rfl (A.info25 _) ?_))
  refine (C1.out _).mono ?_; rintro e w3 ⟨rfl, hK3⟩
  replace hS := Lib.hid (hS.out.kept hK3)
  replace hK := Lib.hid (hK.out.trans hK3)
  clear hK3
  go_upto_region 13 with (first
    | (with_reducible refine store_last (o := ⟨none, Op.store 25 (.tmp 13) _, _, _, _, _⟩) rfl 25 _ _ rfl _ _ rfl rfl rfl (A.info25 _) (by kernel_rfl) (A.one_cells _) ?_))
  replace hS := Lib.hid (hS.out.alloc (.cells (A.cells (T)) 25))
  replace hK := Lib.hid (hK.out.alloc (A.cells (T)) 25)
  have hX := Lib.hid (Has.new (A.cells (T)) 25 w3)
  generalize w3.heap.size = B13 at *
  generalize World.alloc w3 _ = w4 at *
  go_wp2_with (first
    | (with_reducible refine load_has (o := ⟨some 62, _, _, _, _, _⟩) rfl 25 _ rfl _ rfl hS.out Try.underlying25 rfl (A.info25 _) ?_))
  refine (C2.out _).mono ?_; rintro e w5 ⟨rfl, hK3⟩
  replace hS := Lib.hid (hS.out.kept hK3)
  replace hX := Lib.hid (hX.out.kept hK3)
  replace hK := Lib.hid (hK.out.trans hK3)
  clear hK3
  go_upto_region 14 with (first
    | (with_reducible refine store_last (o := ⟨none, Op.store 25 (.tmp 15) _, _, _, _, _⟩) rfl 25 _ _ rfl _ _ rfl rfl rfl (A.info25 _) (by kernel_rfl) (A.one_cells _) ?_))
  replace hS := Lib.hid (hS.out.alloc (.cells (A.cells (T)) 25))
  replace hX := Lib.hid (hX.out.alloc (.cells (A.cells (T)) 25))
  replace hK := Lib.hid (hK.out.alloc (A.cells (T)) 25)
  have hY := Lib.hid (Has.new (A.cells (T)) 25 w5)
  generalize w5.heap.size = B15 at *
  generalize World.alloc w5 _ = w6 at *
  go_wp2_with (first
    | (refine want_exec (o := ⟨some 73, _, _, _, _, _⟩) rfl (exec_load_has 25 (.tmp 13) rfl _ rfl hX.out Try.underlying25 rfl (A.info25 _)) ?_)
    | (refine want_exec (o := ⟨some 74, _, _, _, _, _⟩) rfl (exec_load_has 25 (.tmp 15) rfl _ rfl hY.out Try.underlying25 rfl (A.info25 _)) ?_)
    | (refine want_exec (o := ⟨some 75, _, _, _, _, _⟩) rfl (exec_eq_regs (.tmp 73) (.tmp 74) rfl T rfl rfl) ?_))
  go_ret
  exact yesB (by simp) hK.out
theorem A.run_same (S : A.Regs) (O a b c v : Int) (hS : S.r c.toNat = v % 4294967296) (O0 : 0 ≤ O) (O1 : O < 12) (a0 : 0 ≤ a) (a1 : a < 16) (b0 : 0 ≤ b) (b1 : b < 16) (hb : O = 0 → b = 0) (c0 : 0 ≤ c) (c1 : c < 16) (v0 : -65536 ≤ v) (v1 : v ≤ 65535) :
    A.run S ⟨1, O, a, b, c, 0, false⟩ = A.run S ⟨2, O, a, b, 0, v, false⟩ := by
  have m1 : I.May ⟨1, O, a, b, c, 0, false⟩ := by unfold I.May; simp; omega
  have m2 : I.May ⟨2, O, a, b, 0, v, false⟩ := by unfold I.May; simp; omega
  have hn : A.num S ⟨1, O, a, b, c, 0, false⟩ = A.num S ⟨2, O, a, b, 0, v, false⟩ := by unfold A.num; simp [hS]
  have hr : A.res S ⟨1, O, a, b, c, 0, false⟩ = A.res S ⟨2, O, a, b, 0, v, false⟩ := by rw [A.res_1, A.res_2, hS]
  have ht : A.Traps S ⟨1, O, a, b, c, 0, false⟩ ↔ A.Traps S ⟨2, O, a, b, 0, v, false⟩ := by unfold A.Traps; rw [hn]; simp
  by_cases h : A.Traps S ⟨1, O, a, b, c, 0, false⟩
  · rw [A.run_trap S _ m1 h, A.run_trap S _ m2 (ht.1 h)]
  · rw [A.run_yes S _ m1 (Or.inl rfl) h, A.run_yes S _ m2 (Or.inr (Or.inl rfl)) (fun h' => h (ht.2 h'))]
    unfold A.done
    rw [hr]
theorem walk_Same (s : A.Regs) (k0 k1 k2 k3 n : Int) (hs : A.Ok s) (x0 : 0 ≤ k0) (y0 : k0 ≤ 255) (x1 : 0 ≤ k1) (y1 : k1 ≤ 255) (x2 : 0 ≤ k2) (y2 : k2 ≤ 255) (x3 : 0 ≤ k3) (y3 : k3 ≤ 255) (n0 : -2147483648 ≤ n) (n1 : n ≤ 2147483647) (w : World) :
    Calls Try.prog 5 #[.agg (A.cells s), .agg #[.int .u8 k0, .int .u8 k1, .int .u8 k2, .int .u8 k3], .int .i32 n] w fun e w' => e = .returned (.bool true) ∧ Below w.heap.size w w' := by
  obtain ⟨O, hO⟩ : ∃ r, k0 % 12 = r := ⟨_, rfl⟩
  obtain ⟨a, ha⟩ : ∃ r, bits .and .u8 k1 15 = r := ⟨_, rfl⟩
  obtain ⟨b, hb⟩ : ∃ r, bits .and .u8 k2 15 = r := ⟨_, rfl⟩
  obtain ⟨c, hc⟩ : ∃ r, bits .and .u8 k3 15 = r := ⟨_, rfl⟩
  obtain ⟨M, hM⟩ : ∃ r, bits .and .i64 n 131071 = r := ⟨_, rfl⟩
  have o0 : 0 ≤ O ∧ O < 12 := by omega
  have a0 : 0 ≤ a ∧ a < 16 := by rw [← ha, u8_and_4 k1 x1 y1]; omega
  have b0 : 0 ≤ b ∧ b < 16 := by rw [← hb, u8_and_4 k2 x2 y2]; omega
  have c0 : 0 ≤ c ∧ c < 16 := by rw [← hc, u8_and_4 k3 x3 y3]; omega
  have M0 : 0 ≤ M ∧ M ≤ 131071 := by rw [← hM, i32_and_17]; omega
  obtain ⟨S, hSS⟩ : ∃ S, A.set s c.toNat ((M - 65536) % 4294967296) = S := ⟨_, rfl⟩
  have hS : A.Ok S := by rw [← hSS]; exact A.ok_set _ _ _ hs (by omega) (by omega)
  have hr : S.r c.toNat = (M - 65536) % 4294967296 := by rw [← hSS]; simp [A.set]
  have D1 := fun O b => do_run S 1 O a b c 0 false hS
  have D2 := fun O b => do_run S 2 O a b 0 (M - 65536) false hS
  by_cases t2 : O = 0
  · have E := A.run_same S 0 a 0 c (M - 65536) hr (by omega) (by omega) a0.1 a0.2 (by omega) (by omega) (fun _ => rfl) c0.1 c0.2 (by omega) (by omega)
    by_cases t1 : b = c
    · exact walk_Same_a s S _ k0 k1 k2 k3 n O a b c M _ x0 y0 x1 y1 x2 y2 x3 y3 n0 n1 hO ha hb hc hM o0.1 o0.2 a0.1 a0.2 b0.1 b0.2 c0.1 c0.2 M0.1 M0.2 hSS t1 t2 w (Lib.hid (D1 0 0)) (Lib.hid (E ▸ D2 0 0))
    · exact walk_Same_b s S _ k0 k1 k2 k3 n O a b c M _ x0 y0 x1 y1 x2 y2 x3 y3 n0 n1 hO ha hb hc hM o0.1 o0.2 a0.1 a0.2 b0.1 b0.2 c0.1 c0.2 M0.1 M0.2 hSS t1 (by simpa using t1) t2 w (Lib.hid (D1 0 0)) (Lib.hid (E ▸ D2 0 0))
  · by_cases t1 : b = c
    · have E := A.run_same S O a ((c + 1) % 16) c (M - 65536) hr (by omega) (by omega) a0.1 a0.2 (by omega) (by omega) (fun h => absurd h t2) c0.1 c0.2 (by omega) (by omega)
      exact walk_Same_c s S _ k0 k1 k2 k3 n O a b c M _ x0 y0 x1 y1 x2 y2 x3 y3 n0 n1 hO ha hb hc hM o0.1 o0.2 a0.1 a0.2 b0.1 b0.2 c0.1 c0.2 M0.1 M0.2 hSS t1 t2 (by simpa using t2) w (Lib.hid (D1 O ((c + 1) % 16))) (Lib.hid (E ▸ D2 O ((c + 1) % 16)))
    · have E := A.run_same S O a b c (M - 65536) hr (by omega) (by omega) a0.1 a0.2 (by omega) (by omega) (fun h => absurd h t2) c0.1 c0.2 (by omega) (by omega)
      exact walk_Same_d s S _ k0 k1 k2 k3 n O a b c M _ x0 y0 x1 y1 x2 y2 x3 y3 n0 n1 hO ha hb hc hM o0.1 o0.2 a0.1 a0.2 b0.1 b0.2 c0.1 c0.2 M0.1 M0.2 hSS t1 (by simpa using t1) t2 (by simpa using t2) w (Lib.hid (D1 O b)) (Lib.hid (E ▸ D2 O b))
end Go.Proofs.Ytghjdpmijnlhjaa
