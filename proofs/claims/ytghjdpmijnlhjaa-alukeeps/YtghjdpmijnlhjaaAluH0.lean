/-
  The walk of the law AluKeeps: other kinds, and a trap.
-/
import Derived.Test.YtghjdpmijnlhjaaAluE
namespace Go.Proofs.Ytghjdpmijnlhjaa
open Go.RowKit
set_option linter.unusedVariables false
set_option linter.unusedSimpArgs false
set_option maxRecDepth 100000 in
set_option maxHeartbeats 2000000 in
theorem keeps_5 (s : A.Regs) (k0 op0 a0 b0 c0 i0 op a b c i : Int) (u0 u : Bool) (w : World)
    (CF : Hid (∀ w, Calls Try.prog 13 #[.agg #[.int .i64 k0, .int .i64 op0, .int .i64 a0, .int .i64 b0, .int .i64 c0, .int .i64 i0, .bool u0]] w fun e w' => e = .returned (.agg #[.int .i64 5, .int .i64 op, .int .i64 a, .int .i64 b, .int .i64 c, .int .i64 i, .bool u]) ∧ Kept w w'))
    (CD : Hid (∀ w, Calls Try.prog 11 #[.agg (A.cells s), .agg #[.int .i64 5, .int .i64 op, .int .i64 a, .int .i64 b, .int .i64 c, .int .i64 i, .bool u]] w fun e w' => e = .returned (.tuple #[.agg (A.cells s), .int .i64 0]) ∧ Kept w w')) :
    Calls Try.prog 4 #[.agg (A.cells s), .agg #[.int .i64 k0, .int .i64 op0, .int .i64 a0, .int .i64 b0, .int .i64 c0, .int .i64 i0, .bool u0]] w fun e w' => e = .returned (.bool true) ∧ Below w.heap.size w w' := by
  go_enter Try.func4, Try.ntmps4
  go_wp2_with fail
  refine (shown_any _).mono ?_; rintro e w1 ⟨rfl, hK1⟩
  have hS := ((Has.new (A.cells s) 25 w).alloc _).kept hK1
  have hJ := (Has.new1 (#[.int .i64 k0, .int .i64 op0, .int .i64 a0, .int .i64 b0, .int .i64 c0, .int .i64 i0, .bool u0]) 27 w _).kept hK1
  have hK := (((Kept.refl w).alloc _ _).alloc _ _).trans hK1
  clear hK1
  skip
  replace hS := Lib.hid hS
  replace hJ := Lib.hid hJ
  replace hK := Lib.hid hK
  generalize hBe : w.heap.size = B at hS hJ ⊢
  have hB : w.heap.size ≤ B := by omega
  clear hBe
  go_wp2_with (first
    | (with_reducible refine load_has (o := ⟨some 13, _, _, _, _, _⟩) rfl 27 _ rfl _ rfl hJ.out Try.underlying27 rfl (by kernel_rfl) ?_))
  refine (CF.out _).mono ?_; rintro e w2 ⟨rfl, hK3⟩
  clear hJ
  replace hS := Lib.hid (hS.out.kept hK3)
  replace hK := Lib.hid (hK.out.trans hK3)
  clear hK3
  go_upto_region 3 with (first
    | (with_reducible refine store_last (o := ⟨none, Op.store 27 (.tmp 6) _, _, _, _, _⟩) rfl 27 _ _ rfl _ #[.int .i64 5, .int .i64 op, .int .i64 a, .int .i64 b, .int .i64 c, .int .i64 i, .bool u] rfl rfl rfl (by kernel_rfl) (by kernel_rfl) (by simp [Value.oneCell']) ?_))
  replace hS := Lib.hid (hS.out.alloc (.cells #[.int .i64 5, .int .i64 op, .int .i64 a, .int .i64 b, .int .i64 c, .int .i64 i, .bool u] 27))
  replace hK := Lib.hid (hK.out.alloc #[.int .i64 5, .int .i64 op, .int .i64 a, .int .i64 b, .int .i64 c, .int .i64 i, .bool u] 27)
  have hI := Lib.hid (Has.new #[.int .i64 5, .int .i64 op, .int .i64 a, .int .i64 b, .int .i64 c, .int .i64 i, .bool u] 27 w2)
  generalize w2.heap.size = B6 at *
  generalize World.alloc w2 _ = w3 at *
  go_wp2_with (first
    | (with_reducible refine load_has (o := ⟨some 16, _, _, _, _, _⟩) rfl 25 _ rfl _ rfl hS.out Try.underlying25 rfl (A.info25 _) ?_)
    | (with_reducible refine load_has (o := ⟨some 17, _, _, _, _, _⟩) rfl 27 _ rfl _ rfl hI.out Try.underlying27 rfl (by kernel_rfl) ?_))
  refine (CD.out _).mono ?_; rintro e w4 ⟨rfl, hK3⟩
  replace hS := Lib.hid (hS.out.kept hK3)
  replace hI := Lib.hid (hI.out.kept hK3)
  replace hK := Lib.hid (hK.out.trans hK3)
  clear hK3
  go_upto_region 4 with (first
    | (with_reducible refine store_last (o := ⟨none, Op.store 25 (.tmp 7) _, _, _, _, _⟩) rfl 25 _ _ rfl _ _ rfl rfl rfl (A.info25 _) (by kernel_rfl) (A.one_cells _) ?_))
  replace hS := Lib.hid (hS.out.alloc (.cells (A.cells s) 25))
  replace hI := Lib.hid (hI.out.alloc (.cells (A.cells s) 25))
  replace hK := Lib.hid (hK.out.alloc (A.cells s) 25)
  have hT := Lib.hid (Has.new (A.cells s) 25 w4)
  generalize w4.heap.size = B7 at *
  generalize World.alloc w4 _ = w5 at *
  have q0 := hI.out.cell 0 _ rfl
  have q1 := hI.out.cell 1 _ rfl
  go_wp2_with (first
    | (refine want_exec (o := ⟨some 41, _, _, _, _, _⟩) rfl (exec_load_has 25 (.tmp 7) rfl _ rfl hT.out Try.underlying25 rfl (A.info25 _)) ?_)
    | (refine want_exec (o := ⟨some 42, _, _, _, _, _⟩) rfl (exec_load_has 25 (.tmp 2) rfl _ rfl hS.out Try.underlying25 rfl (A.info25 _)) ?_)
    | (refine want_exec (o := ⟨some 43, _, _, _, _, _⟩) rfl (exec_eq_regs (.tmp 41) (.tmp 42) rfl s rfl rfl) ?_))
  go_ret
  exact yesB rfl hK.out
set_option maxRecDepth 100000 in
set_option maxHeartbeats 2000000 in
theorem keeps_6 (s : A.Regs) (k0 op0 a0 b0 c0 i0 op a b c i : Int) (u0 u : Bool) (w : World)
    (CF : Hid (∀ w, Calls Try.prog 13 #[.agg #[.int .i64 k0, .int .i64 op0, .int .i64 a0, .int .i64 b0, .int .i64 c0, .int .i64 i0, .bool u0]] w fun e w' => e = .returned (.agg #[.int .i64 6, .int .i64 op, .int .i64 a, .int .i64 b, .int .i64 c, .int .i64 i, .bool u]) ∧ Kept w w'))
    (CD : Hid (∀ w, Calls Try.prog 11 #[.agg (A.cells s), .agg #[.int .i64 6, .int .i64 op, .int .i64 a, .int .i64 b, .int .i64 c, .int .i64 i, .bool u]] w fun e w' => e = .returned (.tuple #[.agg (A.cells s), .int .i64 0]) ∧ Kept w w')) :
    Calls Try.prog 4 #[.agg (A.cells s), .agg #[.int .i64 k0, .int .i64 op0, .int .i64 a0, .int .i64 b0, .int .i64 c0, .int .i64 i0, .bool u0]] w fun e w' => e = .returned (.bool true) ∧ Below w.heap.size w w' := by
  go_enter Try.func4, Try.ntmps4
  go_wp2_with fail
  refine (shown_any _).mono ?_; rintro e w1 ⟨rfl, hK1⟩
  have hS := ((Has.new (A.cells s) 25 w).alloc _).kept hK1
  have hJ := (Has.new1 (#[.int .i64 k0, .int .i64 op0, .int .i64 a0, .int .i64 b0, .int .i64 c0, .int .i64 i0, .bool u0]) 27 w _).kept hK1
  have hK := (((Kept.refl w).alloc _ _).alloc _ _).trans hK1
  clear hK1
  skip
  replace hS := Lib.hid hS
  replace hJ := Lib.hid hJ
  replace hK := Lib.hid hK
  generalize hBe : w.heap.size = B at hS hJ ⊢
  have hB : w.heap.size ≤ B := by omega
  clear hBe
  go_wp2_with (first
    | (with_reducible refine load_has (o := ⟨some 13, _, _, _, _, _⟩) rfl 27 _ rfl _ rfl hJ.out Try.underlying27 rfl (by kernel_rfl) ?_))
  refine (CF.out _).mono ?_; rintro e w2 ⟨rfl, hK3⟩
  clear hJ
  replace hS := Lib.hid (hS.out.kept hK3)
  replace hK := Lib.hid (hK.out.trans hK3)
  clear hK3
  go_upto_region 3 with (first
    | (with_reducible refine store_last (o := ⟨none, Op.store 27 (.tmp 6) _, _, _, _, _⟩) rfl 27 _ _ rfl _ #[.int .i64 6, .int .i64 op, .int .i64 a, .int .i64 b, .int .i64 c, .int .i64 i, .bool u] rfl rfl rfl (by kernel_rfl) (by kernel_rfl) (by simp [Value.oneCell']) ?_))
  replace hS := Lib.hid (hS.out.alloc (.cells #[.int .i64 6, .int .i64 op, .int .i64 a, .int .i64 b, .int .i64 c, .int .i64 i, .bool u] 27))
  replace hK := Lib.hid (hK.out.alloc #[.int .i64 6, .int .i64 op, .int .i64 a, .int .i64 b, .int .i64 c, .int .i64 i, .bool u] 27)
  have hI := Lib.hid (Has.new #[.int .i64 6, .int .i64 op, .int .i64 a, .int .i64 b, .int .i64 c, .int .i64 i, .bool u] 27 w2)
  generalize w2.heap.size = B6 at *
  generalize World.alloc w2 _ = w3 at *
  go_wp2_with (first
    | (with_reducible refine load_has (o := ⟨some 16, _, _, _, _, _⟩) rfl 25 _ rfl _ rfl hS.out Try.underlying25 rfl (A.info25 _) ?_)
    | (with_reducible refine load_has (o := ⟨some 17, _, _, _, _, _⟩) rfl 27 _ rfl _ rfl hI.out Try.underlying27 rfl (by kernel_rfl) ?_))
  refine (CD.out _).mono ?_; rintro e w4 ⟨rfl, hK3⟩
  replace hS := Lib.hid (hS.out.kept hK3)
  replace hI := Lib.hid (hI.out.kept hK3)
  replace hK := Lib.hid (hK.out.trans hK3)
  clear hK3
  go_upto_region 4 with (first
    | (with_reducible refine store_last (o := ⟨none, Op.store 25 (.tmp 7) _, _, _, _, _⟩) rfl 25 _ _ rfl _ _ rfl rfl rfl (A.info25 _) (by kernel_rfl) (A.one_cells _) ?_))
  replace hS := Lib.hid (hS.out.alloc (.cells (A.cells s) 25))
  replace hI := Lib.hid (hI.out.alloc (.cells (A.cells s) 25))
  replace hK := Lib.hid (hK.out.alloc (A.cells s) 25)
  have hT := Lib.hid (Has.new (A.cells s) 25 w4)
  generalize w4.heap.size = B7 at *
  generalize World.alloc w4 _ = w5 at *
  have q0 := hI.out.cell 0 _ rfl
  have q1 := hI.out.cell 1 _ rfl
  go_wp2_with (first
    | (refine want_exec (o := ⟨some 41, _, _, _, _, _⟩) rfl (exec_load_has 25 (.tmp 7) rfl _ rfl hT.out Try.underlying25 rfl (A.info25 _)) ?_)
    | (refine want_exec (o := ⟨some 42, _, _, _, _, _⟩) rfl (exec_load_has 25 (.tmp 2) rfl _ rfl hS.out Try.underlying25 rfl (A.info25 _)) ?_)
    | (refine want_exec (o := ⟨some 43, _, _, _, _, _⟩) rfl (exec_eq_regs (.tmp 41) (.tmp 42) rfl s rfl rfl) ?_))
  go_ret
  exact yesB rfl hK.out
set_option maxRecDepth 100000 in
set_option maxHeartbeats 2000000 in
theorem keeps_7 (s : A.Regs) (k0 op0 a0 b0 c0 i0 op a b c i : Int) (u0 u : Bool) (w : World)
    (CF : Hid (∀ w, Calls Try.prog 13 #[.agg #[.int .i64 k0, .int .i64 op0, .int .i64 a0, .int .i64 b0, .int .i64 c0, .int .i64 i0, .bool u0]] w fun e w' => e = .returned (.agg #[.int .i64 7, .int .i64 op, .int .i64 a, .int .i64 b, .int .i64 c, .int .i64 i, .bool u]) ∧ Kept w w'))
    (CD : Hid (∀ w, Calls Try.prog 11 #[.agg (A.cells s), .agg #[.int .i64 7, .int .i64 op, .int .i64 a, .int .i64 b, .int .i64 c, .int .i64 i, .bool u]] w fun e w' => e = .returned (.tuple #[.agg (A.cells s), .int .i64 0]) ∧ Kept w w')) :
    Calls Try.prog 4 #[.agg (A.cells s), .agg #[.int .i64 k0, .int .i64 op0, .int .i64 a0, .int .i64 b0, .int .i64 c0, .int .i64 i0, .bool u0]] w fun e w' => e = .returned (.bool true) ∧ Below w.heap.size w w' := by
  go_enter Try.func4, Try.ntmps4
  go_wp2_with fail
  refine (shown_any _).mono ?_; rintro e w1 ⟨rfl, hK1⟩
  have hS := ((Has.new (A.cells s) 25 w).alloc _).kept hK1
  have hJ := (Has.new1 (#[.int .i64 k0, .int .i64 op0, .int .i64 a0, .int .i64 b0, .int .i64 c0, .int .i64 i0, .bool u0]) 27 w _).kept hK1
  have hK := (((Kept.refl w).alloc _ _).alloc _ _).trans hK1
  clear hK1
  skip
  replace hS := Lib.hid hS
  replace hJ := Lib.hid hJ
  replace hK := Lib.hid hK
  generalize hBe : w.heap.size = B at hS hJ ⊢
  have hB : w.heap.size ≤ B := by omega
  clear hBe
  go_wp2_with (first
    | (with_reducible refine load_has (o := ⟨some 13, _, _, _, _, _⟩) rfl 27 _ rfl _ rfl hJ.out Try.underlying27 rfl (by kernel_rfl) ?_))
  refine (CF.out _).mono ?_; rintro e w2 ⟨rfl, hK3⟩
  clear hJ
  replace hS := Lib.hid (hS.out.kept hK3)
  replace hK := Lib.hid (hK.out.trans hK3)
  clear hK3
  go_upto_region 3 with (first
    | (with_reducible refine store_last (o := ⟨none, Op.store 27 (.tmp 6) _, _, _, _, _⟩) rfl 27 _ _ rfl _ #[.int .i64 7, .int .i64 op, .int .i64 a, .int .i64 b, .int .i64 c, .int .i64 i, .bool u] rfl rfl rfl (by kernel_rfl) (by kernel_rfl) (by simp [Value.oneCell']) ?_))
  replace hS := Lib.hid (hS.out.alloc (.cells #[.int .i64 7, .int .i64 op, .int .i64 a, .int .i64 b, .int .i64 c, .int .i64 i, .bool u] 27))
  replace hK := Lib.hid (hK.out.alloc #[.int .i64 7, .int .i64 op, .int .i64 a, .int .i64 b, .int .i64 c, .int .i64 i, .bool u] 27)
  have hI := Lib.hid (Has.new #[.int .i64 7, .int .i64 op, .int .i64 a, .int .i64 b, .int .i64 c, .int .i64 i, .bool u] 27 w2)
  generalize w2.heap.size = B6 at *
  generalize World.alloc w2 _ = w3 at *
  go_wp2_with (first
    | (with_reducible refine load_has (o := ⟨some 16, _, _, _, _, _⟩) rfl 25 _ rfl _ rfl hS.out Try.underlying25 rfl (A.info25 _) ?_)
    | (with_reducible refine load_has (o := ⟨some 17, _, _, _, _, _⟩) rfl 27 _ rfl _ rfl hI.out Try.underlying27 rfl (by kernel_rfl) ?_))
  refine (CD.out _).mono ?_; rintro e w4 ⟨rfl, hK3⟩
  replace hS := Lib.hid (hS.out.kept hK3)
  replace hI := Lib.hid (hI.out.kept hK3)
  replace hK := Lib.hid (hK.out.trans hK3)
  clear hK3
  go_upto_region 4 with (first
    | (with_reducible refine store_last (o := ⟨none, Op.store 25 (.tmp 7) _, _, _, _, _⟩) rfl 25 _ _ rfl _ _ rfl rfl rfl (A.info25 _) (by kernel_rfl) (A.one_cells _) ?_))
  replace hS := Lib.hid (hS.out.alloc (.cells (A.cells s) 25))
  replace hI := Lib.hid (hI.out.alloc (.cells (A.cells s) 25))
  replace hK := Lib.hid (hK.out.alloc (A.cells s) 25)
  have hT := Lib.hid (Has.new (A.cells s) 25 w4)
  generalize w4.heap.size = B7 at *
  generalize World.alloc w4 _ = w5 at *
  have q0 := hI.out.cell 0 _ rfl
  have q1 := hI.out.cell 1 _ rfl
  go_wp2_with (first
    | (refine want_exec (o := ⟨some 41, _, _, _, _, _⟩) rfl (exec_load_has 25 (.tmp 7) rfl _ rfl hT.out Try.underlying25 rfl (A.info25 _)) ?_)
    | (refine want_exec (o := ⟨some 42, _, _, _, _, _⟩) rfl (exec_load_has 25 (.tmp 2) rfl _ rfl hS.out Try.underlying25 rfl (A.info25 _)) ?_)
    | (refine want_exec (o := ⟨some 43, _, _, _, _, _⟩) rfl (exec_eq_regs (.tmp 41) (.tmp 42) rfl s rfl rfl) ?_))
  go_ret
  exact yesB rfl hK.out
set_option maxRecDepth 100000 in
set_option maxHeartbeats 2000000 in
theorem keeps_t1 (s : A.Regs) (k0 op0 a0 b0 c0 i0 a b c i : Int) (u0 u : Bool) (w : World)
    (CF : Hid (∀ w, Calls Try.prog 13 #[.agg #[.int .i64 k0, .int .i64 op0, .int .i64 a0, .int .i64 b0, .int .i64 c0, .int .i64 i0, .bool u0]] w fun e w' => e = .returned (.agg #[.int .i64 1, .int .i64 11, .int .i64 a, .int .i64 b, .int .i64 c, .int .i64 i, .bool u]) ∧ Kept w w'))
    (CD : Hid (∀ w, Calls Try.prog 11 #[.agg (A.cells s), .agg #[.int .i64 1, .int .i64 11, .int .i64 a, .int .i64 b, .int .i64 c, .int .i64 i, .bool u]] w fun e w' => e = .returned (.tuple #[.agg (A.cells s), .int .i64 5]) ∧ Kept w w')) :
    Calls Try.prog 4 #[.agg (A.cells s), .agg #[.int .i64 k0, .int .i64 op0, .int .i64 a0, .int .i64 b0, .int .i64 c0, .int .i64 i0, .bool u0]] w fun e w' => e = .returned (.bool true) ∧ Below w.heap.size w w' := by
  go_enter Try.func4, Try.ntmps4
  go_wp2_with fail
  refine (shown_any _).mono ?_; rintro e w1 ⟨rfl, hK1⟩
  have hS := ((Has.new (A.cells s) 25 w).alloc _).kept hK1
  have hJ := (Has.new1 (#[.int .i64 k0, .int .i64 op0, .int .i64 a0, .int .i64 b0, .int .i64 c0, .int .i64 i0, .bool u0]) 27 w _).kept hK1
  have hK := (((Kept.refl w).alloc _ _).alloc _ _).trans hK1
  clear hK1
  skip
  replace hS := Lib.hid hS
  replace hJ := Lib.hid hJ
  replace hK := Lib.hid hK
  generalize hBe : w.heap.size = B at hS hJ ⊢
  have hB : w.heap.size ≤ B := by omega
  clear hBe
  go_wp2_with (first
    | (with_reducible refine load_has (o := ⟨some 13, _, _, _, _, _⟩) rfl 27 _ rfl _ rfl hJ.out Try.underlying27 rfl (by kernel_rfl) ?_))
  refine (CF.out _).mono ?_; rintro e w2 ⟨rfl, hK3⟩
  clear hJ
  replace hS := Lib.hid (hS.out.kept hK3)
  replace hK := Lib.hid (hK.out.trans hK3)
  clear hK3
  go_upto_region 3 with (first
    | (with_reducible refine store_last (o := ⟨none, Op.store 27 (.tmp 6) _, _, _, _, _⟩) rfl 27 _ _ rfl _ #[.int .i64 1, .int .i64 11, .int .i64 a, .int .i64 b, .int .i64 c, .int .i64 i, .bool u] rfl rfl rfl (by kernel_rfl) (by kernel_rfl) (by simp [Value.oneCell']) ?_))
  replace hS := Lib.hid (hS.out.alloc (.cells #[.int .i64 1, .int .i64 11, .int .i64 a, .int .i64 b, .int .i64 c, .int .i64 i, .bool u] 27))
  replace hK := Lib.hid (hK.out.alloc #[.int .i64 1, .int .i64 11, .int .i64 a, .int .i64 b, .int .i64 c, .int .i64 i, .bool u] 27)
  have hI := Lib.hid (Has.new #[.int .i64 1, .int .i64 11, .int .i64 a, .int .i64 b, .int .i64 c, .int .i64 i, .bool u] 27 w2)
  generalize w2.heap.size = B6 at *
  generalize World.alloc w2 _ = w3 at *
  go_wp2_with (first
    | (with_reducible refine load_has (o := ⟨some 16, _, _, _, _, _⟩) rfl 25 _ rfl _ rfl hS.out Try.underlying25 rfl (A.info25 _) ?_)
    | (with_reducible refine load_has (o := ⟨some 17, _, _, _, _, _⟩) rfl 27 _ rfl _ rfl hI.out Try.underlying27 rfl (by kernel_rfl) ?_))
  refine (CD.out _).mono ?_; rintro e w4 ⟨rfl, hK3⟩
  replace hS := Lib.hid (hS.out.kept hK3)
  replace hI := Lib.hid (hI.out.kept hK3)
  replace hK := Lib.hid (hK.out.trans hK3)
  clear hK3
  go_upto_region 4 with (first
    | (with_reducible refine store_last (o := ⟨none, Op.store 25 (.tmp 7) _, _, _, _, _⟩) rfl 25 _ _ rfl _ _ rfl rfl rfl (A.info25 _) (by kernel_rfl) (A.one_cells _) ?_))
  replace hS := Lib.hid (hS.out.alloc (.cells (A.cells s) 25))
  replace hI := Lib.hid (hI.out.alloc (.cells (A.cells s) 25))
  replace hK := Lib.hid (hK.out.alloc (A.cells s) 25)
  have hT := Lib.hid (Has.new (A.cells s) 25 w4)
  generalize w4.heap.size = B7 at *
  generalize World.alloc w4 _ = w5 at *
  have q0 := hI.out.cell 0 _ rfl
  have q1 := hI.out.cell 1 _ rfl
  go_wp2_with (first
    | (refine want_exec (o := ⟨some 41, _, _, _, _, _⟩) rfl (exec_load_has 25 (.tmp 7) rfl _ rfl hT.out Try.underlying25 rfl (A.info25 _)) ?_)
    | (refine want_exec (o := ⟨some 42, _, _, _, _, _⟩) rfl (exec_load_has 25 (.tmp 2) rfl _ rfl hS.out Try.underlying25 rfl (A.info25 _)) ?_)
    | (refine want_exec (o := ⟨some 43, _, _, _, _, _⟩) rfl (exec_eq_regs (.tmp 41) (.tmp 42) rfl s rfl rfl) ?_))
  go_ret
  exact yesB rfl hK.out
set_option maxRecDepth 100000 in
set_option maxHeartbeats 2000000 in
theorem keeps_t2 (s : A.Regs) (k0 op0 a0 b0 c0 i0 a b c i : Int) (u0 u : Bool) (w : World)
    (CF : Hid (∀ w, Calls Try.prog 13 #[.agg #[.int .i64 k0, .int .i64 op0, .int .i64 a0, .int .i64 b0, .int .i64 c0, .int .i64 i0, .bool u0]] w fun e w' => e = .returned (.agg #[.int .i64 2, .int .i64 11, .int .i64 a, .int .i64 b, .int .i64 c, .int .i64 i, .bool u]) ∧ Kept w w'))
    (CD : Hid (∀ w, Calls Try.prog 11 #[.agg (A.cells s), .agg #[.int .i64 2, .int .i64 11, .int .i64 a, .int .i64 b, .int .i64 c, .int .i64 i, .bool u]] w fun e w' => e = .returned (.tuple #[.agg (A.cells s), .int .i64 5]) ∧ Kept w w')) :
    Calls Try.prog 4 #[.agg (A.cells s), .agg #[.int .i64 k0, .int .i64 op0, .int .i64 a0, .int .i64 b0, .int .i64 c0, .int .i64 i0, .bool u0]] w fun e w' => e = .returned (.bool true) ∧ Below w.heap.size w w' := by
  go_enter Try.func4, Try.ntmps4
  go_wp2_with fail
  refine (shown_any _).mono ?_; rintro e w1 ⟨rfl, hK1⟩
  have hS := ((Has.new (A.cells s) 25 w).alloc _).kept hK1
  have hJ := (Has.new1 (#[.int .i64 k0, .int .i64 op0, .int .i64 a0, .int .i64 b0, .int .i64 c0, .int .i64 i0, .bool u0]) 27 w _).kept hK1
  have hK := (((Kept.refl w).alloc _ _).alloc _ _).trans hK1
  clear hK1
  skip
  replace hS := Lib.hid hS
  replace hJ := Lib.hid hJ
  replace hK := Lib.hid hK
  generalize hBe : w.heap.size = B at hS hJ ⊢
  have hB : w.heap.size ≤ B := by omega
  clear hBe
  go_wp2_with (first
    | (with_reducible refine load_has (o := ⟨some 13, _, _, _, _, _⟩) rfl 27 _ rfl _ rfl hJ.out Try.underlying27 rfl (by kernel_rfl) ?_))
  refine (CF.out _).mono ?_; rintro e w2 ⟨rfl, hK3⟩
  clear hJ
  replace hS := Lib.hid (hS.out.kept hK3)
  replace hK := Lib.hid (hK.out.trans hK3)
  clear hK3
  go_upto_region 3 with (first
    | (with_reducible refine store_last (o := ⟨none, Op.store 27 (.tmp 6) _, _, _, _, _⟩) rfl 27 _ _ rfl _ #[.int .i64 2, .int .i64 11, .int .i64 a, .int .i64 b, .int .i64 c, .int .i64 i, .bool u] rfl rfl rfl (by kernel_rfl) (by kernel_rfl) (by simp [Value.oneCell']) ?_))
  replace hS := Lib.hid (hS.out.alloc (.cells #[.int .i64 2, .int .i64 11, .int .i64 a, .int .i64 b, .int .i64 c, .int .i64 i, .bool u] 27))
  replace hK := Lib.hid (hK.out.alloc #[.int .i64 2, .int .i64 11, .int .i64 a, .int .i64 b, .int .i64 c, .int .i64 i, .bool u] 27)
  have hI := Lib.hid (Has.new #[.int .i64 2, .int .i64 11, .int .i64 a, .int .i64 b, .int .i64 c, .int .i64 i, .bool u] 27 w2)
  generalize w2.heap.size = B6 at *
  generalize World.alloc w2 _ = w3 at *
  go_wp2_with (first
    | (with_reducible refine load_has (o := ⟨some 16, _, _, _, _, _⟩) rfl 25 _ rfl _ rfl hS.out Try.underlying25 rfl (A.info25 _) ?_)
    | (with_reducible refine load_has (o := ⟨some 17, _, _, _, _, _⟩) rfl 27 _ rfl _ rfl hI.out Try.underlying27 rfl (by kernel_rfl) ?_))
  refine (CD.out _).mono ?_; rintro e w4 ⟨rfl, hK3⟩
  replace hS := Lib.hid (hS.out.kept hK3)
  replace hI := Lib.hid (hI.out.kept hK3)
  replace hK := Lib.hid (hK.out.trans hK3)
  clear hK3
  go_upto_region 4 with (first
    | (with_reducible refine store_last (o := ⟨none, Op.store 25 (.tmp 7) _, _, _, _, _⟩) rfl 25 _ _ rfl _ _ rfl rfl rfl (A.info25 _) (by kernel_rfl) (A.one_cells _) ?_))
  replace hS := Lib.hid (hS.out.alloc (.cells (A.cells s) 25))
  replace hI := Lib.hid (hI.out.alloc (.cells (A.cells s) 25))
  replace hK := Lib.hid (hK.out.alloc (A.cells s) 25)
  have hT := Lib.hid (Has.new (A.cells s) 25 w4)
  generalize w4.heap.size = B7 at *
  generalize World.alloc w4 _ = w5 at *
  have q0 := hI.out.cell 0 _ rfl
  have q1 := hI.out.cell 1 _ rfl
  go_wp2_with (first
    | (refine want_exec (o := ⟨some 41, _, _, _, _, _⟩) rfl (exec_load_has 25 (.tmp 7) rfl _ rfl hT.out Try.underlying25 rfl (A.info25 _)) ?_)
    | (refine want_exec (o := ⟨some 42, _, _, _, _, _⟩) rfl (exec_load_has 25 (.tmp 2) rfl _ rfl hS.out Try.underlying25 rfl (A.info25 _)) ?_)
    | (refine want_exec (o := ⟨some 43, _, _, _, _, _⟩) rfl (exec_eq_regs (.tmp 41) (.tmp 42) rfl s rfl rfl) ?_))
  go_ret
  exact yesB rfl hK.out
end Go.Proofs.Ytghjdpmijnlhjaa
