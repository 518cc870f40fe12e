import Derived.Laws.BitsAllLaws
import Derived.StillTailTactics
import Derived.Test.YtlmddkciamdldaaQb
/-
  The table of package alu, how a row of it is found, and the number of an instruction.
-/
namespace Go.Proofs.Ytlmddkciamdldaa
open Go.RowKit
set_option linter.unusedVariables false
set_option linter.unusedSimpArgs false
set_option maxRecDepth 100000
/-- a function without variables of its own -/
def A.fun' (f : Nat) : Value := .func (.func f) #[] #[]
/-- a row of the table -/
def A.row (op : Int) (f : Nat) : Array Value := #[.int .i64 op, .func (.func f) #[] #[]]
@[simp] theorem A.size_row (op : Int) (f : Nat) : (A.row op f).size = 2 := rfl
@[simp] theorem A.row_0 (op : Int) (f : Nat) : (A.row op f)[0]? = some (.int .i64 op) := rfl
@[simp] theorem A.row_1 (op : Int) (f : Nat) : (A.row op f)[1]? = some (.func (.func f) #[] #[]) := rfl
theorem A.one_row (op : Int) (f : Nat) : (A.row op f).all (·.oneCell') = true := by simp [A.row, Value.oneCell']
/-- which function does an operation -/
def A.fn (k : Nat) : Nat := if k = 0 then 68 else if k = 1 then 69 else if k = 2 then 71 else if k = 3 then 72 else if k = 4 then 73 else if k = 5 then 74 else if k = 6 then 75 else if k = 7 then 76 else if k = 8 then 77 else if k = 9 then 81 else if k = 10 then 83 else 86
def A.table : Array Value := #[.int .i64 0, .func (.func 68) #[] #[], .int .i64 1, .func (.func 69) #[] #[], .int .i64 2, .func (.func 71) #[] #[], .int .i64 3, .func (.func 72) #[] #[], .int .i64 4, .func (.func 73) #[] #[], .int .i64 5, .func (.func 74) #[] #[], .int .i64 6, .func (.func 75) #[] #[], .int .i64 7, .func (.func 76) #[] #[], .int .i64 8, .func (.func 77) #[] #[], .int .i64 9, .func (.func 81) #[] #[], .int .i64 10, .func (.func 83) #[] #[], .int .i64 11, .func (.func 86) #[] #[]]
theorem A.one_table : A.table.all (·.oneCell') = true := by simp [A.table, Value.oneCell']
theorem A.size_table : A.table.size = 24 := rfl
theorem A.table_row (k : Nat) (hk : k < 12) : A.table.extract (Int.toNat k * 2) (Int.toNat k * 2 + 2) = A.row k (A.fn k) := by
  have : k = 0 ∨ k = 1 ∨ k = 2 ∨ k = 3 ∨ k = 4 ∨ k = 5 ∨ k = 6 ∨ k = 7 ∨ k = 8 ∨ k = 9 ∨ k = 10 ∨ k = 11 := by omega
  rcases this with rfl | rfl | rfl | rfl | rfl | rfl | rfl | rfl | rfl | rfl | rfl | rfl <;> simp [A.table, A.row, A.fn]
theorem A.infoRow (op : Int) (f : Nat) : (Try.prog.info? 73).map (·.size) = some (A.row op f).size := by rw [A.size_row]; kernel_rfl
theorem A.infoTab : (Try.prog.info? 106).map (·.size) = some A.table.size := by rw [A.size_table]; kernel_rfl
theorem A.shapeRow : shapeOf Try.prog 73 = some (#[.int .i64 0, .nilFunc], [(0, 1), (1, 1)]) := by kernel_rfl
theorem A.builtRow (op : Int) (f : Nat) : Try.prog.built 73 [(0, .int .i64 op), (1, .func (.func f) #[] #[])] = some (A.row op f) := by
  rw [built_of A.shapeRow]
  simp [Instr.fill, Value.cells, A.row]
theorem A.builtRow1 (f : Nat) : Try.prog.built 73 [(1, .func (.func f) #[] #[])] = some (A.row 0 f) := by
  rw [built_of A.shapeRow]
  simp [Instr.fill, Value.cells, A.row]
theorem A.builtTab : Try.prog.built 106 [(0, .agg (A.row 0 68)), (1, .agg (A.row 1 69)), (2, .agg (A.row 2 71)), (3, .agg (A.row 3 72)), (4, .agg (A.row 4 73)), (5, .agg (A.row 5 74)), (6, .agg (A.row 6 75)), (7, .agg (A.row 7 76)), (8, .agg (A.row 8 77)), (9, .agg (A.row 9 81)), (10, .agg (A.row 10 83)), (11, .agg (A.row 11 86))] = some A.table := by kernel_rfl
theorem operations_any (w : World) : Calls Try.prog 52 #[] w fun e w' => e = .returned (.agg A.table) ∧ Kept w w' := by
  go_enter Try.func52, Try.ntmps52
  go_upto_region 1 with (fail)
  refine wp_region_lit ?_
  refine build_has (o := ⟨some 1, _, _, _, _, _⟩) rfl 73 _ rfl (A.row 0 68) (by go_simp; exact A.builtRow _ _) ?_
  simp only [Act.put, List.setIfInBounds_toArray, List.set_cons_zero, List.set_cons_succ]
  refine build_has (o := ⟨some 2, _, _, _, _, _⟩) rfl 73 _ rfl (A.row 1 69) (by go_simp; exact A.builtRow _ _) ?_
  simp only [Act.put, List.setIfInBounds_toArray, List.set_cons_zero, List.set_cons_succ]
  refine build_has (o := ⟨some 3, _, _, _, _, _⟩) rfl 73 _ rfl (A.row 2 71) (by go_simp; exact A.builtRow _ _) ?_
  simp only [Act.put, List.setIfInBounds_toArray, List.set_cons_zero, List.set_cons_succ]
  refine build_has (o := ⟨some 4, _, _, _, _, _⟩) rfl 73 _ rfl (A.row 3 72) (by go_simp; exact A.builtRow _ _) ?_
  simp only [Act.put, List.setIfInBounds_toArray, List.set_cons_zero, List.set_cons_succ]
  refine build_has (o := ⟨some 5, _, _, _, _, _⟩) rfl 73 _ rfl (A.row 4 73) (by go_simp; exact A.builtRow _ _) ?_
  simp only [Act.put, List.setIfInBounds_toArray, List.set_cons_zero, List.set_cons_succ]
  refine build_has (o := ⟨some 6, _, _, _, _, _⟩) rfl 73 _ rfl (A.row 5 74) (by go_simp; exact A.builtRow _ _) ?_
  simp only [Act.put, List.setIfInBounds_toArray, List.set_cons_zero, List.set_cons_succ]
  refine build_has (o := ⟨some 7, _, _, _, _, _⟩) rfl 73 _ rfl (A.row 6 75) (by go_simp; exact A.builtRow _ _) ?_
  simp only [Act.put, List.setIfInBounds_toArray, List.set_cons_zero, List.set_cons_succ]
  refine build_has (o := ⟨some 8, _, _, _, _, _⟩) rfl 73 _ rfl (A.row 7 76) (by go_simp; exact A.builtRow _ _) ?_
  simp only [Act.put, List.setIfInBounds_toArray, List.set_cons_zero, List.set_cons_succ]
  refine build_has (o := ⟨some 9, _, _, _, _, _⟩) rfl 73 _ rfl (A.row 8 77) (by go_simp; exact A.builtRow _ _) ?_
  simp only [Act.put, List.setIfInBounds_toArray, List.set_cons_zero, List.set_cons_succ]
  refine build_has (o := ⟨some 10, _, _, _, _, _⟩) rfl 73 _ rfl (A.row 9 81) (by go_simp; exact A.builtRow _ _) ?_
  simp only [Act.put, List.setIfInBounds_toArray, List.set_cons_zero, List.set_cons_succ]
  refine build_has (o := ⟨some 11, _, _, _, _, _⟩) rfl 73 _ rfl (A.row 10 83) (by go_simp; exact A.builtRow _ _) ?_
  simp only [Act.put, List.setIfInBounds_toArray, List.set_cons_zero, List.set_cons_succ]
  refine build_has (o := ⟨some 12, _, _, _, _, _⟩) rfl 73 _ rfl (A.row 11 86) (by go_simp; exact A.builtRow _ _) ?_
  simp only [Act.put, List.setIfInBounds_toArray, List.set_cons_zero, List.set_cons_succ]
  refine build_has (o := ⟨some 13, _, _, _, _, _⟩) rfl 106 _ rfl A.table (by go_simp; exact A.builtTab) ?_
  simp only [Act.put, List.setIfInBounds_toArray, List.set_cons_zero, List.set_cons_succ]
  refine store_last (o := ⟨none, Op.store 106 _ _, _, _, _, _⟩) rfl 106 _ _ rfl _ _ rfl rfl (by simp) A.infoTab (by kernel_rfl) A.one_table ?_
  simp only [Act.put, List.setIfInBounds_toArray, List.set_cons_zero, List.set_cons_succ]
  go_wp2_with fail
  exact bodyPost_ret (results_has rfl w.heap.size rfl (Has.new _ _ _) Try.underlying106 rfl A.infoTab) rfl ⟨rfl, (Kept.refl w).alloc _ _⟩
set_option maxHeartbeats 1000000 in
theorem find_any (op : Nat) (hop : op < 12) (w : World) : Calls Try.prog 42 #[.int .i64 op] w fun e w' => e = .returned (.tuple #[.agg (A.row op (A.fn op)), .bool true]) ∧ Kept w w' := by
  have HT := Lib.hid A.table_row
  go_enter Try.func42, Try.ntmps42
  go_wp2_with (first
    | (go_at_call 52; (refine (operations_any _).mono ?_; rintro e w2 ⟨rfl, hK2⟩); (have hX := (Has.new _ _ _).kept hK2); (have hK := ((Kept.refl w).alloc _ _).trans hK2); clear hK2))
  replace hX := Lib.hid hX
  replace hK := Lib.hid hK
  go_loopw [7] (fun i wr => ∃ k : Nat, k ≤ op ∧ i = .int .i64 k ∧ Hid (Has w.heap.size #[.int .i64 0, .nilFunc] 73 wr) ∧ Hid (Kept w wr)) (fun i _ => 12 - (intOf i).toNat)
  case atStart => exact ⟨0, by omega, rfl, hX, hK⟩
  case round =>
    clear hX hK
    obtain ⟨k, hk, rfl, hX, hK⟩ := hrel
    have hk12 : k < 12 := by omega
    have HR := Lib.hid (HT.out k hk12)
    have hk12' : (k : Int) < 12 := by omega
    by_cases he : k = op
    · subst he
      go_upto_region 3 with (fail)
      refine wp_region_lit ?_
      refine index_row (o := ⟨some 9, _, _, _, _, _⟩) rfl 106 _ _ rfl _ _ (k : Int) rfl rfl Try.underlying106 (by omega) (by omega) Try.underlying73 rfl (m := 2) (by kernel_rfl) HR.out ?_
      try simp only [Act.put, List.setIfInBounds_toArray, List.set_cons_zero, List.set_cons_succ]
      go_wp2_with (first
        | (with_reducible refine store_last (o := ⟨none, Op.store 73 (.tmp 5) _, _, _, _, _⟩) rfl 73 _ _ rfl _ _ rfl rfl rfl (A.infoRow _ _) (by kernel_rfl) (A.one_row _ _) ?_)
        | (with_reducible refine load_has (o := ⟨some 14, _, _, _, _, _⟩) rfl 73 _ rfl _ rfl (Has.new _ _ _) Try.underlying73 rfl (A.infoRow _ _) ?_)
        | (with_reducible refine store_has (o := ⟨none, Op.store 73 (.tmp 2) _, _, _, _, _⟩) rfl 73 _ _ rfl _ _ rfl rfl (hX.out.alloc _) (A.infoRow _ _) (by kernel_rfl) (A.one_row _ _) ?_))
      exact bodyPost_ret (results_has2 rfl w.heap.size rfl ((hX.out.alloc _).row _) Try.underlying73 rfl (A.infoRow _ _)) rfl ⟨rfl, (hK.out.alloc _ _).row (by omega) _⟩
    · have hne : ((k : Int) == (op : Int)) = false := by simp; omega
      have hne' : ¬ (k : Int) = (op : Int) := by omega
      go_upto_region 3 with (fail)
      refine wp_region_lit ?_
      refine index_row (o := ⟨some 9, _, _, _, _, _⟩) rfl 106 _ _ rfl _ _ (k : Int) rfl rfl Try.underlying106 (by omega) (by omega) Try.underlying73 rfl (m := 2) (by kernel_rfl) HR.out ?_
      try simp only [Act.put, List.setIfInBounds_toArray, List.set_cons_zero, List.set_cons_succ]
      go_wp2_with (first
        | (with_reducible refine store_last (o := ⟨none, Op.store 73 (.tmp 5) _, _, _, _, _⟩) rfl 73 _ _ rfl _ _ rfl rfl rfl (A.infoRow _ _) (by kernel_rfl) (A.one_row _ _) ?_))
      go_roundw
      case rel => exact ⟨k + 1, by omega, by go_num, Lib.hid (hX.out.alloc _), Lib.hid (hK.out.alloc _ _)⟩
      case measure => simp [intOf]; omega
theorem callsFn {f : Nat} {fn : Func} (h : Try.prog.funcs[f]? = some fn) (h1 : (fn.name == "runtime.NumGoroutine") = false) (h2 : fn.body.isNone = false) (args : Array Value) (w : World) : (callFunc f args).run Try.prog w = .ok (.enter f args) w := by
  have h1' : ¬ fn.name = "runtime.NumGoroutine" := by simpa using h1
  have h2' : ¬ fn.body = none := by intro e; rw [e] at h2; cases h2
  simp [callFunc, h, h1', h2']
theorem number_imm (s : A.Regs) (op a b c i : Int) (u : Bool) (w : World) :
    Calls Try.prog 29 #[.agg (A.cells s), .agg #[.int .i64 2, .int .i64 op, .int .i64 a, .int .i64 b, .int .i64 c, .int .i64 i, .bool u]] w fun e w' => e = .returned (.int .u32 (i % 4294967296)) ∧ Kept w w' := by
  go_enter Try.func29, Try.ntmps29
  go_wp2
  go_ret
  exact r1k rfl (((Kept.refl w).alloc _ _).alloc _ _)
theorem number_reg (s : A.Regs) (k op a b c i : Int) (u : Bool) (hk : (k == 2) = false) (h0 : 0 ≤ c) (h1 : c < 16) (w : World) :
    Calls Try.prog 29 #[.agg (A.cells s), .agg #[.int .i64 k, .int .i64 op, .int .i64 a, .int .i64 b, .int .i64 c, .int .i64 i, .bool u]] w fun e w' => e = .returned (.int .u32 (s.r c.toNat)) ∧ Kept w w' := by
  have hc := A.cell_r s c.toNat (by omega)
  go_enter Try.func29, Try.ntmps29
  go_wp2
  go_ret
  exact r1k rfl (((Kept.refl w).alloc _ _).alloc _ _)
/-- no row -/
def A.norow : Array Value := #[.int .i64 0, .nilFunc]
theorem A.infoNo : (Try.prog.info? 73).map (·.size) = some A.norow.size := by kernel_rfl
theorem A.one_norow : A.norow.all (·.oneCell') = true := by simp [A.norow, Value.oneCell']
theorem A.builtNo : Try.prog.built 73 [] = some A.norow := by
  rw [built_of A.shapeRow]
  simp [Instr.fill, A.norow]
/-- operationOf of an instruction that may not be -/
theorem opOf_not (k op a b c i : Int) (u : Bool) (h : I.may ⟨k, op, a, b, c, i, u⟩ = false) (w : World) :
    Calls Try.prog 28 #[.agg #[.int .i64 k, .int .i64 op, .int .i64 a, .int .i64 b, .int .i64 c, .int .i64 i, .bool u]] w fun e w' => e = .returned (.tuple #[.agg A.norow, .bool false]) ∧ Kept w w' := by
  have C := Lib.hid (may_any k op a b c i u)
  rw [h] at C
  clear h
  go_enter Try.func28, Try.ntmps28
  go_wp2_with fail
  refine (C.out _).mono ?_; rintro e w2 ⟨rfl, hK2⟩
  have hX := (Has.new1 _ _ _ _).kept hK2
  have hI := ((Has.new _ _ _).alloc _).kept hK2
  have hK := (((Kept.refl w).alloc _ _).alloc _ _).trans hK2
  have c0 := hI.cell 0 _ rfl
  have c1 := hI.cell 1 _ rfl
  clear hK2 hI
  replace hX := Lib.hid hX
  replace hK := Lib.hid hK
  go_wp2_with (first
    | ((with_reducible refine build_has (o := ⟨some 7, _, _, _, _, _⟩) rfl 73 _ rfl A.norow ?_ ?_); (· (go_simp; exact A.builtNo)))
    | (with_reducible refine store_has (o := ⟨none, Op.store 73 (.tmp 2) _, _, _, _, _⟩) rfl 73 _ _ rfl _ _ rfl rfl hX.out A.infoNo (by kernel_rfl) A.one_norow ?_))
  exact bodyPost_ret (results_has2 rfl (w.heap.size + 1) rfl (hX.out.row _) Try.underlying73 rfl A.infoNo) rfl ⟨rfl, hK.out.row (by omega) _⟩
/-- H moved -/
theorem opOf_3 (op a b c i : Int) (u : Bool) (h : I.may ⟨3, op, a, b, c, i, u⟩ = true) (w : World) :
    Calls Try.prog 28 #[.agg #[.int .i64 3, .int .i64 op, .int .i64 a, .int .i64 b, .int .i64 c, .int .i64 i, .bool u]] w fun e w' => e = .returned (.tuple #[.agg (A.row 0 40), .bool true]) ∧ Kept w w' := by
  have C := Lib.hid (may_any 3 op a b c i u)
  rw [h] at C
  clear h
  go_enter Try.func28, Try.ntmps28
  go_wp2_with fail
  refine (C.out _).mono ?_; rintro e w2 ⟨rfl, hK2⟩
  have hX := (Has.new1 _ _ _ _).kept hK2
  have hI := ((Has.new _ _ _).alloc _).kept hK2
  have hK := (((Kept.refl w).alloc _ _).alloc _ _).trans hK2
  have c0 := hI.cell 0 _ rfl
  have c1 := hI.cell 1 _ rfl
  clear hK2 hI
  replace hX := Lib.hid hX
  replace hK := Lib.hid hK
  go_wp2_with (first
    | ((with_reducible refine build_has (o := ⟨some 12, _, _, _, _, _⟩) rfl 73 _ rfl (A.row 0 40) ?_ ?_); (· (go_simp; exact A.builtRow1 _)))
    | (with_reducible refine store_has (o := ⟨none, Op.store 73 (.tmp 2) _, _, _, _, _⟩) rfl 73 _ _ rfl _ _ rfl rfl hX.out (A.infoRow _ _) (by kernel_rfl) (A.one_row _ _) ?_))
  exact bodyPost_ret (results_has2 rfl (w.heap.size + 1) rfl (hX.out.row _) Try.underlying73 rfl (A.infoRow _ _)) rfl ⟨rfl, hK.out.row (by omega) _⟩
/-- the flags moved -/
theorem opOf_4 (op a b c i : Int) (u : Bool) (h : I.may ⟨4, op, a, b, c, i, u⟩ = true) (w : World) :
    Calls Try.prog 28 #[.agg #[.int .i64 4, .int .i64 op, .int .i64 a, .int .i64 b, .int .i64 c, .int .i64 i, .bool u]] w fun e w' => e = .returned (.tuple #[.agg (A.row 0 41), .bool true]) ∧ Kept w w' := by
  have C := Lib.hid (may_any 4 op a b c i u)
  rw [h] at C
  clear h
  go_enter Try.func28, Try.ntmps28
  go_wp2_with fail
  refine (C.out _).mono ?_; rintro e w2 ⟨rfl, hK2⟩
  have hX := (Has.new1 _ _ _ _).kept hK2
  have hI := ((Has.new _ _ _).alloc _).kept hK2
  have hK := (((Kept.refl w).alloc _ _).alloc _ _).trans hK2
  have c0 := hI.cell 0 _ rfl
  have c1 := hI.cell 1 _ rfl
  clear hK2 hI
  replace hX := Lib.hid hX
  replace hK := Lib.hid hK
  go_wp2_with (first
    | ((with_reducible refine build_has (o := ⟨some 15, _, _, _, _, _⟩) rfl 73 _ rfl (A.row 0 41) ?_ ?_); (· (go_simp; exact A.builtRow1 _)))
    | (with_reducible refine store_has (o := ⟨none, Op.store 73 (.tmp 2) _, _, _, _, _⟩) rfl 73 _ _ rfl _ _ rfl rfl hX.out (A.infoRow _ _) (by kernel_rfl) (A.one_row _ _) ?_))
  exact bodyPost_ret (results_has2 rfl (w.heap.size + 1) rfl (hX.out.row _) Try.underlying73 rfl (A.infoRow _ _)) rfl ⟨rfl, hK.out.row (by omega) _⟩
/-- another kind -/
theorem opOf_5 (op a b c i : Int) (u : Bool) (h : I.may ⟨5, op, a, b, c, i, u⟩ = true) (w : World) :
    Calls Try.prog 28 #[.agg #[.int .i64 5, .int .i64 op, .int .i64 a, .int .i64 b, .int .i64 c, .int .i64 i, .bool u]] w fun e w' => e = .returned (.tuple #[.agg A.norow, .bool false]) ∧ Kept w w' := by
  have C := Lib.hid (may_any 5 op a b c i u)
  rw [h] at C
  clear h
  go_enter Try.func28, Try.ntmps28
  go_wp2_with fail
  refine (C.out _).mono ?_; rintro e w2 ⟨rfl, hK2⟩
  have hX := (Has.new1 _ _ _ _).kept hK2
  have hI := ((Has.new _ _ _).alloc _).kept hK2
  have hK := (((Kept.refl w).alloc _ _).alloc _ _).trans hK2
  have c0 := hI.cell 0 _ rfl
  have c1 := hI.cell 1 _ rfl
  clear hK2 hI
  replace hX := Lib.hid hX
  replace hK := Lib.hid hK
  go_wp2_with (first
    | ((with_reducible refine build_has (o := ⟨some 24, _, _, _, _, _⟩) rfl 73 _ rfl A.norow ?_ ?_); (· (go_simp; exact A.builtNo)))
    | (with_reducible refine store_has (o := ⟨none, Op.store 73 (.tmp 2) _, _, _, _, _⟩) rfl 73 _ _ rfl _ _ rfl rfl hX.out A.infoNo (by kernel_rfl) A.one_norow ?_))
  exact bodyPost_ret (results_has2 rfl (w.heap.size + 1) rfl (hX.out.row _) Try.underlying73 rfl A.infoNo) rfl ⟨rfl, hK.out.row (by omega) _⟩
/-- another kind -/
theorem opOf_6 (op a b c i : Int) (u : Bool) (h : I.may ⟨6, op, a, b, c, i, u⟩ = true) (w : World) :
    Calls Try.prog 28 #[.agg #[.int .i64 6, .int .i64 op, .int .i64 a, .int .i64 b, .int .i64 c, .int .i64 i, .bool u]] w fun e w' => e = .returned (.tuple #[.agg A.norow, .bool false]) ∧ Kept w w' := by
  have C := Lib.hid (may_any 6 op a b c i u)
  rw [h] at C
  clear h
  go_enter Try.func28, Try.ntmps28
  go_wp2_with fail
  refine (C.out _).mono ?_; rintro e w2 ⟨rfl, hK2⟩
  have hX := (Has.new1 _ _ _ _).kept hK2
  have hI := ((Has.new _ _ _).alloc _).kept hK2
  have hK := (((Kept.refl w).alloc _ _).alloc _ _).trans hK2
  have c0 := hI.cell 0 _ rfl
  have c1 := hI.cell 1 _ rfl
  clear hK2 hI
  replace hX := Lib.hid hX
  replace hK := Lib.hid hK
  go_wp2_with (first
    | ((with_reducible refine build_has (o := ⟨some 24, _, _, _, _, _⟩) rfl 73 _ rfl A.norow ?_ ?_); (· (go_simp; exact A.builtNo)))
    | (with_reducible refine store_has (o := ⟨none, Op.store 73 (.tmp 2) _, _, _, _, _⟩) rfl 73 _ _ rfl _ _ rfl rfl hX.out A.infoNo (by kernel_rfl) A.one_norow ?_))
  exact bodyPost_ret (results_has2 rfl (w.heap.size + 1) rfl (hX.out.row _) Try.underlying73 rfl A.infoNo) rfl ⟨rfl, hK.out.row (by omega) _⟩
/-- another kind -/
theorem opOf_7 (op a b c i : Int) (u : Bool) (h : I.may ⟨7, op, a, b, c, i, u⟩ = true) (w : World) :
    Calls Try.prog 28 #[.agg #[.int .i64 7, .int .i64 op, .int .i64 a, .int .i64 b, .int .i64 c, .int .i64 i, .bool u]] w fun e w' => e = .returned (.tuple #[.agg A.norow, .bool false]) ∧ Kept w w' := by
  have C := Lib.hid (may_any 7 op a b c i u)
  rw [h] at C
  clear h
  go_enter Try.func28, Try.ntmps28
  go_wp2_with fail
  refine (C.out _).mono ?_; rintro e w2 ⟨rfl, hK2⟩
  have hX := (Has.new1 _ _ _ _).kept hK2
  have hI := ((Has.new _ _ _).alloc _).kept hK2
  have hK := (((Kept.refl w).alloc _ _).alloc _ _).trans hK2
  have c0 := hI.cell 0 _ rfl
  have c1 := hI.cell 1 _ rfl
  clear hK2 hI
  replace hX := Lib.hid hX
  replace hK := Lib.hid hK
  go_wp2_with (first
    | ((with_reducible refine build_has (o := ⟨some 24, _, _, _, _, _⟩) rfl 73 _ rfl A.norow ?_ ?_); (· (go_simp; exact A.builtNo)))
    | (with_reducible refine store_has (o := ⟨none, Op.store 73 (.tmp 2) _, _, _, _, _⟩) rfl 73 _ _ rfl _ _ rfl rfl hX.out A.infoNo (by kernel_rfl) A.one_norow ?_))
  exact bodyPost_ret (results_has2 rfl (w.heap.size + 1) rfl (hX.out.row _) Try.underlying73 rfl A.infoNo) rfl ⟨rfl, hK.out.row (by omega) _⟩
/-- an operation -/
theorem opOf_1 (op : Nat) (a b c i : Int) (u : Bool) (hop : op < 12) (h : I.may ⟨1, (op : Int), a, b, c, i, u⟩ = true) (w : World) :
    Calls Try.prog 28 #[.agg #[.int .i64 1, .int .i64 (op : Int), .int .i64 a, .int .i64 b, .int .i64 c, .int .i64 i, .bool u]] w fun e w' => e = .returned (.tuple #[.agg (A.row (op : Int) (A.fn op)), .bool true]) ∧ Kept w w' := by
  have C := Lib.hid (may_any 1 ((op : Int)) a b c i u)
  rw [h] at C
  clear h
  have FI := Lib.hid (find_any op hop)
  go_enter Try.func28, Try.ntmps28
  go_wp2_with fail
  refine (C.out _).mono ?_; rintro e w2 ⟨rfl, hK2⟩
  have hX := (Has.new1 _ _ _ _).kept hK2
  have hI := ((Has.new _ _ _).alloc _).kept hK2
  have hK := (((Kept.refl w).alloc _ _).alloc _ _).trans hK2
  have c0 := hI.cell 0 _ rfl
  have c1 := hI.cell 1 _ rfl
  clear hK2 hI
  replace hX := Lib.hid hX
  replace hK := Lib.hid hK
  go_wp2_with (first
    | (go_at_call 42; (refine (FI.out _).mono ?_; rintro e w3 ⟨rfl, hK3⟩); (have hX' := Lib.hid (hX.out.kept hK3)); (have hK' := Lib.hid (hK.out.trans hK3)); clear hK3 hX hK; (have hX := hX'); (have hK := hK'); clear hX' hK')
    | (with_reducible refine store_has (o := ⟨none, Op.store 73 (.tmp 2) _, _, _, _, _⟩) rfl 73 _ _ rfl _ _ rfl rfl (by first | exact hX.out) (A.infoRow _ _) (by kernel_rfl) (A.one_row _ _) ?_))
  exact bodyPost_ret (results_has2 rfl (w.heap.size + 1) rfl (hX.out.row _) Try.underlying73 rfl (A.infoRow _ _)) rfl ⟨rfl, hK.out.row (by omega) _⟩
/-- an operation -/
theorem opOf_2 (op : Nat) (a b c i : Int) (u : Bool) (hop : op < 12) (h : I.may ⟨2, (op : Int), a, b, c, i, u⟩ = true) (w : World) :
    Calls Try.prog 28 #[.agg #[.int .i64 2, .int .i64 (op : Int), .int .i64 a, .int .i64 b, .int .i64 c, .int .i64 i, .bool u]] w fun e w' => e = .returned (.tuple #[.agg (A.row (op : Int) (A.fn op)), .bool true]) ∧ Kept w w' := by
  have C := Lib.hid (may_any 2 ((op : Int)) a b c i u)
  rw [h] at C
  clear h
  have FI := Lib.hid (find_any op hop)
  go_enter Try.func28, Try.ntmps28
  go_wp2_with fail
  refine (C.out _).mono ?_; rintro e w2 ⟨rfl, hK2⟩
  have hX := (Has.new1 _ _ _ _).kept hK2
  have hI := ((Has.new _ _ _).alloc _).kept hK2
  have hK := (((Kept.refl w).alloc _ _).alloc _ _).trans hK2
  have c0 := hI.cell 0 _ rfl
  have c1 := hI.cell 1 _ rfl
  clear hK2 hI
  replace hX := Lib.hid hX
  replace hK := Lib.hid hK
  go_wp2_with (first
    | (go_at_call 42; (refine (FI.out _).mono ?_; rintro e w3 ⟨rfl, hK3⟩); (have hX' := Lib.hid (hX.out.kept hK3)); (have hK' := Lib.hid (hK.out.trans hK3)); clear hK3 hX hK; (have hX := hX'); (have hK := hK'); clear hX' hK')
    | (with_reducible refine store_has (o := ⟨none, Op.store 73 (.tmp 2) _, _, _, _, _⟩) rfl 73 _ _ rfl _ _ rfl rfl (by first | exact hX.out) (A.infoRow _ _) (by kernel_rfl) (A.one_row _ _) ?_))
  exact bodyPost_ret (results_has2 rfl (w.heap.size + 1) rfl (hX.out.row _) Try.underlying73 rfl (A.infoRow _ _)) rfl ⟨rfl, hK.out.row (by omega) _⟩
end Go.Proofs.Ytlmddkciamdldaa

/-
  The contract of alu.Do.
-/
namespace Go.Proofs.Ytlmddkciamdldaa
open Go.RowKit
set_option linter.unusedVariables false
set_option linter.unusedSimpArgs false
set_option maxRecDepth 100000
/-- what stands in memory while Do runs: the registers, the instruction, the result's place, the row -/
structure A.St (s : A.Regs) (I : Array Value) (B : Nat) (R : Array Value) (w w' : World) : Prop where
  kept : Kept w w'
  regs : Has w.heap.size (A.cells s) 27 w'
  ins : Has (w.heap.size + 1) I 23 w'
  res : Has (w.heap.size + 2) (A.cells A.none') 27 w'
  row : Has B R 73 w'
theorem A.St.step {s : A.Regs} {I : Array Value} {B : Nat} {R : Array Value} {w w1 w2 : World} (h : A.St s I B R w w1) (hK : Kept w1 w2) : A.St s I B R w w2 :=
  ⟨h.kept.trans hK, h.regs.kept hK, h.ins.kept hK, h.res.kept hK, h.row.kept hK⟩
theorem A.St.rowNew {s : A.Regs} {I : Array Value} {B : Nat} {R : Array Value} {w w1 : World} (h : A.St s I B R w w1) {B8 : Nat} (h1 : w.heap.size + 2 < B8) (h2 : B < B8) (cs : Array Value) : A.St s I B R w (w1.setRow B8 cs) :=
  ⟨h.kept.row (by omega) _, h.regs.rowOther (by omega) _, h.ins.rowOther (by omega) _, h.res.rowOther (by omega) _, h.row.rowOther (by omega) _⟩
theorem A.St.cell {s : A.Regs} {I : Array Value} {B : Nat} {R : Array Value} {w w1 : World} (h : A.St s I B R w w1) {p : Addr} (h1 : w.heap.size + 2 < p.block) (h2 : B < p.block) (v : Value) : A.St s I B R w (w1.setCell p v) :=
  ⟨h.kept.setCell (by omega) _, h.regs.other (by omega) _, h.ins.other (by omega) _, h.res.other (by omega) _, h.row.other (by omega) _⟩
theorem wp_call_value {P : Program} {o : Oper} {a : Act} {w : World} {K : Act → World → Prop} {Q : Exit → Act → World → Prop} (x : Operand) (args : Array Operand) (tys : Array TypeId) (ho : o.op = .call ⟨.value x, args, tys⟩) (f : Nat) (hx : a.eval x = .func (.func f) #[] #[])
    (hf : ∀ args w, (callFunc f args).run P w = .ok (.enter f args) w) (vs : Array Value) (hv : args.map a.eval = vs)
    (h : Calls P f vs w (fun | .returned v, w'' => K (a.put o.dst v) w'' | .panicked chain, w'' => Q (.panic chain) a w'' | .outgrown, _ => LetsOut Q)) : o.wp P a w K Q := by
  unfold Oper.wp execOp
  simp only [ho, resolve, Sem.run_bind, hx, Deferred.ofValue, Sem.run_pure, Result.andThen_ok, invoke, Array.empty_append, Array.append_empty, hf, hv, Oper.upon]
  exact h
theorem A.builtOp (s : A.Regs) (b n : Int) (u : Bool) : Try.prog.built 80 [(0, .agg (A.cells s)), (1, .int .u32 b), (2, .int .u32 n), (3, .bool u)] = some (A.opnd s b n u) := by
  rw [built_of (show shapeOf Try.prog 80 = some (A.opnd A.none' 0 0 false, [(0, 21), (21, 1), (22, 1), (23, 1)]) by kernel_rfl)]
  simp [Instr.fill, Value.cells, A.cells, A.opnd, A.none']
/-- no row: nothing is done -/
theorem do_none (s : A.Regs) (k op a b c i : Int) (u : Bool) (w : World)
    (HO : Hid (∀ w, Calls Try.prog 28 #[.agg #[.int .i64 k, .int .i64 op, .int .i64 a, .int .i64 b, .int .i64 c, .int .i64 i, .bool u]] w fun e w' => e = .returned (.tuple #[.agg A.norow, .bool false]) ∧ Kept w w')) :
    Calls Try.prog 14 #[.agg (A.cells s), .agg #[.int .i64 k, .int .i64 op, .int .i64 a, .int .i64 b, .int .i64 c, .int .i64 i, .bool u]] w fun e w' => e = .returned (.tuple #[.agg (A.cells s), .int .i64 0]) ∧ Kept w w' := by
  go_enter Try.func14, Try.ntmps14
  go_wp2_with fail
  refine (HO.out _).mono ?_; rintro e w2 ⟨rfl, hK2⟩
  have hX := (Has.new2 _ _ _ _ _).kept hK2
  have hR := (((Has.new _ _ _).alloc _).alloc _).kept hK2
  have hK := ((((Kept.refl w).alloc _ _).alloc _ _).alloc _ _).trans hK2
  clear hK2
  replace hX := Lib.hid hX
  replace hR := Lib.hid hR
  replace hK := Lib.hid hK
  go_wp2_with (first
    | (with_reducible refine store_last (o := ⟨none, Op.store 73 _ _, _, _, _, _⟩) rfl 73 _ _ rfl _ _ rfl rfl rfl A.infoNo (by kernel_rfl) A.one_norow ?_)
    | (with_reducible refine load_has (o := ⟨some 17, _, _, _, _, _⟩) rfl 27 _ rfl _ rfl (hR.out.alloc _) Try.underlying27 rfl (A.info25 _) ?_)
    | (with_reducible refine store_has (o := ⟨none, Op.store 27 _ _, _, _, _, _⟩) rfl 27 _ _ rfl _ _ rfl rfl (hX.out.alloc _) (A.info25 _) (by kernel_rfl) (A.one_cells _) ?_))
  exact bodyPost_ret (results_has2 rfl (w.heap.size + 2) rfl ((hX.out.alloc _).row _) Try.underlying27 rfl (A.info25 _)) rfl ⟨rfl, (hK.out.alloc _ _).row (by omega) _⟩
set_option maxHeartbeats 2000000 in
theorem do_ok (s s' : A.Regs) (k op a b c i n x o : Int) (u : Bool) (f : Nat) (ha0 : 0 ≤ a) (ha1 : a < 16) (hb0 : 0 ≤ b) (hb1 : b < 16) (hx0 : 0 ≤ x) (hx1 : x < 4294967296) (w : World)
    (HO : Hid (∀ w, Calls Try.prog 28 #[.agg #[.int .i64 k, .int .i64 op, .int .i64 a, .int .i64 b, .int .i64 c, .int .i64 i, .bool u]] w fun e w' => e = .returned (.tuple #[.agg (A.row o f), .bool true]) ∧ Kept w w'))
    (HN : Hid (∀ w, Calls Try.prog 29 #[.agg (A.cells s), .agg #[.int .i64 k, .int .i64 op, .int .i64 a, .int .i64 b, .int .i64 c, .int .i64 i, .bool u]] w fun e w' => e = .returned (.int .u32 n) ∧ Kept w w'))
    (HF : Hid (∀ args w, (callFunc f args).run Try.prog w = .ok (.enter f args) w))
    (HW : Hid (∀ w, Calls Try.prog f #[.agg (A.opnd s (s.r b.toNat) n u)] w fun e w' => e = .returned (.agg (A.outc x s' 0)) ∧ Kept w w')) :
    Calls Try.prog 14 #[.agg (A.cells s), .agg #[.int .i64 k, .int .i64 op, .int .i64 a, .int .i64 b, .int .i64 c, .int .i64 i, .bool u]] w fun e w' => e = .returned (.tuple #[.agg (A.cells (A.show' (A.set s' a.toNat x) x)), .int .i64 0]) ∧ Kept w w' := by
  go_enter Try.func14, Try.ntmps14
  go_wp2_with fail
  refine (HO.out _).mono ?_; rintro e w2 ⟨rfl, hK2⟩
  have hX : Has (w.heap.size + 2) (A.cells A.none') 27 w2 := (Has.new2 _ _ _ _ _).kept hK2
  have hR := (((Has.new _ _ _).alloc _).alloc _).kept hK2
  have hI := ((Has.new1 _ _ _ _).alloc _).kept hK2
  have hK := ((((Kept.refl w).alloc _ _).alloc _ _).alloc _ _).trans hK2
  clear hK2
  have hS : A.St s #[.int .i64 k, .int .i64 op, .int .i64 a, .int .i64 b, .int .i64 c, .int .i64 i, .bool u] w2.heap.size (A.row o f) w (w2.alloc (.cells (A.row o f) 73)) := ⟨hK.alloc _ _, hR.alloc _, hI.alloc _, hX.alloc _, Has.new _ _ _⟩
  clear hX hR hI hK
  replace hS := Lib.hid hS
  go_upto_region 4 with (first
    | (with_reducible refine store_last (o := ⟨none, Op.store 73 _ _, _, _, _, _⟩) rfl 73 _ _ rfl _ _ rfl rfl rfl (A.infoRow _ _) (by kernel_rfl) (A.one_row _ _) ?_))
  refine wp_region_held_drew (S := A.St s #[.int .i64 k, .int .i64 op, .int .i64 a, .int .i64 b, .int .i64 c, .int .i64 i, .bool u] w2.heap.size (A.row o f) w) (by kernel_rfl) ?_ (fun hHeld => ?_)
  · exact hS.out.step (Kept.refl _).drew
  refine wpAnyH_take (i := 0) (oi := { dst := some 18, op := Op.fieldAddr 73 (Operand.tmp 6) 1, type := 0, pos := "alu.go:36", after := #[], guard := none }) (v := ?_) rfl (by kernel_rfl) (by kernel_rfl) (by kernel_rfl) (fun _ _ _ h => h) (Or.inl ⟨rfl, ?_⟩) hHeld ?_
  rotate_left
  · (intro wz hSw; (try dsimp only at hSw); have q0 := hSw.row.cell 1 _ (A.row_1 _ _); have q1 := hSw.ins.cell 3 _ rfl; have q2 := hSw.ins.cell 6 _ rfl; have q3 := hSw.regs.cell b.toNat _ (A.cell_r s b.toNat (by omega)); go_simp; try with_reducible rfl)
  try simp only [Act.put, List.setIfInBounds_toArray, List.set_cons_zero, List.set_cons_succ]
  refine wpAnyH_take (i := 1) (oi := { dst := some 19, op := Op.load 71 (Operand.tmp 18), type := 71, pos := "alu.go:36", after := #[eD 0], guard := none }) (v := ?_) rfl (by kernel_rfl) (by kernel_rfl) (by kernel_rfl) (fun _ _ _ h => h) (Or.inl ⟨rfl, ?_⟩) hHeld ?_
  rotate_left
  · (intro wz hSw; (try dsimp only at hSw); have q0 := hSw.row.cell 1 _ (A.row_1 _ _); have q1 := hSw.ins.cell 3 _ rfl; have q2 := hSw.ins.cell 6 _ rfl; have q3 := hSw.regs.cell b.toNat _ (A.cell_r s b.toNat (by omega)); go_simp; try with_reducible rfl)
  try simp only [Act.put, List.setIfInBounds_toArray, List.set_cons_zero, List.set_cons_succ]
  refine wpAnyH_take (i := 2) (oi := { dst := some 20, op := Op.load 27 (Operand.tmp 2), type := 27, pos := "alu.go:36", after := #[], guard := none }) (v := ?_) rfl (by kernel_rfl) (by kernel_rfl) (by kernel_rfl) (fun _ _ _ h => h) (Or.inl ⟨rfl, ?_⟩) hHeld ?_
  rotate_left
  · (intro wz hSw; refine exec_load_has 27 (Operand.tmp 2) ?_ _ ?_ hSw.regs Try.underlying27 rfl (A.info25 _) <;> rfl)
  try simp only [Act.put, List.setIfInBounds_toArray, List.set_cons_zero, List.set_cons_succ]
  refine wpAnyH_take (i := 3) (oi := { dst := some 21, op := Op.fieldAddr 23 (Operand.tmp 3) 3, type := 0, pos := "alu.go:36", after := #[], guard := none }) (v := ?_) rfl (by kernel_rfl) (by kernel_rfl) (by kernel_rfl) (fun _ _ _ h => h) (Or.inl ⟨rfl, ?_⟩) hHeld ?_
  rotate_left
  · (intro wz hSw; (try dsimp only at hSw); have q0 := hSw.row.cell 1 _ (A.row_1 _ _); have q1 := hSw.ins.cell 3 _ rfl; have q2 := hSw.ins.cell 6 _ rfl; have q3 := hSw.regs.cell b.toNat _ (A.cell_r s b.toNat (by omega)); go_simp; try with_reducible rfl)
  try simp only [Act.put, List.setIfInBounds_toArray, List.set_cons_zero, List.set_cons_succ]
  refine wpAnyH_take (i := 4) (oi := { dst := some 22, op := Op.load 3 (Operand.tmp 21), type := 3, pos := "alu.go:36", after := #[eD 3], guard := none }) (v := ?_) rfl (by kernel_rfl) (by kernel_rfl) (by kernel_rfl) (fun _ _ _ h => h) (Or.inl ⟨rfl, ?_⟩) hHeld ?_
  rotate_left
  · (intro wz hSw; (try dsimp only at hSw); have q0 := hSw.row.cell 1 _ (A.row_1 _ _); have q1 := hSw.ins.cell 3 _ rfl; have q2 := hSw.ins.cell 6 _ rfl; have q3 := hSw.regs.cell b.toNat _ (A.cell_r s b.toNat (by omega)); go_simp; try with_reducible rfl)
  try simp only [Act.put, List.setIfInBounds_toArray, List.set_cons_zero, List.set_cons_succ]
  refine wpAnyH_take (i := 5) (oi := { dst := some 23, op := Op.fieldAddr 27 (Operand.tmp 2) 0, type := 0, pos := "alu.go:36", after := #[], guard := none }) (v := ?_) rfl (by kernel_rfl) (by kernel_rfl) (by kernel_rfl) (fun _ _ _ h => h) (Or.inl ⟨rfl, ?_⟩) hHeld ?_
  rotate_left
  · (intro wz hSw; (try dsimp only at hSw); have q0 := hSw.row.cell 1 _ (A.row_1 _ _); have q1 := hSw.ins.cell 3 _ rfl; have q2 := hSw.ins.cell 6 _ rfl; have q3 := hSw.regs.cell b.toNat _ (A.cell_r s b.toNat (by omega)); go_simp; try with_reducible rfl)
  try simp only [Act.put, List.setIfInBounds_toArray, List.set_cons_zero, List.set_cons_succ]
  refine wpAnyH_take (i := 6) (oi := { dst := some 24, op := Op.indexAddr 25 (Operand.tmp 23) (Operand.tmp 22), type := 0, pos := "alu.go:36", after := #[eD 5, eD 4], guard := none }) (v := ?_) rfl (by kernel_rfl) (by kernel_rfl) (by kernel_rfl) (fun _ _ _ h => h) (Or.inl ⟨rfl, ?_⟩) hHeld ?_
  rotate_left
  · (intro wz hSw; (try dsimp only at hSw); have q0 := hSw.row.cell 1 _ (A.row_1 _ _); have q1 := hSw.ins.cell 3 _ rfl; have q2 := hSw.ins.cell 6 _ rfl; have q3 := hSw.regs.cell b.toNat _ (A.cell_r s b.toNat (by omega)); go_simp; try with_reducible rfl)
  try simp only [Act.put, List.setIfInBounds_toArray, List.set_cons_zero, List.set_cons_succ]
  refine wpAnyH_take (i := 7) (oi := { dst := some 25, op := Op.load 24 (Operand.tmp 24), type := 24, pos := "alu.go:36", after := #[eD 6], guard := none }) (v := ?_) rfl (by kernel_rfl) (by kernel_rfl) (by kernel_rfl) (fun _ _ _ h => h) (Or.inl ⟨rfl, ?_⟩) hHeld ?_
  rotate_left
  · (intro wz hSw; (try dsimp only at hSw); have q0 := hSw.row.cell 1 _ (A.row_1 _ _); have q1 := hSw.ins.cell 3 _ rfl; have q2 := hSw.ins.cell 6 _ rfl; have q3 := hSw.regs.cell b.toNat _ (A.cell_r s b.toNat (by omega)); go_simp; try with_reducible rfl)
  try simp only [Act.put, List.setIfInBounds_toArray, List.set_cons_zero, List.set_cons_succ]
  refine wpAnyH_take (i := 8) (oi := { dst := some 26, op := Op.load 27 (Operand.tmp 2), type := 27, pos := "alu.go:36", after := #[], guard := none }) (v := ?_) rfl (by kernel_rfl) (by kernel_rfl) (by kernel_rfl) (fun _ _ _ h => h) (Or.inl ⟨rfl, ?_⟩) hHeld ?_
  rotate_left
  · (intro wz hSw; refine exec_load_has 27 (Operand.tmp 2) ?_ _ ?_ hSw.regs Try.underlying27 rfl (A.info25 _) <;> rfl)
  try simp only [Act.put, List.setIfInBounds_toArray, List.set_cons_zero, List.set_cons_succ]
  refine wpAnyH_take (i := 9) (oi := { dst := some 27, op := Op.load 23 (Operand.tmp 3), type := 23, pos := "alu.go:36", after := #[], guard := none }) (v := ?_) rfl (by kernel_rfl) (by kernel_rfl) (by kernel_rfl) (fun _ _ _ h => h) (Or.inl ⟨rfl, ?_⟩) hHeld ?_
  rotate_left
  · (intro wz hSw; refine exec_load_has 23 (Operand.tmp 3) ?_ _ ?_ hSw.ins Try.underlying23 rfl (by kernel_rfl) <;> rfl)
  try simp only [Act.put, List.setIfInBounds_toArray, List.set_cons_zero, List.set_cons_succ]
  refine wpAnyH_take (i := 11) (oi := { dst := some 29, op := Op.fieldAddr 23 (Operand.tmp 3) 6, type := 0, pos := "alu.go:36", after := #[], guard := none }) (v := ?_) rfl (by kernel_rfl) (by kernel_rfl) (by kernel_rfl) (fun _ _ _ h => h) (Or.inl ⟨rfl, ?_⟩) hHeld ?_
  rotate_left
  · (intro wz hSw; (try dsimp only at hSw); have q0 := hSw.row.cell 1 _ (A.row_1 _ _); have q1 := hSw.ins.cell 3 _ rfl; have q2 := hSw.ins.cell 6 _ rfl; have q3 := hSw.regs.cell b.toNat _ (A.cell_r s b.toNat (by omega)); go_simp; try with_reducible rfl)
  try simp only [Act.put, List.setIfInBounds_toArray, List.set_cons_zero, List.set_cons_succ]
  refine wpAnyH_take (i := 12) (oi := { dst := some 30, op := Op.load 4 (Operand.tmp 29), type := 4, pos := "alu.go:36", after := #[eD 11], guard := none }) (v := ?_) rfl (by kernel_rfl) (by kernel_rfl) (by kernel_rfl) (fun _ _ _ h => h) (Or.inl ⟨rfl, ?_⟩) hHeld ?_
  rotate_left
  · (intro wz hSw; (try dsimp only at hSw); have q0 := hSw.row.cell 1 _ (A.row_1 _ _); have q1 := hSw.ins.cell 3 _ rfl; have q2 := hSw.ins.cell 6 _ rfl; have q3 := hSw.regs.cell b.toNat _ (A.cell_r s b.toNat (by omega)); go_simp; try with_reducible rfl)
  try simp only [Act.put, List.setIfInBounds_toArray, List.set_cons_zero, List.set_cons_succ]
  refine wpAnyH_ready (rs := [10, 15]) (by kernel_rfl) (by simp) ?_
  refine AllReadyH.cons (o := { dst := some 28, op := Op.call { callee := Callee.value (Operand.func 29), args := #[Operand.tmp 26, Operand.tmp 27], argTypes := #[27, 23] }, type := 24, pos := "alu.go:36", after := #[eD 8, eD 9], guard := none }) rfl (fun K hK => ?_) (AllReadyH.cons (o := { dst := some 8, op := Op.alloc 77, type := 0, pos := "alu.go:36", after := #[], guard := none }) rfl (fun K hK => ?_) (AllReadyH.nil))
  · go_simp
    go_at_call 29
    refine (HN.out _).mono ?_
    rintro e w5 ⟨rfl, hK5⟩
    have hN := (show (A.St s #[.int .i64 k, .int .i64 op, .int .i64 a, .int .i64 b, .int .i64 c, .int .i64 i, .bool u] w2.heap.size (A.row o f) w) _ from hHeld.step hK5)
    clear hHeld
    refine hK.out _ _ hN (fun hHeld => ?_)
    clear hK K hN
    try simp only [Act.put, List.setIfInBounds_toArray, List.set_cons_zero, List.set_cons_succ]
    refine wpAnyH_take (i := 13) (oi := { dst := some 31, op := Op.build 80 #[(0, Operand.tmp 20), (1, Operand.tmp 25), (2, Operand.tmp 28), (3, Operand.tmp 30)], type := 80, pos := "alu.go:36", after := #[eD 2, eD 7, eD 10, eD 12], guard := none }) (v := ?_) rfl (by kernel_rfl) (by kernel_rfl) (by kernel_rfl) (fun _ _ _ h => h) (Or.inl ⟨rfl, ?_⟩) hHeld ?_
    rotate_left
    · (intro wz hSw; refine exec_build (o := { dst := some 31, op := Op.build 80 #[(0, Operand.tmp 20), (1, Operand.tmp 25), (2, Operand.tmp 28), (3, Operand.tmp 30)], type := 80, pos := "alu.go:36", after := #[eD 2, eD 7, eD 10, eD 12], guard := none }) 80 _ rfl (A.opnd s (s.r b.toNat) n u) ?_; (go_simp; exact A.builtOp _ _ _ _))
    try simp only [Act.put, List.setIfInBounds_toArray, List.set_cons_zero, List.set_cons_succ]
    refine wpAnyH_ready (rs := [14, 15]) (by kernel_rfl) (by simp) ?_
    refine AllReadyH.cons (o := { dst := some 32, op := Op.call { callee := Callee.value (Operand.tmp 19), args := #[Operand.tmp 31], argTypes := #[80] }, type := 77, pos := "alu.go:36", after := #[eD 1, eD 13, eC 10], guard := none }) rfl (fun K hK => ?_) (AllReadyH.cons (o := { dst := some 8, op := Op.alloc 77, type := 0, pos := "alu.go:36", after := #[], guard := none }) rfl (fun K hK => ?_) (AllReadyH.nil))
    · refine wp_call_value (o := { dst := some 32, op := Op.call { callee := Callee.value (Operand.tmp 19), args := #[Operand.tmp 31], argTypes := #[80] }, type := 77, pos := "alu.go:36", after := #[eD 1, eD 13, eC 10], guard := none }) _ _ _ rfl f ?_ HF.out #[.agg (A.opnd s (s.r b.toNat) n u)] ?_ ?_
      · rfl
      · go_simp
      refine (HW.out _).mono ?_
      rintro e w6 ⟨rfl, hK5⟩
      have hN := (show (A.St s #[.int .i64 k, .int .i64 op, .int .i64 a, .int .i64 b, .int .i64 c, .int .i64 i, .bool u] w2.heap.size (A.row o f) w) _ from hHeld.step hK5)
      clear hHeld
      refine hK.out _ _ hN (fun hHeld => ?_)
      clear hK K hN
      try simp only [Act.put, List.setIfInBounds_toArray, List.set_cons_zero, List.set_cons_succ]
      refine wpAnyH_ready (rs := [15]) (by kernel_rfl) (by simp) ?_
      refine AllReadyH.cons (o := { dst := some 8, op := Op.alloc 77, type := 0, pos := "alu.go:36", after := #[], guard := none }) rfl (fun K hK => ?_) (AllReadyH.nil)
      have hl1 := hHeld.res.lt
      have hl2 := hHeld.row.lt
      go_simp
      have hA := Has.new #[.int .u32 0, .int .u32 0, .int .u32 0, .int .u32 0, .int .u32 0, .int .u32 0, .int .u32 0, .int .u32 0, .int .u32 0, .int .u32 0, .int .u32 0, .int .u32 0, .int .u32 0, .int .u32 0, .int .u32 0, .int .u32 0, .int .u32 0, .int .u32 0, .bool false, .bool false, .bool false, .bool false, .int .i64 0] 77 w6
      have hN := (show (A.St s #[.int .i64 k, .int .i64 op, .int .i64 a, .int .i64 b, .int .i64 c, .int .i64 i, .bool u] w2.heap.size (A.row o f) w) _ from hHeld.step ((Kept.refl _).alloc #[.int .u32 0, .int .u32 0, .int .u32 0, .int .u32 0, .int .u32 0, .int .u32 0, .int .u32 0, .int .u32 0, .int .u32 0, .int .u32 0, .int .u32 0, .int .u32 0, .int .u32 0, .int .u32 0, .int .u32 0, .int .u32 0, .int .u32 0, .int .u32 0, .bool false, .bool false, .bool false, .bool false, .int .i64 0] 77))
      clear hHeld
      refine hK.out _ _ hN (fun hHeld => ?_)
      clear hK K hN
      try simp only [Act.put, List.setIfInBounds_toArray, List.set_cons_zero, List.set_cons_succ]
      refine wpAnyH_ready (rs := [16]) (by kernel_rfl) (by simp) ?_
      refine AllReadyH.cons (o := { dst := none, op := Op.store 77 (Operand.tmp 8) (Operand.tmp 32), type := 0, pos := "alu.go:36", after := #[eD 15, eD 14, eC 14, eP 0, eP 1, eP 2, eP 3, eP 4, eP 5, eP 6, eP 7, eP 8, eP 9, eP 10, eP 11, eP 12, eP 13, eP 14, eP 15], guard := none }) rfl (fun K hK => ?_) (AllReadyH.nil)
      refine wp_store_row (o := { dst := none, op := Op.store 77 (Operand.tmp 8) (Operand.tmp 32), type := 0, pos := "alu.go:36", after := #[eD 15, eD 14, eC 14, eP 0, eP 1, eP 2, eP 3, eP 4, eP 5, eP 6, eP 7, eP 8, eP 9, eP 10, eP 11, eP 12, eP 13, eP 14, eP 15], guard := none }) 77 _ _ rfl _ (A.outc x s' 0) ?_ ?_ 77 _ hA (A.infoOut _ _ _) (by kernel_rfl) (A.one_outc _ _ _) ?_
      · rfl
      · rfl
      replace hA := hA.row (A.outc x s' 0)
      have hN := (show (A.St s #[.int .i64 k, .int .i64 op, .int .i64 a, .int .i64 b, .int .i64 c, .int .i64 i, .bool u] w2.heap.size (A.row o f) w) _ from hHeld.rowNew (by omega) (by omega) (A.outc x s' 0))
      clear hHeld
      refine hK.out _ _ hN (fun hHeld => ?_)
      clear hK K hN
      try simp only [Act.put, List.setIfInBounds_toArray, List.set_cons_zero, List.set_cons_succ]
      refine wpAnyH_done (by kernel_rfl) ?_ _
      generalize World.setRow _ _ _ = wF at hHeld hA
      have q1 := hA.cell 0 _ (A.outc_x _ _ _)
      have q2 := hA.cell 22 _ (A.outc_t _ _ _)
      have hl3 := hHeld.res.lt
      have hl4 := hHeld.row.lt
      have hl5 := hA.lt
      replace hHeld := Lib.hid hHeld
      replace hA := Lib.hid hA
      clear hS
      go_upto_region 8 with (first
        | (with_reducible refine load_part (o := ⟨some 40, _, _, _, _, _⟩) rfl 27 _ rfl _ 1 rfl (A.cells s') hA.out (A.outc_regs _ _ _) Try.underlying27 rfl (A.info25 _) ?_)
        | (with_reducible refine store_last (o := ⟨none, Op.store 27 (.tmp 9) _, _, _, _, _⟩) rfl 27 _ _ rfl _ _ rfl rfl rfl (A.info25 _) (by kernel_rfl) (A.one_cells _) ?_))
      clear q1 q2
      have hG := hHeld.out.step ((Kept.refl wF).alloc (A.cells s') 27)
      have h9 := Has.new (A.cells s') 27 wF
      have h8 := hA.out.alloc (.cells (A.cells s') 27)
      clear hHeld hA
      generalize wF.heap.size = B9 at *
      generalize wF.alloc _ = wG at *
      have c2 := hG.ins.cell 2 _ rfl
      have c3 := h8.cell 0 _ (A.outc_x _ _ _)
      have c9 := h9.cell a.toNat _ (A.cell_r s' a.toNat (by omega))
      have f9 := h9.free a.toNat
      replace hG := Lib.hid hG
      replace h9 := Lib.hid h9
      replace h8 := Lib.hid h8
      go_upto_region 9 with (fail)
      clear c2 c3 c9 f9
      have hH := hG.out.cell (p := ⟨B9, a.toNat, none⟩) hl3 hl4 (.int .u32 x)
      have h9' := h9.out.set a.toNat (.int .u32 x)
      rw [A.set_r s' a.toNat (by omega) x] at h9'
      have h8' := h8.out.other (p := ⟨B9, a.toNat, none⟩) (Nat.ne_of_lt hl5) (.int .u32 x)
      clear hG h9 h8
      generalize World.setCell _ _ _ = wH at *
      have c3 := h8'.cell 0 _ (A.outc_x _ _ _)
      replace hH := Lib.hid hH
      replace h9' := Lib.hid h9'
      clear h8'
      go_wp2_with (first
        | (with_reducible refine load_has (o := ⟨some 47, _, _, _, _, _⟩) rfl 27 _ rfl _ rfl h9'.out Try.underlying27 rfl (A.info25 _) ?_)
        | (with_reducible refine store_has (o := ⟨none, Op.store 27 (.tmp 4) _, _, _, _, _⟩) rfl 27 _ _ rfl _ _ rfl rfl hX.out (A.info25 _) (by kernel_rfl) (A.one_cells _) ?_)
        | (go_at_call 30; (refine (show_any _ x hx0 hx1 _).mono ?_; rintro e w7 ⟨rfl, hK7⟩); (have hX := Lib.hid (hH.out.res.kept hK7)); (have hK := Lib.hid (hH.out.kept.trans hK7)); clear hK7 c3))
      exact bodyPost_ret (results_has2 rfl (w.heap.size + 2) rfl (hX.out.row _) Try.underlying27 rfl (A.info25 _)) rfl ⟨rfl, hK.out.row (by omega) _⟩
    · have hl1 := hHeld.res.lt
      have hl2 := hHeld.row.lt
      go_simp
      have hA := Has.new #[.int .u32 0, .int .u32 0, .int .u32 0, .int .u32 0, .int .u32 0, .int .u32 0, .int .u32 0, .int .u32 0, .int .u32 0, .int .u32 0, .int .u32 0, .int .u32 0, .int .u32 0, .int .u32 0, .int .u32 0, .int .u32 0, .int .u32 0, .int .u32 0, .bool false, .bool false, .bool false, .bool false, .int .i64 0] 77 w5
      have hN := (show (A.St s #[.int .i64 k, .int .i64 op, .int .i64 a, .int .i64 b, .int .i64 c, .int .i64 i, .bool u] w2.heap.size (A.row o f) w) _ from hHeld.step ((Kept.refl _).alloc #[.int .u32 0, .int .u32 0, .int .u32 0, .int .u32 0, .int .u32 0, .int .u32 0, .int .u32 0, .int .u32 0, .int .u32 0, .int .u32 0, .int .u32 0, .int .u32 0, .int .u32 0, .int .u32 0, .int .u32 0, .int .u32 0, .int .u32 0, .int .u32 0, .bool false, .bool false, .bool false, .bool false, .int .i64 0] 77))
      clear hHeld
      refine hK.out _ _ hN (fun hHeld => ?_)
      clear hK K hN
      try simp only [Act.put, List.setIfInBounds_toArray, List.set_cons_zero, List.set_cons_succ]
      refine wpAnyH_ready (rs := [14]) (by kernel_rfl) (by simp) ?_
      refine AllReadyH.cons (o := { dst := some 32, op := Op.call { callee := Callee.value (Operand.tmp 19), args := #[Operand.tmp 31], argTypes := #[80] }, type := 77, pos := "alu.go:36", after := #[eD 1, eD 13, eC 10], guard := none }) rfl (fun K hK => ?_) (AllReadyH.nil)
      refine wp_call_value (o := { dst := some 32, op := Op.call { callee := Callee.value (Operand.tmp 19), args := #[Operand.tmp 31], argTypes := #[80] }, type := 77, pos := "alu.go:36", after := #[eD 1, eD 13, eC 10], guard := none }) _ _ _ rfl f ?_ HF.out #[.agg (A.opnd s (s.r b.toNat) n u)] ?_ ?_
      · rfl
      · go_simp
      refine (HW.out _).mono ?_
      rintro e w6 ⟨rfl, hK5⟩
      replace hA := hA.kept hK5
      have hN := (show (A.St s #[.int .i64 k, .int .i64 op, .int .i64 a, .int .i64 b, .int .i64 c, .int .i64 i, .bool u] w2.heap.size (A.row o f) w) _ from hHeld.step hK5)
      clear hHeld
      refine hK.out _ _ hN (fun hHeld => ?_)
      clear hK K hN
      try simp only [Act.put, List.setIfInBounds_toArray, List.set_cons_zero, List.set_cons_succ]
      refine wpAnyH_ready (rs := [16]) (by kernel_rfl) (by simp) ?_
      refine AllReadyH.cons (o := { dst := none, op := Op.store 77 (Operand.tmp 8) (Operand.tmp 32), type := 0, pos := "alu.go:36", after := #[eD 15, eD 14, eC 14, eP 0, eP 1, eP 2, eP 3, eP 4, eP 5, eP 6, eP 7, eP 8, eP 9, eP 10, eP 11, eP 12, eP 13, eP 14, eP 15], guard := none }) rfl (fun K hK => ?_) (AllReadyH.nil)
      refine wp_store_row (o := { dst := none, op := Op.store 77 (Operand.tmp 8) (Operand.tmp 32), type := 0, pos := "alu.go:36", after := #[eD 15, eD 14, eC 14, eP 0, eP 1, eP 2, eP 3, eP 4, eP 5, eP 6, eP 7, eP 8, eP 9, eP 10, eP 11, eP 12, eP 13, eP 14, eP 15], guard := none }) 77 _ _ rfl _ (A.outc x s' 0) ?_ ?_ 77 _ hA (A.infoOut _ _ _) (by kernel_rfl) (A.one_outc _ _ _) ?_
      · rfl
      · rfl
      replace hA := hA.row (A.outc x s' 0)
      have hN := (show (A.St s #[.int .i64 k, .int .i64 op, .int .i64 a, .int .i64 b, .int .i64 c, .int .i64 i, .bool u] w2.heap.size (A.row o f) w) _ from hHeld.rowNew (by omega) (by omega) (A.outc x s' 0))
      clear hHeld
      refine hK.out _ _ hN (fun hHeld => ?_)
      clear hK K hN
      try simp only [Act.put, List.setIfInBounds_toArray, List.set_cons_zero, List.set_cons_succ]
      refine wpAnyH_done (by kernel_rfl) ?_ _
      generalize World.setRow _ _ _ = wF at hHeld hA
      have q1 := hA.cell 0 _ (A.outc_x _ _ _)
      have q2 := hA.cell 22 _ (A.outc_t _ _ _)
      have hl3 := hHeld.res.lt
      have hl4 := hHeld.row.lt
      have hl5 := hA.lt
      replace hHeld := Lib.hid hHeld
      replace hA := Lib.hid hA
      clear hS
      go_upto_region 8 with (first
        | (with_reducible refine load_part (o := ⟨some 40, _, _, _, _, _⟩) rfl 27 _ rfl _ 1 rfl (A.cells s') hA.out (A.outc_regs _ _ _) Try.underlying27 rfl (A.info25 _) ?_)
        | (with_reducible refine store_last (o := ⟨none, Op.store 27 (.tmp 9) _, _, _, _, _⟩) rfl 27 _ _ rfl _ _ rfl rfl rfl (A.info25 _) (by kernel_rfl) (A.one_cells _) ?_))
      clear q1 q2
      have hG := hHeld.out.step ((Kept.refl wF).alloc (A.cells s') 27)
      have h9 := Has.new (A.cells s') 27 wF
      have h8 := hA.out.alloc (.cells (A.cells s') 27)
      clear hHeld hA
      generalize wF.heap.size = B9 at *
      generalize wF.alloc _ = wG at *
      have c2 := hG.ins.cell 2 _ rfl
      have c3 := h8.cell 0 _ (A.outc_x _ _ _)
      have c9 := h9.cell a.toNat _ (A.cell_r s' a.toNat (by omega))
      have f9 := h9.free a.toNat
      replace hG := Lib.hid hG
      replace h9 := Lib.hid h9
      replace h8 := Lib.hid h8
      go_upto_region 9 with (fail)
      clear c2 c3 c9 f9
      have hH := hG.out.cell (p := ⟨B9, a.toNat, none⟩) hl3 hl4 (.int .u32 x)
      have h9' := h9.out.set a.toNat (.int .u32 x)
      rw [A.set_r s' a.toNat (by omega) x] at h9'
      have h8' := h8.out.other (p := ⟨B9, a.toNat, none⟩) (Nat.ne_of_lt hl5) (.int .u32 x)
      clear hG h9 h8
      generalize World.setCell _ _ _ = wH at *
      have c3 := h8'.cell 0 _ (A.outc_x _ _ _)
      replace hH := Lib.hid hH
      replace h9' := Lib.hid h9'
      clear h8'
      go_wp2_with (first
        | (with_reducible refine load_has (o := ⟨some 47, _, _, _, _, _⟩) rfl 27 _ rfl _ rfl h9'.out Try.underlying27 rfl (A.info25 _) ?_)
        | (with_reducible refine store_has (o := ⟨none, Op.store 27 (.tmp 4) _, _, _, _, _⟩) rfl 27 _ _ rfl _ _ rfl rfl hX.out (A.info25 _) (by kernel_rfl) (A.one_cells _) ?_)
        | (go_at_call 30; (refine (show_any _ x hx0 hx1 _).mono ?_; rintro e w7 ⟨rfl, hK7⟩); (have hX := Lib.hid (hH.out.res.kept hK7)); (have hK := Lib.hid (hH.out.kept.trans hK7)); clear hK7 c3))
      exact bodyPost_ret (results_has2 rfl (w.heap.size + 2) rfl (hX.out.row _) Try.underlying27 rfl (A.info25 _)) rfl ⟨rfl, hK.out.row (by omega) _⟩
  · have hl1 := hHeld.res.lt
    have hl2 := hHeld.row.lt
    go_simp
    have hA := Has.new #[.int .u32 0, .int .u32 0, .int .u32 0, .int .u32 0, .int .u32 0, .int .u32 0, .int .u32 0, .int .u32 0, .int .u32 0, .int .u32 0, .int .u32 0, .int .u32 0, .int .u32 0, .int .u32 0, .int .u32 0, .int .u32 0, .int .u32 0, .int .u32 0, .bool false, .bool false, .bool false, .bool false, .int .i64 0] 77 ((w2.alloc (.cells (A.row o f) 73)).drew)
    have e8 : ((w2.alloc (.cells (A.row o f) 73)).drew).heap.size = w2.heap.size + 1 := by show (w2.heap.push _).size = _; simp
    rw [e8] at hA hl1 hl2
    clear e8
    have hN := (show (A.St s #[.int .i64 k, .int .i64 op, .int .i64 a, .int .i64 b, .int .i64 c, .int .i64 i, .bool u] w2.heap.size (A.row o f) w) _ from hHeld.step ((Kept.refl _).alloc #[.int .u32 0, .int .u32 0, .int .u32 0, .int .u32 0, .int .u32 0, .int .u32 0, .int .u32 0, .int .u32 0, .int .u32 0, .int .u32 0, .int .u32 0, .int .u32 0, .int .u32 0, .int .u32 0, .int .u32 0, .int .u32 0, .int .u32 0, .int .u32 0, .bool false, .bool false, .bool false, .bool false, .int .i64 0] 77))
    clear hHeld
    refine hK.out _ _ hN (fun hHeld => ?_)
    clear hK K hN
    try simp only [Act.put, List.setIfInBounds_toArray, List.set_cons_zero, List.set_cons_succ]
    refine wpAnyH_ready (rs := [10]) (by kernel_rfl) (by simp) ?_
    refine AllReadyH.cons (o := { dst := some 28, op := Op.call { callee := Callee.value (Operand.func 29), args := #[Operand.tmp 26, Operand.tmp 27], argTypes := #[27, 23] }, type := 24, pos := "alu.go:36", after := #[eD 8, eD 9], guard := none }) rfl (fun K hK => ?_) (AllReadyH.nil)
    go_simp
    go_at_call 29
    refine (HN.out _).mono ?_
    rintro e w5 ⟨rfl, hK5⟩
    replace hA := hA.kept hK5
    have hN := (show (A.St s #[.int .i64 k, .int .i64 op, .int .i64 a, .int .i64 b, .int .i64 c, .int .i64 i, .bool u] w2.heap.size (A.row o f) w) _ from hHeld.step hK5)
    clear hHeld
    refine hK.out _ _ hN (fun hHeld => ?_)
    clear hK K hN
    try simp only [Act.put, List.setIfInBounds_toArray, List.set_cons_zero, List.set_cons_succ]
    refine wpAnyH_take (i := 13) (oi := { dst := some 31, op := Op.build 80 #[(0, Operand.tmp 20), (1, Operand.tmp 25), (2, Operand.tmp 28), (3, Operand.tmp 30)], type := 80, pos := "alu.go:36", after := #[eD 2, eD 7, eD 10, eD 12], guard := none }) (v := ?_) rfl (by kernel_rfl) (by kernel_rfl) (by kernel_rfl) (fun _ _ _ h => h) (Or.inl ⟨rfl, ?_⟩) hHeld ?_
    rotate_left
    · (intro wz hSw; refine exec_build (o := { dst := some 31, op := Op.build 80 #[(0, Operand.tmp 20), (1, Operand.tmp 25), (2, Operand.tmp 28), (3, Operand.tmp 30)], type := 80, pos := "alu.go:36", after := #[eD 2, eD 7, eD 10, eD 12], guard := none }) 80 _ rfl (A.opnd s (s.r b.toNat) n u) ?_; (go_simp; exact A.builtOp _ _ _ _))
    try simp only [Act.put, List.setIfInBounds_toArray, List.set_cons_zero, List.set_cons_succ]
    refine wpAnyH_ready (rs := [14]) (by kernel_rfl) (by simp) ?_
    refine AllReadyH.cons (o := { dst := some 32, op := Op.call { callee := Callee.value (Operand.tmp 19), args := #[Operand.tmp 31], argTypes := #[80] }, type := 77, pos := "alu.go:36", after := #[eD 1, eD 13, eC 10], guard := none }) rfl (fun K hK => ?_) (AllReadyH.nil)
    refine wp_call_value (o := { dst := some 32, op := Op.call { callee := Callee.value (Operand.tmp 19), args := #[Operand.tmp 31], argTypes := #[80] }, type := 77, pos := "alu.go:36", after := #[eD 1, eD 13, eC 10], guard := none }) _ _ _ rfl f ?_ HF.out #[.agg (A.opnd s (s.r b.toNat) n u)] ?_ ?_
    · rfl
    · go_simp
    refine (HW.out _).mono ?_
    rintro e w6 ⟨rfl, hK5⟩
    replace hA := hA.kept hK5
    have hN := (show (A.St s #[.int .i64 k, .int .i64 op, .int .i64 a, .int .i64 b, .int .i64 c, .int .i64 i, .bool u] w2.heap.size (A.row o f) w) _ from hHeld.step hK5)
    clear hHeld
    refine hK.out _ _ hN (fun hHeld => ?_)
    clear hK K hN
    try simp only [Act.put, List.setIfInBounds_toArray, List.set_cons_zero, List.set_cons_succ]
    refine wpAnyH_ready (rs := [16]) (by kernel_rfl) (by simp) ?_
    refine AllReadyH.cons (o := { dst := none, op := Op.store 77 (Operand.tmp 8) (Operand.tmp 32), type := 0, pos := "alu.go:36", after := #[eD 15, eD 14, eC 14, eP 0, eP 1, eP 2, eP 3, eP 4, eP 5, eP 6, eP 7, eP 8, eP 9, eP 10, eP 11, eP 12, eP 13, eP 14, eP 15], guard := none }) rfl (fun K hK => ?_) (AllReadyH.nil)
    refine wp_store_row (o := { dst := none, op := Op.store 77 (Operand.tmp 8) (Operand.tmp 32), type := 0, pos := "alu.go:36", after := #[eD 15, eD 14, eC 14, eP 0, eP 1, eP 2, eP 3, eP 4, eP 5, eP 6, eP 7, eP 8, eP 9, eP 10, eP 11, eP 12, eP 13, eP 14, eP 15], guard := none }) 77 _ _ rfl _ (A.outc x s' 0) ?_ ?_ 77 _ hA (A.infoOut _ _ _) (by kernel_rfl) (A.one_outc _ _ _) ?_
    · rfl
    · rfl
    replace hA := hA.row (A.outc x s' 0)
    have hN := (show (A.St s #[.int .i64 k, .int .i64 op, .int .i64 a, .int .i64 b, .int .i64 c, .int .i64 i, .bool u] w2.heap.size (A.row o f) w) _ from hHeld.rowNew (by omega) (by omega) (A.outc x s' 0))
    clear hHeld
    refine hK.out _ _ hN (fun hHeld => ?_)
    clear hK K hN
    try simp only [Act.put, List.setIfInBounds_toArray, List.set_cons_zero, List.set_cons_succ]
    refine wpAnyH_done (by kernel_rfl) ?_ _
    generalize World.setRow _ _ _ = wF at hHeld hA
    have q1 := hA.cell 0 _ (A.outc_x _ _ _)
    have q2 := hA.cell 22 _ (A.outc_t _ _ _)
    have hl3 := hHeld.res.lt
    have hl4 := hHeld.row.lt
    have hl5 := hA.lt
    replace hHeld := Lib.hid hHeld
    replace hA := Lib.hid hA
    clear hS
    go_upto_region 8 with (first
      | (with_reducible refine load_part (o := ⟨some 40, _, _, _, _, _⟩) rfl 27 _ rfl _ 1 rfl (A.cells s') hA.out (A.outc_regs _ _ _) Try.underlying27 rfl (A.info25 _) ?_)
      | (with_reducible refine store_last (o := ⟨none, Op.store 27 (.tmp 9) _, _, _, _, _⟩) rfl 27 _ _ rfl _ _ rfl rfl rfl (A.info25 _) (by kernel_rfl) (A.one_cells _) ?_))
    clear q1 q2
    have hG := hHeld.out.step ((Kept.refl wF).alloc (A.cells s') 27)
    have h9 := Has.new (A.cells s') 27 wF
    have h8 := hA.out.alloc (.cells (A.cells s') 27)
    clear hHeld hA
    generalize wF.heap.size = B9 at *
    generalize wF.alloc _ = wG at *
    have c2 := hG.ins.cell 2 _ rfl
    have c3 := h8.cell 0 _ (A.outc_x _ _ _)
    have c9 := h9.cell a.toNat _ (A.cell_r s' a.toNat (by omega))
    have f9 := h9.free a.toNat
    replace hG := Lib.hid hG
    replace h9 := Lib.hid h9
    replace h8 := Lib.hid h8
    go_upto_region 9 with (fail)
    clear c2 c3 c9 f9
    have hH := hG.out.cell (p := ⟨B9, a.toNat, none⟩) hl3 hl4 (.int .u32 x)
    have h9' := h9.out.set a.toNat (.int .u32 x)
    rw [A.set_r s' a.toNat (by omega) x] at h9'
    have h8' := h8.out.other (p := ⟨B9, a.toNat, none⟩) (Nat.ne_of_lt hl5) (.int .u32 x)
    clear hG h9 h8
    generalize World.setCell _ _ _ = wH at *
    have c3 := h8'.cell 0 _ (A.outc_x _ _ _)
    replace hH := Lib.hid hH
    replace h9' := Lib.hid h9'
    clear h8'
    go_wp2_with (first
      | (with_reducible refine load_has (o := ⟨some 47, _, _, _, _, _⟩) rfl 27 _ rfl _ rfl h9'.out Try.underlying27 rfl (A.info25 _) ?_)
      | (with_reducible refine store_has (o := ⟨none, Op.store 27 (.tmp 4) _, _, _, _, _⟩) rfl 27 _ _ rfl _ _ rfl rfl hX.out (A.info25 _) (by kernel_rfl) (A.one_cells _) ?_)
      | (go_at_call 30; (refine (show_any _ x hx0 hx1 _).mono ?_; rintro e w7 ⟨rfl, hK7⟩); (have hX := Lib.hid (hH.out.res.kept hK7)); (have hK := Lib.hid (hH.out.kept.trans hK7)); clear hK7 c3))
    exact bodyPost_ret (results_has2 rfl (w.heap.size + 2) rfl (hX.out.row _) Try.underlying27 rfl (A.info25 _)) rfl ⟨rfl, hK.out.row (by omega) _⟩
set_option maxHeartbeats 2000000 in
theorem do_trap (s s' : A.Regs) (k op a b c i n x o : Int) (u : Bool) (f : Nat) (ha0 : 0 ≤ a) (ha1 : a < 16) (hb0 : 0 ≤ b) (hb1 : b < 16) (w : World)
    (HO : Hid (∀ w, Calls Try.prog 28 #[.agg #[.int .i64 k, .int .i64 op, .int .i64 a, .int .i64 b, .int .i64 c, .int .i64 i, .bool u]] w fun e w' => e = .returned (.tuple #[.agg (A.row o f), .bool true]) ∧ Kept w w'))
    (HN : Hid (∀ w, Calls Try.prog 29 #[.agg (A.cells s), .agg #[.int .i64 k, .int .i64 op, .int .i64 a, .int .i64 b, .int .i64 c, .int .i64 i, .bool u]] w fun e w' => e = .returned (.int .u32 n) ∧ Kept w w'))
    (HF : Hid (∀ args w, (callFunc f args).run Try.prog w = .ok (.enter f args) w))
    (HW : Hid (∀ w, Calls Try.prog f #[.agg (A.opnd s (s.r b.toNat) n u)] w fun e w' => e = .returned (.agg (A.outc x s' 5)) ∧ Kept w w')) :
    Calls Try.prog 14 #[.agg (A.cells s), .agg #[.int .i64 k, .int .i64 op, .int .i64 a, .int .i64 b, .int .i64 c, .int .i64 i, .bool u]] w fun e w' => e = .returned (.tuple #[.agg (A.cells s), .int .i64 5]) ∧ Kept w w' := by
  go_enter Try.func14, Try.ntmps14
  go_wp2_with fail
  refine (HO.out _).mono ?_; rintro e w2 ⟨rfl, hK2⟩
  have hX : Has (w.heap.size + 2) (A.cells A.none') 27 w2 := (Has.new2 _ _ _ _ _).kept hK2
  have hR := (((Has.new _ _ _).alloc _).alloc _).kept hK2
  have hI := ((Has.new1 _ _ _ _).alloc _).kept hK2
  have hK := ((((Kept.refl w).alloc _ _).alloc _ _).alloc _ _).trans hK2
  clear hK2
  have hS : A.St s #[.int .i64 k, .int .i64 op, .int .i64 a, .int .i64 b, .int .i64 c, .int .i64 i, .bool u] w2.heap.size (A.row o f) w (w2.alloc (.cells (A.row o f) 73)) := ⟨hK.alloc _ _, hR.alloc _, hI.alloc _, hX.alloc _, Has.new _ _ _⟩
  clear hX hR hI hK
  replace hS := Lib.hid hS
  go_upto_region 4 with (first
    | (with_reducible refine store_last (o := ⟨none, Op.store 73 _ _, _, _, _, _⟩) rfl 73 _ _ rfl _ _ rfl rfl rfl (A.infoRow _ _) (by kernel_rfl) (A.one_row _ _) ?_))
  refine wp_region_held_drew (S := A.St s #[.int .i64 k, .int .i64 op, .int .i64 a, .int .i64 b, .int .i64 c, .int .i64 i, .bool u] w2.heap.size (A.row o f) w) (by kernel_rfl) ?_ (fun hHeld => ?_)
  · exact hS.out.step (Kept.refl _).drew
  refine wpAnyH_take (i := 0) (oi := { dst := some 18, op := Op.fieldAddr 73 (Operand.tmp 6) 1, type := 0, pos := "alu.go:36", after := #[], guard := none }) (v := ?_) rfl (by kernel_rfl) (by kernel_rfl) (by kernel_rfl) (fun _ _ _ h => h) (Or.inl ⟨rfl, ?_⟩) hHeld ?_
  rotate_left
  · (intro wz hSw; (try dsimp only at hSw); have q0 := hSw.row.cell 1 _ (A.row_1 _ _); have q1 := hSw.ins.cell 3 _ rfl; have q2 := hSw.ins.cell 6 _ rfl; have q3 := hSw.regs.cell b.toNat _ (A.cell_r s b.toNat (by omega)); go_simp; try with_reducible rfl)
  try simp only [Act.put, List.setIfInBounds_toArray, List.set_cons_zero, List.set_cons_succ]
  refine wpAnyH_take (i := 1) (oi := { dst := some 19, op := Op.load 71 (Operand.tmp 18), type := 71, pos := "alu.go:36", after := #[eD 0], guard := none }) (v := ?_) rfl (by kernel_rfl) (by kernel_rfl) (by kernel_rfl) (fun _ _ _ h => h) (Or.inl ⟨rfl, ?_⟩) hHeld ?_
  rotate_left
  · (intro wz hSw; (try dsimp only at hSw); have q0 := hSw.row.cell 1 _ (A.row_1 _ _); have q1 := hSw.ins.cell 3 _ rfl; have q2 := hSw.ins.cell 6 _ rfl; have q3 := hSw.regs.cell b.toNat _ (A.cell_r s b.toNat (by omega)); go_simp; try with_reducible rfl)
  try simp only [Act.put, List.setIfInBounds_toArray, List.set_cons_zero, List.set_cons_succ]
  refine wpAnyH_take (i := 2) (oi := { dst := some 20, op := Op.load 27 (Operand.tmp 2), type := 27, pos := "alu.go:36", after := #[], guard := none }) (v := ?_) rfl (by kernel_rfl) (by kernel_rfl) (by kernel_rfl) (fun _ _ _ h => h) (Or.inl ⟨rfl, ?_⟩) hHeld ?_
  rotate_left
  · (intro wz hSw; refine exec_load_has 27 (Operand.tmp 2) ?_ _ ?_ hSw.regs Try.underlying27 rfl (A.info25 _) <;> rfl)
  try simp only [Act.put, List.setIfInBounds_toArray, List.set_cons_zero, List.set_cons_succ]
  refine wpAnyH_take (i := 3) (oi := { dst := some 21, op := Op.fieldAddr 23 (Operand.tmp 3) 3, type := 0, pos := "alu.go:36", after := #[], guard := none }) (v := ?_) rfl (by kernel_rfl) (by kernel_rfl) (by kernel_rfl) (fun _ _ _ h => h) (Or.inl ⟨rfl, ?_⟩) hHeld ?_
  rotate_left
  · (intro wz hSw; (try dsimp only at hSw); have q0 := hSw.row.cell 1 _ (A.row_1 _ _); have q1 := hSw.ins.cell 3 _ rfl; have q2 := hSw.ins.cell 6 _ rfl; have q3 := hSw.regs.cell b.toNat _ (A.cell_r s b.toNat (by omega)); go_simp; try with_reducible rfl)
  try simp only [Act.put, List.setIfInBounds_toArray, List.set_cons_zero, List.set_cons_succ]
  refine wpAnyH_take (i := 4) (oi := { dst := some 22, op := Op.load 3 (Operand.tmp 21), type := 3, pos := "alu.go:36", after := #[eD 3], guard := none }) (v := ?_) rfl (by kernel_rfl) (by kernel_rfl) (by kernel_rfl) (fun _ _ _ h => h) (Or.inl ⟨rfl, ?_⟩) hHeld ?_
  rotate_left
  · (intro wz hSw; (try dsimp only at hSw); have q0 := hSw.row.cell 1 _ (A.row_1 _ _); have q1 := hSw.ins.cell 3 _ rfl; have q2 := hSw.ins.cell 6 _ rfl; have q3 := hSw.regs.cell b.toNat _ (A.cell_r s b.toNat (by omega)); go_simp; try with_reducible rfl)
  try simp only [Act.put, List.setIfInBounds_toArray, List.set_cons_zero, List.set_cons_succ]
  refine wpAnyH_take (i := 5) (oi := { dst := some 23, op := Op.fieldAddr 27 (Operand.tmp 2) 0, type := 0, pos := "alu.go:36", after := #[], guard := none }) (v := ?_) rfl (by kernel_rfl) (by kernel_rfl) (by kernel_rfl) (fun _ _ _ h => h) (Or.inl ⟨rfl, ?_⟩) hHeld ?_
  rotate_left
  · (intro wz hSw; (try dsimp only at hSw); have q0 := hSw.row.cell 1 _ (A.row_1 _ _); have q1 := hSw.ins.cell 3 _ rfl; have q2 := hSw.ins.cell 6 _ rfl; have q3 := hSw.regs.cell b.toNat _ (A.cell_r s b.toNat (by omega)); go_simp; try with_reducible rfl)
  try simp only [Act.put, List.setIfInBounds_toArray, List.set_cons_zero, List.set_cons_succ]
  refine wpAnyH_take (i := 6) (oi := { dst := some 24, op := Op.indexAddr 25 (Operand.tmp 23) (Operand.tmp 22), type := 0, pos := "alu.go:36", after := #[eD 5, eD 4], guard := none }) (v := ?_) rfl (by kernel_rfl) (by kernel_rfl) (by kernel_rfl) (fun _ _ _ h => h) (Or.inl ⟨rfl, ?_⟩) hHeld ?_
  rotate_left
  · (intro wz hSw; (try dsimp only at hSw); have q0 := hSw.row.cell 1 _ (A.row_1 _ _); have q1 := hSw.ins.cell 3 _ rfl; have q2 := hSw.ins.cell 6 _ rfl; have q3 := hSw.regs.cell b.toNat _ (A.cell_r s b.toNat (by omega)); go_simp; try with_reducible rfl)
  try simp only [Act.put, List.setIfInBounds_toArray, List.set_cons_zero, List.set_cons_succ]
  refine wpAnyH_take (i := 7) (oi := { dst := some 25, op := Op.load 24 (Operand.tmp 24), type := 24, pos := "alu.go:36", after := #[eD 6], guard := none }) (v := ?_) rfl (by kernel_rfl) (by kernel_rfl) (by kernel_rfl) (fun _ _ _ h => h) (Or.inl ⟨rfl, ?_⟩) hHeld ?_
  rotate_left
  · (intro wz hSw; (try dsimp only at hSw); have q0 := hSw.row.cell 1 _ (A.row_1 _ _); have q1 := hSw.ins.cell 3 _ rfl; have q2 := hSw.ins.cell 6 _ rfl; have q3 := hSw.regs.cell b.toNat _ (A.cell_r s b.toNat (by omega)); go_simp; try with_reducible rfl)
  try simp only [Act.put, List.setIfInBounds_toArray, List.set_cons_zero, List.set_cons_succ]
  refine wpAnyH_take (i := 8) (oi := { dst := some 26, op := Op.load 27 (Operand.tmp 2), type := 27, pos := "alu.go:36", after := #[], guard := none }) (v := ?_) rfl (by kernel_rfl) (by kernel_rfl) (by kernel_rfl) (fun _ _ _ h => h) (Or.inl ⟨rfl, ?_⟩) hHeld ?_
  rotate_left
  · (intro wz hSw; refine exec_load_has 27 (Operand.tmp 2) ?_ _ ?_ hSw.regs Try.underlying27 rfl (A.info25 _) <;> rfl)
  try simp only [Act.put, List.setIfInBounds_toArray, List.set_cons_zero, List.set_cons_succ]
  refine wpAnyH_take (i := 9) (oi := { dst := some 27, op := Op.load 23 (Operand.tmp 3), type := 23, pos := "alu.go:36", after := #[], guard := none }) (v := ?_) rfl (by kernel_rfl) (by kernel_rfl) (by kernel_rfl) (fun _ _ _ h => h) (Or.inl ⟨rfl, ?_⟩) hHeld ?_
  rotate_left
  · (intro wz hSw; refine exec_load_has 23 (Operand.tmp 3) ?_ _ ?_ hSw.ins Try.underlying23 rfl (by kernel_rfl) <;> rfl)
  try simp only [Act.put, List.setIfInBounds_toArray, List.set_cons_zero, List.set_cons_succ]
  refine wpAnyH_take (i := 11) (oi := { dst := some 29, op := Op.fieldAddr 23 (Operand.tmp 3) 6, type := 0, pos := "alu.go:36", after := #[], guard := none }) (v := ?_) rfl (by kernel_rfl) (by kernel_rfl) (by kernel_rfl) (fun _ _ _ h => h) (Or.inl ⟨rfl, ?_⟩) hHeld ?_
  rotate_left
  · (intro wz hSw; (try dsimp only at hSw); have q0 := hSw.row.cell 1 _ (A.row_1 _ _); have q1 := hSw.ins.cell 3 _ rfl; have q2 := hSw.ins.cell 6 _ rfl; have q3 := hSw.regs.cell b.toNat _ (A.cell_r s b.toNat (by omega)); go_simp; try with_reducible rfl)
  try simp only [Act.put, List.setIfInBounds_toArray, List.set_cons_zero, List.set_cons_succ]
  refine wpAnyH_take (i := 12) (oi := { dst := some 30, op := Op.load 4 (Operand.tmp 29), type := 4, pos := "alu.go:36", after := #[eD 11], guard := none }) (v := ?_) rfl (by kernel_rfl) (by kernel_rfl) (by kernel_rfl) (fun _ _ _ h => h) (Or.inl ⟨rfl, ?_⟩) hHeld ?_
  rotate_left
  · (intro wz hSw; (try dsimp only at hSw); have q0 := hSw.row.cell 1 _ (A.row_1 _ _); have q1 := hSw.ins.cell 3 _ rfl; have q2 := hSw.ins.cell 6 _ rfl; have q3 := hSw.regs.cell b.toNat _ (A.cell_r s b.toNat (by omega)); go_simp; try with_reducible rfl)
  try simp only [Act.put, List.setIfInBounds_toArray, List.set_cons_zero, List.set_cons_succ]
  refine wpAnyH_ready (rs := [10, 15]) (by kernel_rfl) (by simp) ?_
  refine AllReadyH.cons (o := { dst := some 28, op := Op.call { callee := Callee.value (Operand.func 29), args := #[Operand.tmp 26, Operand.tmp 27], argTypes := #[27, 23] }, type := 24, pos := "alu.go:36", after := #[eD 8, eD 9], guard := none }) rfl (fun K hK => ?_) (AllReadyH.cons (o := { dst := some 8, op := Op.alloc 77, type := 0, pos := "alu.go:36", after := #[], guard := none }) rfl (fun K hK => ?_) (AllReadyH.nil))
  · go_simp
    go_at_call 29
    refine (HN.out _).mono ?_
    rintro e w5 ⟨rfl, hK5⟩
    have hN := (show (A.St s #[.int .i64 k, .int .i64 op, .int .i64 a, .int .i64 b, .int .i64 c, .int .i64 i, .bool u] w2.heap.size (A.row o f) w) _ from hHeld.step hK5)
    clear hHeld
    refine hK.out _ _ hN (fun hHeld => ?_)
    clear hK K hN
    try simp only [Act.put, List.setIfInBounds_toArray, List.set_cons_zero, List.set_cons_succ]
    refine wpAnyH_take (i := 13) (oi := { dst := some 31, op := Op.build 80 #[(0, Operand.tmp 20), (1, Operand.tmp 25), (2, Operand.tmp 28), (3, Operand.tmp 30)], type := 80, pos := "alu.go:36", after := #[eD 2, eD 7, eD 10, eD 12], guard := none }) (v := ?_) rfl (by kernel_rfl) (by kernel_rfl) (by kernel_rfl) (fun _ _ _ h => h) (Or.inl ⟨rfl, ?_⟩) hHeld ?_
    rotate_left
    · (intro wz hSw; refine exec_build (o := { dst := some 31, op := Op.build 80 #[(0, Operand.tmp 20), (1, Operand.tmp 25), (2, Operand.tmp 28), (3, Operand.tmp 30)], type := 80, pos := "alu.go:36", after := #[eD 2, eD 7, eD 10, eD 12], guard := none }) 80 _ rfl (A.opnd s (s.r b.toNat) n u) ?_; (go_simp; exact A.builtOp _ _ _ _))
    try simp only [Act.put, List.setIfInBounds_toArray, List.set_cons_zero, List.set_cons_succ]
    refine wpAnyH_ready (rs := [14, 15]) (by kernel_rfl) (by simp) ?_
    refine AllReadyH.cons (o := { dst := some 32, op := Op.call { callee := Callee.value (Operand.tmp 19), args := #[Operand.tmp 31], argTypes := #[80] }, type := 77, pos := "alu.go:36", after := #[eD 1, eD 13, eC 10], guard := none }) rfl (fun K hK => ?_) (AllReadyH.cons (o := { dst := some 8, op := Op.alloc 77, type := 0, pos := "alu.go:36", after := #[], guard := none }) rfl (fun K hK => ?_) (AllReadyH.nil))
    · refine wp_call_value (o := { dst := some 32, op := Op.call { callee := Callee.value (Operand.tmp 19), args := #[Operand.tmp 31], argTypes := #[80] }, type := 77, pos := "alu.go:36", after := #[eD 1, eD 13, eC 10], guard := none }) _ _ _ rfl f ?_ HF.out #[.agg (A.opnd s (s.r b.toNat) n u)] ?_ ?_
      · rfl
      · go_simp
      refine (HW.out _).mono ?_
      rintro e w6 ⟨rfl, hK5⟩
      have hN := (show (A.St s #[.int .i64 k, .int .i64 op, .int .i64 a, .int .i64 b, .int .i64 c, .int .i64 i, .bool u] w2.heap.size (A.row o f) w) _ from hHeld.step hK5)
      clear hHeld
      refine hK.out _ _ hN (fun hHeld => ?_)
      clear hK K hN
      try simp only [Act.put, List.setIfInBounds_toArray, List.set_cons_zero, List.set_cons_succ]
      refine wpAnyH_ready (rs := [15]) (by kernel_rfl) (by simp) ?_
      refine AllReadyH.cons (o := { dst := some 8, op := Op.alloc 77, type := 0, pos := "alu.go:36", after := #[], guard := none }) rfl (fun K hK => ?_) (AllReadyH.nil)
      have hl1 := hHeld.res.lt
      have hl2 := hHeld.row.lt
      go_simp
      have hA := Has.new #[.int .u32 0, .int .u32 0, .int .u32 0, .int .u32 0, .int .u32 0, .int .u32 0, .int .u32 0, .int .u32 0, .int .u32 0, .int .u32 0, .int .u32 0, .int .u32 0, .int .u32 0, .int .u32 0, .int .u32 0, .int .u32 0, .int .u32 0, .int .u32 0, .bool false, .bool false, .bool false, .bool false, .int .i64 0] 77 w6
      have hN := (show (A.St s #[.int .i64 k, .int .i64 op, .int .i64 a, .int .i64 b, .int .i64 c, .int .i64 i, .bool u] w2.heap.size (A.row o f) w) _ from hHeld.step ((Kept.refl _).alloc #[.int .u32 0, .int .u32 0, .int .u32 0, .int .u32 0, .int .u32 0, .int .u32 0, .int .u32 0, .int .u32 0, .int .u32 0, .int .u32 0, .int .u32 0, .int .u32 0, .int .u32 0, .int .u32 0, .int .u32 0, .int .u32 0, .int .u32 0, .int .u32 0, .bool false, .bool false, .bool false, .bool false, .int .i64 0] 77))
      clear hHeld
      refine hK.out _ _ hN (fun hHeld => ?_)
      clear hK K hN
      try simp only [Act.put, List.setIfInBounds_toArray, List.set_cons_zero, List.set_cons_succ]
      refine wpAnyH_ready (rs := [16]) (by kernel_rfl) (by simp) ?_
      refine AllReadyH.cons (o := { dst := none, op := Op.store 77 (Operand.tmp 8) (Operand.tmp 32), type := 0, pos := "alu.go:36", after := #[eD 15, eD 14, eC 14, eP 0, eP 1, eP 2, eP 3, eP 4, eP 5, eP 6, eP 7, eP 8, eP 9, eP 10, eP 11, eP 12, eP 13, eP 14, eP 15], guard := none }) rfl (fun K hK => ?_) (AllReadyH.nil)
      refine wp_store_row (o := { dst := none, op := Op.store 77 (Operand.tmp 8) (Operand.tmp 32), type := 0, pos := "alu.go:36", after := #[eD 15, eD 14, eC 14, eP 0, eP 1, eP 2, eP 3, eP 4, eP 5, eP 6, eP 7, eP 8, eP 9, eP 10, eP 11, eP 12, eP 13, eP 14, eP 15], guard := none }) 77 _ _ rfl _ (A.outc x s' 5) ?_ ?_ 77 _ hA (A.infoOut _ _ _) (by kernel_rfl) (A.one_outc _ _ _) ?_
      · rfl
      · rfl
      replace hA := hA.row (A.outc x s' 5)
      have hN := (show (A.St s #[.int .i64 k, .int .i64 op, .int .i64 a, .int .i64 b, .int .i64 c, .int .i64 i, .bool u] w2.heap.size (A.row o f) w) _ from hHeld.rowNew (by omega) (by omega) (A.outc x s' 5))
      clear hHeld
      refine hK.out _ _ hN (fun hHeld => ?_)
      clear hK K hN
      try simp only [Act.put, List.setIfInBounds_toArray, List.set_cons_zero, List.set_cons_succ]
      refine wpAnyH_done (by kernel_rfl) ?_ _
      generalize World.setRow _ _ _ = wF at hHeld hA
      have q2 := hA.cell 22 _ (A.outc_t _ _ _)
      have H6 := Lib.hid (show Kept w wF ∧ Has w.heap.size (A.cells s) 27 wF ∧ Has _ (A.outc x s' 5) 77 wF ∧ HasN (w.heap.size + 2) 21 27 wF from ⟨hHeld.kept, hHeld.regs, hA, ⟨_, rfl, hHeld.res⟩⟩)
      clear hHeld hA hS
      go_upto_region 6 with (fail)
      clear q2
      refine wp_region_held_drew (S := fun w' => Kept w w' ∧ Has w.heap.size (A.cells s) 27 w' ∧ Has w6.heap.size (A.outc x s' 5) 77 w' ∧ HasN (w.heap.size + 2) 21 27 w') (by kernel_rfl) ?_ (fun hHeld => ?_)
      · exact ⟨H6.out.1.drew, H6.out.2.1.drew, H6.out.2.2.1.drew, H6.out.2.2.2⟩
      refine wpAnyH_take (i := 0) (oi := { dst := some 36, op := Op.load 27 (Operand.tmp 2), type := 27, pos := "alu.go:38", after := #[], guard := none }) (v := ?_) rfl (by kernel_rfl) (by kernel_rfl) (by kernel_rfl) (fun _ _ _ h => h) (Or.inl ⟨rfl, ?_⟩) hHeld ?_
      rotate_left
      · (intro wz hSw; refine exec_load_has 27 (Operand.tmp 2) ?_ _ ?_ hSw.2.1 Try.underlying27 rfl (A.info25 _) <;> rfl)
      try simp only [Act.put, List.setIfInBounds_toArray, List.set_cons_zero, List.set_cons_succ]
      refine wpAnyH_take (i := 1) (oi := { dst := some 37, op := Op.fieldAddr 77 (Operand.tmp 8) 2, type := 0, pos := "alu.go:38", after := #[eL 3], guard := none }) (v := ?_) rfl (by kernel_rfl) (by kernel_rfl) (by kernel_rfl) (fun _ _ _ h => h) (Or.inl ⟨rfl, ?_⟩) hHeld ?_
      rotate_left
      · (intro wz hSw; (try dsimp only at hSw); have q0 := hSw.2.2.1.cell 22 _ (A.outc_t _ _ _); go_simp; try with_reducible rfl)
      try simp only [Act.put, List.setIfInBounds_toArray, List.set_cons_zero, List.set_cons_succ]
      refine wpAnyH_take (i := 2) (oi := { dst := some 38, op := Op.load 3 (Operand.tmp 37), type := 3, pos := "alu.go:38", after := #[eD 1, eL 3], guard := none }) (v := ?_) rfl (by kernel_rfl) (by kernel_rfl) (by kernel_rfl) (fun _ _ _ h => h) (Or.inl ⟨rfl, ?_⟩) hHeld ?_
      rotate_left
      · (intro wz hSw; (try dsimp only at hSw); have q0 := hSw.2.2.1.cell 22 _ (A.outc_t _ _ _); go_simp; try with_reducible rfl)
      try simp only [Act.put, List.setIfInBounds_toArray, List.set_cons_zero, List.set_cons_succ]
      refine wpAnyH_ready (rs := [3]) (by kernel_rfl) (by simp) ?_
      refine AllReadyH.cons (o := { dst := none, op := Op.store 27 (Operand.tmp 4) (Operand.tmp 36), type := 0, pos := "alu.go:38", after := #[eD 0, eP 0, eT 1, eT 2], guard := none }) rfl (fun K hK => ?_) (AllReadyH.nil)
      obtain ⟨old, hold, hR⟩ := hHeld.2.2.2
      refine wp_store_row (o := { dst := none, op := Op.store 27 (Operand.tmp 4) (Operand.tmp 36), type := 0, pos := "alu.go:38", after := #[eD 0, eP 0, eT 1, eT 2], guard := none }) 27 _ _ rfl _ (A.cells s) ?_ ?_ 27 old hR (A.info25 _) hold (A.one_cells _) ?_
      · rfl
      · rfl
      replace hR := Has.row hR (A.cells s)
      have hN := (show (fun w' => Kept w w' ∧ Has w.heap.size (A.cells s) 27 w' ∧ Has w6.heap.size (A.outc x s' 5) 77 w' ∧ HasN (w.heap.size + 2) 21 27 w') _ from ⟨hHeld.1.row (by omega) _, hHeld.2.1.rowOther (by omega) _, hHeld.2.2.1.rowOther (by omega) _, ⟨A.cells s, A.size_cells _, hR⟩⟩)
      clear hHeld
      refine hK.out _ _ hN (fun hHeld => ?_)
      clear hK K hN
      try simp only [Act.put, List.setIfInBounds_toArray, List.set_cons_zero, List.set_cons_succ]
      refine wpAnyH_take (i := 4) (oi := { dst := some 5, op := Op.assign (Operand.tmp 38), type := 3, pos := "alu.go:38", after := #[eD 2, eC 3, eP 0, eP 1, eP 2, eP 3], guard := none }) (v := ?_) rfl (by kernel_rfl) (by kernel_rfl) (by kernel_rfl) (fun _ _ _ h => h) (Or.inl ⟨rfl, ?_⟩) hHeld ?_
      rotate_left
      · (intro wz hSw; (try dsimp only at hSw); have q0 := hSw.2.2.1.cell 22 _ (A.outc_t _ _ _); go_simp; try with_reducible rfl)
      try simp only [Act.put, List.setIfInBounds_toArray, List.set_cons_zero, List.set_cons_succ]
      refine wpAnyH_done (by kernel_rfl) ?_ _
      generalize World.setRow _ _ _ = wF at hHeld hR
      replace hR := Lib.hid hR
      go_wp2_with fail
      exact bodyPost_ret (results_has2 rfl (w.heap.size + 2) rfl hR.out Try.underlying27 rfl (A.info25 _)) rfl ⟨rfl, hHeld.1⟩
    · have hl1 := hHeld.res.lt
      have hl2 := hHeld.row.lt
      go_simp
      have hA := Has.new #[.int .u32 0, .int .u32 0, .int .u32 0, .int .u32 0, .int .u32 0, .int .u32 0, .int .u32 0, .int .u32 0, .int .u32 0, .int .u32 0, .int .u32 0, .int .u32 0, .int .u32 0, .int .u32 0, .int .u32 0, .int .u32 0, .int .u32 0, .int .u32 0, .bool false, .bool false, .bool false, .bool false, .int .i64 0] 77 w5
      have hN := (show (A.St s #[.int .i64 k, .int .i64 op, .int .i64 a, .int .i64 b, .int .i64 c, .int .i64 i, .bool u] w2.heap.size (A.row o f) w) _ from hHeld.step ((Kept.refl _).alloc #[.int .u32 0, .int .u32 0, .int .u32 0, .int .u32 0, .int .u32 0, .int .u32 0, .int .u32 0, .int .u32 0, .int .u32 0, .int .u32 0, .int .u32 0, .int .u32 0, .int .u32 0, .int .u32 0, .int .u32 0, .int .u32 0, .int .u32 0, .int .u32 0, .bool false, .bool false, .bool false, .bool false, .int .i64 0] 77))
      clear hHeld
      refine hK.out _ _ hN (fun hHeld => ?_)
      clear hK K hN
      try simp only [Act.put, List.setIfInBounds_toArray, List.set_cons_zero, List.set_cons_succ]
      refine wpAnyH_ready (rs := [14]) (by kernel_rfl) (by simp) ?_
      refine AllReadyH.cons (o := { dst := some 32, op := Op.call { callee := Callee.value (Operand.tmp 19), args := #[Operand.tmp 31], argTypes := #[80] }, type := 77, pos := "alu.go:36", after := #[eD 1, eD 13, eC 10], guard := none }) rfl (fun K hK => ?_) (AllReadyH.nil)
      refine wp_call_value (o := { dst := some 32, op := Op.call { callee := Callee.value (Operand.tmp 19), args := #[Operand.tmp 31], argTypes := #[80] }, type := 77, pos := "alu.go:36", after := #[eD 1, eD 13, eC 10], guard := none }) _ _ _ rfl f ?_ HF.out #[.agg (A.opnd s (s.r b.toNat) n u)] ?_ ?_
      · rfl
      · go_simp
      refine (HW.out _).mono ?_
      rintro e w6 ⟨rfl, hK5⟩
      replace hA := hA.kept hK5
      have hN := (show (A.St s #[.int .i64 k, .int .i64 op, .int .i64 a, .int .i64 b, .int .i64 c, .int .i64 i, .bool u] w2.heap.size (A.row o f) w) _ from hHeld.step hK5)
      clear hHeld
      refine hK.out _ _ hN (fun hHeld => ?_)
      clear hK K hN
      try simp only [Act.put, List.setIfInBounds_toArray, List.set_cons_zero, List.set_cons_succ]
      refine wpAnyH_ready (rs := [16]) (by kernel_rfl) (by simp) ?_
      refine AllReadyH.cons (o := { dst := none, op := Op.store 77 (Operand.tmp 8) (Operand.tmp 32), type := 0, pos := "alu.go:36", after := #[eD 15, eD 14, eC 14, eP 0, eP 1, eP 2, eP 3, eP 4, eP 5, eP 6, eP 7, eP 8, eP 9, eP 10, eP 11, eP 12, eP 13, eP 14, eP 15], guard := none }) rfl (fun K hK => ?_) (AllReadyH.nil)
      refine wp_store_row (o := { dst := none, op := Op.store 77 (Operand.tmp 8) (Operand.tmp 32), type := 0, pos := "alu.go:36", after := #[eD 15, eD 14, eC 14, eP 0, eP 1, eP 2, eP 3, eP 4, eP 5, eP 6, eP 7, eP 8, eP 9, eP 10, eP 11, eP 12, eP 13, eP 14, eP 15], guard := none }) 77 _ _ rfl _ (A.outc x s' 5) ?_ ?_ 77 _ hA (A.infoOut _ _ _) (by kernel_rfl) (A.one_outc _ _ _) ?_
      · rfl
      · rfl
      replace hA := hA.row (A.outc x s' 5)
      have hN := (show (A.St s #[.int .i64 k, .int .i64 op, .int .i64 a, .int .i64 b, .int .i64 c, .int .i64 i, .bool u] w2.heap.size (A.row o f) w) _ from hHeld.rowNew (by omega) (by omega) (A.outc x s' 5))
      clear hHeld
      refine hK.out _ _ hN (fun hHeld => ?_)
      clear hK K hN
      try simp only [Act.put, List.setIfInBounds_toArray, List.set_cons_zero, List.set_cons_succ]
      refine wpAnyH_done (by kernel_rfl) ?_ _
      generalize World.setRow _ _ _ = wF at hHeld hA
      have q2 := hA.cell 22 _ (A.outc_t _ _ _)
      have H6 := Lib.hid (show Kept w wF ∧ Has w.heap.size (A.cells s) 27 wF ∧ Has _ (A.outc x s' 5) 77 wF ∧ HasN (w.heap.size + 2) 21 27 wF from ⟨hHeld.kept, hHeld.regs, hA, ⟨_, rfl, hHeld.res⟩⟩)
      clear hHeld hA hS
      go_upto_region 6 with (fail)
      clear q2
      refine wp_region_held_drew (S := fun w' => Kept w w' ∧ Has w.heap.size (A.cells s) 27 w' ∧ Has w5.heap.size (A.outc x s' 5) 77 w' ∧ HasN (w.heap.size + 2) 21 27 w') (by kernel_rfl) ?_ (fun hHeld => ?_)
      · exact ⟨H6.out.1.drew, H6.out.2.1.drew, H6.out.2.2.1.drew, H6.out.2.2.2⟩
      refine wpAnyH_take (i := 0) (oi := { dst := some 36, op := Op.load 27 (Operand.tmp 2), type := 27, pos := "alu.go:38", after := #[], guard := none }) (v := ?_) rfl (by kernel_rfl) (by kernel_rfl) (by kernel_rfl) (fun _ _ _ h => h) (Or.inl ⟨rfl, ?_⟩) hHeld ?_
      rotate_left
      · (intro wz hSw; refine exec_load_has 27 (Operand.tmp 2) ?_ _ ?_ hSw.2.1 Try.underlying27 rfl (A.info25 _) <;> rfl)
      try simp only [Act.put, List.setIfInBounds_toArray, List.set_cons_zero, List.set_cons_succ]
      refine wpAnyH_take (i := 1) (oi := { dst := some 37, op := Op.fieldAddr 77 (Operand.tmp 8) 2, type := 0, pos := "alu.go:38", after := #[eL 3], guard := none }) (v := ?_) rfl (by kernel_rfl) (by kernel_rfl) (by kernel_rfl) (fun _ _ _ h => h) (Or.inl ⟨rfl, ?_⟩) hHeld ?_
      rotate_left
      · (intro wz hSw; (try dsimp only at hSw); have q0 := hSw.2.2.1.cell 22 _ (A.outc_t _ _ _); go_simp; try with_reducible rfl)
      try simp only [Act.put, List.setIfInBounds_toArray, List.set_cons_zero, List.set_cons_succ]
      refine wpAnyH_take (i := 2) (oi := { dst := some 38, op := Op.load 3 (Operand.tmp 37), type := 3, pos := "alu.go:38", after := #[eD 1, eL 3], guard := none }) (v := ?_) rfl (by kernel_rfl) (by kernel_rfl) (by kernel_rfl) (fun _ _ _ h => h) (Or.inl ⟨rfl, ?_⟩) hHeld ?_
      rotate_left
      · (intro wz hSw; (try dsimp only at hSw); have q0 := hSw.2.2.1.cell 22 _ (A.outc_t _ _ _); go_simp; try with_reducible rfl)
      try simp only [Act.put, List.setIfInBounds_toArray, List.set_cons_zero, List.set_cons_succ]
      refine wpAnyH_ready (rs := [3]) (by kernel_rfl) (by simp) ?_
      refine AllReadyH.cons (o := { dst := none, op := Op.store 27 (Operand.tmp 4) (Operand.tmp 36), type := 0, pos := "alu.go:38", after := #[eD 0, eP 0, eT 1, eT 2], guard := none }) rfl (fun K hK => ?_) (AllReadyH.nil)
      obtain ⟨old, hold, hR⟩ := hHeld.2.2.2
      refine wp_store_row (o := { dst := none, op := Op.store 27 (Operand.tmp 4) (Operand.tmp 36), type := 0, pos := "alu.go:38", after := #[eD 0, eP 0, eT 1, eT 2], guard := none }) 27 _ _ rfl _ (A.cells s) ?_ ?_ 27 old hR (A.info25 _) hold (A.one_cells _) ?_
      · rfl
      · rfl
      replace hR := Has.row hR (A.cells s)
      have hN := (show (fun w' => Kept w w' ∧ Has w.heap.size (A.cells s) 27 w' ∧ Has w5.heap.size (A.outc x s' 5) 77 w' ∧ HasN (w.heap.size + 2) 21 27 w') _ from ⟨hHeld.1.row (by omega) _, hHeld.2.1.rowOther (by omega) _, hHeld.2.2.1.rowOther (by omega) _, ⟨A.cells s, A.size_cells _, hR⟩⟩)
      clear hHeld
      refine hK.out _ _ hN (fun hHeld => ?_)
      clear hK K hN
      try simp only [Act.put, List.setIfInBounds_toArray, List.set_cons_zero, List.set_cons_succ]
      refine wpAnyH_take (i := 4) (oi := { dst := some 5, op := Op.assign (Operand.tmp 38), type := 3, pos := "alu.go:38", after := #[eD 2, eC 3, eP 0, eP 1, eP 2, eP 3], guard := none }) (v := ?_) rfl (by kernel_rfl) (by kernel_rfl) (by kernel_rfl) (fun _ _ _ h => h) (Or.inl ⟨rfl, ?_⟩) hHeld ?_
      rotate_left
      · (intro wz hSw; (try dsimp only at hSw); have q0 := hSw.2.2.1.cell 22 _ (A.outc_t _ _ _); go_simp; try with_reducible rfl)
      try simp only [Act.put, List.setIfInBounds_toArray, List.set_cons_zero, List.set_cons_succ]
      refine wpAnyH_done (by kernel_rfl) ?_ _
      generalize World.setRow _ _ _ = wF at hHeld hR
      replace hR := Lib.hid hR
      go_wp2_with fail
      exact bodyPost_ret (results_has2 rfl (w.heap.size + 2) rfl hR.out Try.underlying27 rfl (A.info25 _)) rfl ⟨rfl, hHeld.1⟩
  · have hl1 := hHeld.res.lt
    have hl2 := hHeld.row.lt
    go_simp
    have hA := Has.new #[.int .u32 0, .int .u32 0, .int .u32 0, .int .u32 0, .int .u32 0, .int .u32 0, .int .u32 0, .int .u32 0, .int .u32 0, .int .u32 0, .int .u32 0, .int .u32 0, .int .u32 0, .int .u32 0, .int .u32 0, .int .u32 0, .int .u32 0, .int .u32 0, .bool false, .bool false, .bool false, .bool false, .int .i64 0] 77 ((w2.alloc (.cells (A.row o f) 73)).drew)
    have e8 : ((w2.alloc (.cells (A.row o f) 73)).drew).heap.size = w2.heap.size + 1 := by show (w2.heap.push _).size = _; simp
    rw [e8] at hA hl1 hl2
    clear e8
    have hN := (show (A.St s #[.int .i64 k, .int .i64 op, .int .i64 a, .int .i64 b, .int .i64 c, .int .i64 i, .bool u] w2.heap.size (A.row o f) w) _ from hHeld.step ((Kept.refl _).alloc #[.int .u32 0, .int .u32 0, .int .u32 0, .int .u32 0, .int .u32 0, .int .u32 0, .int .u32 0, .int .u32 0, .int .u32 0, .int .u32 0, .int .u32 0, .int .u32 0, .int .u32 0, .int .u32 0, .int .u32 0, .int .u32 0, .int .u32 0, .int .u32 0, .bool false, .bool false, .bool false, .bool false, .int .i64 0] 77))
    clear hHeld
    refine hK.out _ _ hN (fun hHeld => ?_)
    clear hK K hN
    try simp only [Act.put, List.setIfInBounds_toArray, List.set_cons_zero, List.set_cons_succ]
    refine wpAnyH_ready (rs := [10]) (by kernel_rfl) (by simp) ?_
    refine AllReadyH.cons (o := { dst := some 28, op := Op.call { callee := Callee.value (Operand.func 29), args := #[Operand.tmp 26, Operand.tmp 27], argTypes := #[27, 23] }, type := 24, pos := "alu.go:36", after := #[eD 8, eD 9], guard := none }) rfl (fun K hK => ?_) (AllReadyH.nil)
    go_simp
    go_at_call 29
    refine (HN.out _).mono ?_
    rintro e w5 ⟨rfl, hK5⟩
    replace hA := hA.kept hK5
    have hN := (show (A.St s #[.int .i64 k, .int .i64 op, .int .i64 a, .int .i64 b, .int .i64 c, .int .i64 i, .bool u] w2.heap.size (A.row o f) w) _ from hHeld.step hK5)
    clear hHeld
    refine hK.out _ _ hN (fun hHeld => ?_)
    clear hK K hN
    try simp only [Act.put, List.setIfInBounds_toArray, List.set_cons_zero, List.set_cons_succ]
    refine wpAnyH_take (i := 13) (oi := { dst := some 31, op := Op.build 80 #[(0, Operand.tmp 20), (1, Operand.tmp 25), (2, Operand.tmp 28), (3, Operand.tmp 30)], type := 80, pos := "alu.go:36", after := #[eD 2, eD 7, eD 10, eD 12], guard := none }) (v := ?_) rfl (by kernel_rfl) (by kernel_rfl) (by kernel_rfl) (fun _ _ _ h => h) (Or.inl ⟨rfl, ?_⟩) hHeld ?_
    rotate_left
    · (intro wz hSw; refine exec_build (o := { dst := some 31, op := Op.build 80 #[(0, Operand.tmp 20), (1, Operand.tmp 25), (2, Operand.tmp 28), (3, Operand.tmp 30)], type := 80, pos := "alu.go:36", after := #[eD 2, eD 7, eD 10, eD 12], guard := none }) 80 _ rfl (A.opnd s (s.r b.toNat) n u) ?_; (go_simp; exact A.builtOp _ _ _ _))
    try simp only [Act.put, List.setIfInBounds_toArray, List.set_cons_zero, List.set_cons_succ]
    refine wpAnyH_ready (rs := [14]) (by kernel_rfl) (by simp) ?_
    refine AllReadyH.cons (o := { dst := some 32, op := Op.call { callee := Callee.value (Operand.tmp 19), args := #[Operand.tmp 31], argTypes := #[80] }, type := 77, pos := "alu.go:36", after := #[eD 1, eD 13, eC 10], guard := none }) rfl (fun K hK => ?_) (AllReadyH.nil)
    refine wp_call_value (o := { dst := some 32, op := Op.call { callee := Callee.value (Operand.tmp 19), args := #[Operand.tmp 31], argTypes := #[80] }, type := 77, pos := "alu.go:36", after := #[eD 1, eD 13, eC 10], guard := none }) _ _ _ rfl f ?_ HF.out #[.agg (A.opnd s (s.r b.toNat) n u)] ?_ ?_
    · rfl
    · go_simp
    refine (HW.out _).mono ?_
    rintro e w6 ⟨rfl, hK5⟩
    replace hA := hA.kept hK5
    have hN := (show (A.St s #[.int .i64 k, .int .i64 op, .int .i64 a, .int .i64 b, .int .i64 c, .int .i64 i, .bool u] w2.heap.size (A.row o f) w) _ from hHeld.step hK5)
    clear hHeld
    refine hK.out _ _ hN (fun hHeld => ?_)
    clear hK K hN
    try simp only [Act.put, List.setIfInBounds_toArray, List.set_cons_zero, List.set_cons_succ]
    refine wpAnyH_ready (rs := [16]) (by kernel_rfl) (by simp) ?_
    refine AllReadyH.cons (o := { dst := none, op := Op.store 77 (Operand.tmp 8) (Operand.tmp 32), type := 0, pos := "alu.go:36", after := #[eD 15, eD 14, eC 14, eP 0, eP 1, eP 2, eP 3, eP 4, eP 5, eP 6, eP 7, eP 8, eP 9, eP 10, eP 11, eP 12, eP 13, eP 14, eP 15], guard := none }) rfl (fun K hK => ?_) (AllReadyH.nil)
    refine wp_store_row (o := { dst := none, op := Op.store 77 (Operand.tmp 8) (Operand.tmp 32), type := 0, pos := "alu.go:36", after := #[eD 15, eD 14, eC 14, eP 0, eP 1, eP 2, eP 3, eP 4, eP 5, eP 6, eP 7, eP 8, eP 9, eP 10, eP 11, eP 12, eP 13, eP 14, eP 15], guard := none }) 77 _ _ rfl _ (A.outc x s' 5) ?_ ?_ 77 _ hA (A.infoOut _ _ _) (by kernel_rfl) (A.one_outc _ _ _) ?_
    · rfl
    · rfl
    replace hA := hA.row (A.outc x s' 5)
    have hN := (show (A.St s #[.int .i64 k, .int .i64 op, .int .i64 a, .int .i64 b, .int .i64 c, .int .i64 i, .bool u] w2.heap.size (A.row o f) w) _ from hHeld.rowNew (by omega) (by omega) (A.outc x s' 5))
    clear hHeld
    refine hK.out _ _ hN (fun hHeld => ?_)
    clear hK K hN
    try simp only [Act.put, List.setIfInBounds_toArray, List.set_cons_zero, List.set_cons_succ]
    refine wpAnyH_done (by kernel_rfl) ?_ _
    generalize World.setRow _ _ _ = wF at hHeld hA
    have q2 := hA.cell 22 _ (A.outc_t _ _ _)
    have H6 := Lib.hid (show Kept w wF ∧ Has w.heap.size (A.cells s) 27 wF ∧ Has _ (A.outc x s' 5) 77 wF ∧ HasN (w.heap.size + 2) 21 27 wF from ⟨hHeld.kept, hHeld.regs, hA, ⟨_, rfl, hHeld.res⟩⟩)
    clear hHeld hA hS
    go_upto_region 6 with (fail)
    clear q2
    refine wp_region_held_drew (S := fun w' => Kept w w' ∧ Has w.heap.size (A.cells s) 27 w' ∧ Has (w2.heap.size + 1) (A.outc x s' 5) 77 w' ∧ HasN (w.heap.size + 2) 21 27 w') (by kernel_rfl) ?_ (fun hHeld => ?_)
    · exact ⟨H6.out.1.drew, H6.out.2.1.drew, H6.out.2.2.1.drew, H6.out.2.2.2⟩
    refine wpAnyH_take (i := 0) (oi := { dst := some 36, op := Op.load 27 (Operand.tmp 2), type := 27, pos := "alu.go:38", after := #[], guard := none }) (v := ?_) rfl (by kernel_rfl) (by kernel_rfl) (by kernel_rfl) (fun _ _ _ h => h) (Or.inl ⟨rfl, ?_⟩) hHeld ?_
    rotate_left
    · (intro wz hSw; refine exec_load_has 27 (Operand.tmp 2) ?_ _ ?_ hSw.2.1 Try.underlying27 rfl (A.info25 _) <;> rfl)
    try simp only [Act.put, List.setIfInBounds_toArray, List.set_cons_zero, List.set_cons_succ]
    refine wpAnyH_take (i := 1) (oi := { dst := some 37, op := Op.fieldAddr 77 (Operand.tmp 8) 2, type := 0, pos := "alu.go:38", after := #[eL 3], guard := none }) (v := ?_) rfl (by kernel_rfl) (by kernel_rfl) (by kernel_rfl) (fun _ _ _ h => h) (Or.inl ⟨rfl, ?_⟩) hHeld ?_
    rotate_left
    · (intro wz hSw; (try dsimp only at hSw); have q0 := hSw.2.2.1.cell 22 _ (A.outc_t _ _ _); go_simp; try with_reducible rfl)
    try simp only [Act.put, List.setIfInBounds_toArray, List.set_cons_zero, List.set_cons_succ]
    refine wpAnyH_take (i := 2) (oi := { dst := some 38, op := Op.load 3 (Operand.tmp 37), type := 3, pos := "alu.go:38", after := #[eD 1, eL 3], guard := none }) (v := ?_) rfl (by kernel_rfl) (by kernel_rfl) (by kernel_rfl) (fun _ _ _ h => h) (Or.inl ⟨rfl, ?_⟩) hHeld ?_
    rotate_left
    · (intro wz hSw; (try dsimp only at hSw); have q0 := hSw.2.2.1.cell 22 _ (A.outc_t _ _ _); go_simp; try with_reducible rfl)
    try simp only [Act.put, List.setIfInBounds_toArray, List.set_cons_zero, List.set_cons_succ]
    refine wpAnyH_ready (rs := [3]) (by kernel_rfl) (by simp) ?_
    refine AllReadyH.cons (o := { dst := none, op := Op.store 27 (Operand.tmp 4) (Operand.tmp 36), type := 0, pos := "alu.go:38", after := #[eD 0, eP 0, eT 1, eT 2], guard := none }) rfl (fun K hK => ?_) (AllReadyH.nil)
    obtain ⟨old, hold, hR⟩ := hHeld.2.2.2
    refine wp_store_row (o := { dst := none, op := Op.store 27 (Operand.tmp 4) (Operand.tmp 36), type := 0, pos := "alu.go:38", after := #[eD 0, eP 0, eT 1, eT 2], guard := none }) 27 _ _ rfl _ (A.cells s) ?_ ?_ 27 old hR (A.info25 _) hold (A.one_cells _) ?_
    · rfl
    · rfl
    replace hR := Has.row hR (A.cells s)
    have hN := (show (fun w' => Kept w w' ∧ Has w.heap.size (A.cells s) 27 w' ∧ Has (w2.heap.size + 1) (A.outc x s' 5) 77 w' ∧ HasN (w.heap.size + 2) 21 27 w') _ from ⟨hHeld.1.row (by omega) _, hHeld.2.1.rowOther (by omega) _, hHeld.2.2.1.rowOther (by omega) _, ⟨A.cells s, A.size_cells _, hR⟩⟩)
    clear hHeld
    refine hK.out _ _ hN (fun hHeld => ?_)
    clear hK K hN
    try simp only [Act.put, List.setIfInBounds_toArray, List.set_cons_zero, List.set_cons_succ]
    refine wpAnyH_take (i := 4) (oi := { dst := some 5, op := Op.assign (Operand.tmp 38), type := 3, pos := "alu.go:38", after := #[eD 2, eC 3, eP 0, eP 1, eP 2, eP 3], guard := none }) (v := ?_) rfl (by kernel_rfl) (by kernel_rfl) (by kernel_rfl) (fun _ _ _ h => h) (Or.inl ⟨rfl, ?_⟩) hHeld ?_
    rotate_left
    · (intro wz hSw; (try dsimp only at hSw); have q0 := hSw.2.2.1.cell 22 _ (A.outc_t _ _ _); go_simp; try with_reducible rfl)
    try simp only [Act.put, List.setIfInBounds_toArray, List.set_cons_zero, List.set_cons_succ]
    refine wpAnyH_done (by kernel_rfl) ?_ _
    generalize World.setRow _ _ _ = wF at hHeld hR
    replace hR := Lib.hid hR
    go_wp2_with fail
    exact bodyPost_ret (results_has2 rfl (w.heap.size + 2) rfl hR.out Try.underlying27 rfl (A.info25 _)) rfl ⟨rfl, hHeld.1⟩
end Go.Proofs.Ytlmddkciamdldaa

/-
  What an operation does, as plain data; alu.Do does it.
-/
namespace Go.Proofs.Ytlmddkciamdldaa
open Go.RowKit
set_option linter.unusedVariables false
set_option linter.unusedSimpArgs false
set_option maxRecDepth 100000
namespace A
def num (s : Regs) (x : I.Ins) : Int := if x.k = 2 then x.i % 4294967296 else s.r x.c.toNat
/-- the rows of the table of P4.2 -/
def work (op : Nat) (s : Regs) (b n : Int) (u : Bool) : Int × Regs :=
  if op = 0 then (if u then n * 65536 % 4294967296 else n, s)
  else if op = 1 then (W.shift 1 b n, s)
  else if op = 2 then (W.shift 2 b n, s)
  else if op = 3 then (W.shift 3 b n, s)
  else if op = 4 then (bits BinOp.and IntKind.u32 b n, s)
  else if op = 5 then (bits BinOp.andNot IntKind.u32 b n, s)
  else if op = 6 then (bits BinOp.or IntKind.u32 b n, s)
  else if op = 7 then (bits BinOp.xor IntKind.u32 b n, s)
  else if op = 8 then (W.low (b + n + W.one (u && s.c)), setV (setC s (W.over (b + n + W.one (u && s.c)))) (!W.inS (W.sgn b + W.sgn n + W.one (u && s.c))))
  else if op = 9 then (W.low (b - n - W.one (u && s.c)), setV (setC s (W.neg (b - n - W.one (u && s.c)))) (!W.inS (W.sgn b - W.sgn n - W.one (u && s.c))))
  else if op = 10 then (W.low (W.prod u b n), setH s (W.low (W.prod u b n / 4294967296)))
  else (W.low (W.sgn b / W.sgn n), setH s (W.low (W.sgn b % W.sgn n)))
def res (s : Regs) (x : I.Ins) : Int × Regs := if x.k = 3 then (s.h, s) else if x.k = 4 then (flg s, s) else work x.op.toNat s (s.r x.b.toNat) (num s x) x.u
def Traps (s : Regs) (x : I.Ins) : Prop := (x.k = 1 ∨ x.k = 2) ∧ x.op = 11 ∧ W.sgn (num s x) ≤ 0
/-- Do, of an operation that does not trap -/
def done (s : Regs) (x : I.Ins) : Regs := show' (set (res s x).2 x.a.toNat (res s x).1) (res s x).1
theorem bits_lo (o : BinOp) (a b : Int) (h : o = .and ∨ o = .or ∨ o = .xor ∨ o = .andNot) (h0 : 0 ≤ a) (h1 : a < 4294967296) (h2 : 0 ≤ b) (h3 : b < 4294967296) : 0 ≤ bits o .u32 a b ∧ bits o .u32 a b < 4294967296 := by
  have ha : a.toNat < 2 ^ 32 := by omega
  have hb : b.toNat < 2 ^ 32 := by omega
  have hc : 4294967295 - b.toNat < 2 ^ 32 := by omega
  rcases h with rfl | rfl | rfl | rfl
  · rw [u32_and a b h0 h1 h2 h3]; have := Nat.and_lt_two_pow a.toNat hb; omega
  · rw [u32_or a b h0 h1 h2 h3]; have := Nat.or_lt_two_pow ha hb; omega
  · rw [u32_xor a b h0 h1 h2 h3]; have := Nat.xor_lt_two_pow ha hb; omega
  · rw [u32_andNot a b h0 h1 h2 h3]; have := Nat.and_lt_two_pow a.toNat hc; omega
theorem shift_lo (k a n : Int) (h0 : 0 ≤ a) (h1 : a < 4294967296) : 0 ≤ W.shift k a n ∧ W.shift k a n < 4294967296 := ⟨W.shift_lo k a n h0 h1, W.shift_hi k a n h0 h1⟩
theorem num_ok (s : Regs) (x : I.Ins) (hs : Ok s) (hc : 0 ≤ x.c) (hc1 : x.c ≤ 15) : 0 ≤ num s x ∧ num s x < 4294967296 := by
  unfold num; split
  · omega
  · exact hs.1 _ (by omega)
theorem work_0 (s : Regs) (b n : Int) (u : Bool) : work 0 s b n u = (if u then n * 65536 % 4294967296 else n, s) := rfl
theorem work_1 (s : Regs) (b n : Int) (u : Bool) : work 1 s b n u = (W.shift 1 b n, s) := rfl
theorem work_2 (s : Regs) (b n : Int) (u : Bool) : work 2 s b n u = (W.shift 2 b n, s) := rfl
theorem work_3 (s : Regs) (b n : Int) (u : Bool) : work 3 s b n u = (W.shift 3 b n, s) := rfl
theorem work_4 (s : Regs) (b n : Int) (u : Bool) : work 4 s b n u = (bits BinOp.and IntKind.u32 b n, s) := rfl
theorem work_5 (s : Regs) (b n : Int) (u : Bool) : work 5 s b n u = (bits BinOp.andNot IntKind.u32 b n, s) := rfl
theorem work_6 (s : Regs) (b n : Int) (u : Bool) : work 6 s b n u = (bits BinOp.or IntKind.u32 b n, s) := rfl
theorem work_7 (s : Regs) (b n : Int) (u : Bool) : work 7 s b n u = (bits BinOp.xor IntKind.u32 b n, s) := rfl
theorem work_8 (s : Regs) (b n : Int) (u : Bool) : work 8 s b n u = (W.low (b + n + W.one (u && s.c)), setV (setC s (W.over (b + n + W.one (u && s.c)))) (!W.inS (W.sgn b + W.sgn n + W.one (u && s.c)))) := rfl
theorem work_9 (s : Regs) (b n : Int) (u : Bool) : work 9 s b n u = (W.low (b - n - W.one (u && s.c)), setV (setC s (W.neg (b - n - W.one (u && s.c)))) (!W.inS (W.sgn b - W.sgn n - W.one (u && s.c)))) := rfl
theorem work_10 (s : Regs) (b n : Int) (u : Bool) : work 10 s b n u = (W.low (W.prod u b n), setH s (W.low (W.prod u b n / 4294967296))) := rfl
theorem work_div (op : Nat) (h : 11 ≤ op) (s : Regs) (b n : Int) (u : Bool) : work op s b n u = (W.low (W.sgn b / W.sgn n), setH s (W.low (W.sgn b % W.sgn n))) := by
  unfold work
  rw [if_neg (by omega), if_neg (by omega), if_neg (by omega), if_neg (by omega), if_neg (by omega), if_neg (by omega), if_neg (by omega), if_neg (by omega), if_neg (by omega), if_neg (by omega), if_neg (by omega)]
theorem ops12 (op : Nat) : op = 0 ∨ op = 1 ∨ op = 2 ∨ op = 3 ∨ op = 4 ∨ op = 5 ∨ op = 6 ∨ op = 7 ∨ op = 8 ∨ op = 9 ∨ op = 10 ∨ 11 ≤ op := by omega
theorem work_ok (op : Nat) (s : Regs) (b n : Int) (u : Bool) (h0 : 0 ≤ b) (h1 : b < 4294967296) (h2 : 0 ≤ n) (h3 : n < 4294967296) : 0 ≤ (work op s b n u).1 ∧ (work op s b n u).1 < 4294967296 := by
  rcases ops12 op with rfl | rfl | rfl | rfl | rfl | rfl | rfl | rfl | rfl | rfl | rfl | h
  · rw [work_0]; simp only; split <;> omega
  · rw [work_1]; exact shift_lo 1 b n h0 h1
  · rw [work_2]; exact shift_lo 2 b n h0 h1
  · rw [work_3]; exact shift_lo 3 b n h0 h1
  · rw [work_4]; exact bits_lo .and b n (by simp) h0 h1 h2 h3
  · rw [work_5]; exact bits_lo .andNot b n (by simp) h0 h1 h2 h3
  · rw [work_6]; exact bits_lo .or b n (by simp) h0 h1 h2 h3
  · rw [work_7]; exact bits_lo .xor b n (by simp) h0 h1 h2 h3
  · rw [work_8]; exact ⟨W.low_lo _, W.low_hi _⟩
  · rw [work_9]; exact ⟨W.low_lo _, W.low_hi _⟩
  · rw [work_10]; exact ⟨W.low_lo _, W.low_hi _⟩
  · rw [work_div op h]; exact ⟨W.low_lo _, W.low_hi _⟩
theorem work_regs (op : Nat) (s : Regs) (b n : Int) (u : Bool) (hs : Ok s) : Ok (work op s b n u).2 := by
  rcases ops12 op with rfl | rfl | rfl | rfl | rfl | rfl | rfl | rfl | rfl | rfl | rfl | h
  · rw [work_0]; exact hs
  · rw [work_1]; exact hs
  · rw [work_2]; exact hs
  · rw [work_3]; exact hs
  · rw [work_4]; exact hs
  · rw [work_5]; exact hs
  · rw [work_6]; exact hs
  · rw [work_7]; exact hs
  · rw [work_8]; exact hs
  · rw [work_9]; exact hs
  · rw [work_10]; exact ⟨hs.1, W.low_lo _, W.low_hi _⟩
  · rw [work_div op h]; exact ⟨hs.1, W.low_lo _, W.low_hi _⟩
theorem res_ok (s : Regs) (x : I.Ins) (hs : Ok s) (h : I.May x) : (0 ≤ (res s x).1 ∧ (res s x).1 < 4294967296) ∧ Ok (res s x).2 := by
  have hm := h.1
  unfold res
  split
  · exact ⟨hs.2, hs⟩
  split
  · exact ⟨⟨fl_lo s 4, fl_hi s 4⟩, hs⟩
  · have hb := hs.1 x.b.toNat (by omega)
    have hn := num_ok s x hs hm.2.2.2.2.1 hm.2.2.2.2.2
    exact ⟨work_ok _ _ _ _ _ hb.1 hb.2 hn.1 hn.2, work_regs _ _ _ _ _ hs⟩
theorem ok_set (s : Regs) (j : Nat) (x : Int) (hs : Ok s) (h0 : 0 ≤ x) (h1 : x < 4294967296) : Ok (set s j x) := by
  refine ⟨fun k hk => ?_, hs.2⟩
  unfold set; simp only
  split
  · exact ⟨h0, h1⟩
  · exact hs.1 k hk
theorem ok_show (s : Regs) (x : Int) (hs : Ok s) : Ok (show' s x) := hs
theorem done_ok (s : Regs) (x : I.Ins) (hs : Ok s) (h : I.May x) : Ok (done s x) := by
  have h1 := res_ok s x hs h
  exact ok_show _ _ (ok_set _ _ _ h1.2 h1.1.1 h1.1.2)
end A
theorem callsRow (op : Nat) (hop : op < 12) : ∀ args w, (callFunc (A.fn op) args).run Try.prog w = .ok (.enter (A.fn op) args) w := by
  have : op = 0 ∨ op = 1 ∨ op = 2 ∨ op = 3 ∨ op = 4 ∨ op = 5 ∨ op = 6 ∨ op = 7 ∨ op = 8 ∨ op = 9 ∨ op = 10 ∨ op = 11 := by omega
  rcases this with rfl | rfl | rfl | rfl | rfl | rfl | rfl | rfl | rfl | rfl | rfl | rfl
  · exact callsFn Try.func68 (by kernel_rfl) (by kernel_rfl)
  · exact callsFn Try.func69 (by kernel_rfl) (by kernel_rfl)
  · exact callsFn Try.func71 (by kernel_rfl) (by kernel_rfl)
  · exact callsFn Try.func72 (by kernel_rfl) (by kernel_rfl)
  · exact callsFn Try.func73 (by kernel_rfl) (by kernel_rfl)
  · exact callsFn Try.func74 (by kernel_rfl) (by kernel_rfl)
  · exact callsFn Try.func75 (by kernel_rfl) (by kernel_rfl)
  · exact callsFn Try.func76 (by kernel_rfl) (by kernel_rfl)
  · exact callsFn Try.func77 (by kernel_rfl) (by kernel_rfl)
  · exact callsFn Try.func81 (by kernel_rfl) (by kernel_rfl)
  · exact callsFn Try.func83 (by kernel_rfl) (by kernel_rfl)
  · exact callsFn Try.func86 (by kernel_rfl) (by kernel_rfl)
theorem callsHigh : ∀ args w, (callFunc 40 args).run Try.prog w = .ok (.enter 40 args) w := callsFn Try.func40 (by kernel_rfl) (by kernel_rfl)
theorem callsFlags : ∀ args w, (callFunc 41 args).run Try.prog w = .ok (.enter 41 args) w := callsFn Try.func41 (by kernel_rfl) (by kernel_rfl)
theorem work_any (op : Nat) (hop : op < 12) (s : A.Regs) (b n : Int) (u : Bool) (h0 : 0 ≤ b) (h1 : b < 4294967296) (h2 : 0 ≤ n) (h3 : n < 4294967296) (hd : op = 11 → 0 < W.sgn n) (w : World) :
    Calls Try.prog (A.fn op) #[.agg (A.opnd s b n u)] w fun e w' => e = .returned (.agg (A.outc (A.work op s b n u).1 (A.work op s b n u).2 0)) ∧ Kept w w' := by
  have : op = 0 ∨ op = 1 ∨ op = 2 ∨ op = 3 ∨ op = 4 ∨ op = 5 ∨ op = 6 ∨ op = 7 ∨ op = 8 ∨ op = 9 ∨ op = 10 ∨ op = 11 := by omega
  rcases this with rfl | rfl | rfl | rfl | rfl | rfl | rfl | rfl | rfl | rfl | rfl | rfl
  · cases u
    · exact move_f s b n h0 h1 h2 h3 w
    · exact move_t s b n h0 h1 h2 h3 w
  · exact shift_1 s b n u h0 h1 h2 h3 w
  · exact shift_2 s b n u h0 h1 h2 h3 w
  · exact shift_3 s b n u h0 h1 h2 h3 w
  · exact bit_and s b n u h0 h1 h2 h3 w
  · exact bit_andNot s b n u h0 h1 h2 h3 w
  · exact bit_or s b n u h0 h1 h2 h3 w
  · exact bit_xor s b n u h0 h1 h2 h3 w
  · exact add_work s b n u h0 h1 h2 h3 w
  · exact sub_work s b n u h0 h1 h2 h3 w
  · exact mul_work s b n u h0 h1 h2 h3 w
  · exact divide_yes s b n u h0 h1 h2 h3 (hd rfl) w
/-- nothing is done, and nothing traps -/
theorem do_no (s : A.Regs) (k op a b c i : Int) (u : Bool) (h : ¬ I.May ⟨k, op, a, b, c, i, u⟩ ∨ k = 5 ∨ k = 6 ∨ k = 7) (w : World) :
    Calls Try.prog 14 #[.agg (A.cells s), .agg #[.int .i64 k, .int .i64 op, .int .i64 a, .int .i64 b, .int .i64 c, .int .i64 i, .bool u]] w fun e w' => e = .returned (.tuple #[.agg (A.cells s), .int .i64 0]) ∧ Kept w w' := by
  by_cases hm : I.May ⟨k, op, a, b, c, i, u⟩
  · have hm' : I.may ⟨k, op, a, b, c, i, u⟩ = true := decide_eq_true hm
    rcases h with h | rfl | rfl | rfl
    · exact absurd hm h
    · exact do_none s 5 op a b c i u w (Lib.hid (opOf_5 op a b c i u hm'))
    · exact do_none s 6 op a b c i u w (Lib.hid (opOf_6 op a b c i u hm'))
    · exact do_none s 7 op a b c i u w (Lib.hid (opOf_7 op a b c i u hm'))
  · exact do_none s k op a b c i u w (Lib.hid (opOf_not k op a b c i u (decide_eq_false hm)))
/-- an operation that does not trap -/
theorem do_yes (s : A.Regs) (k op a b c i : Int) (u : Bool) (hs : A.Ok s) (hm : I.May ⟨k, op, a, b, c, i, u⟩) (hk : k = 1 ∨ k = 2 ∨ k = 3 ∨ k = 4) (ht : ¬ A.Traps s ⟨k, op, a, b, c, i, u⟩) (w : World) :
    Calls Try.prog 14 #[.agg (A.cells s), .agg #[.int .i64 k, .int .i64 op, .int .i64 a, .int .i64 b, .int .i64 c, .int .i64 i, .bool u]] w fun e w' => e = .returned (.tuple #[.agg (A.cells (A.done s ⟨k, op, a, b, c, i, u⟩)), .int .i64 0]) ∧ Kept w w' := by
  have hm' : I.may ⟨k, op, a, b, c, i, u⟩ = true := decide_eq_true hm
  have hr := A.res_ok s _ hs hm
  have hn := A.num_ok s _ hs hm.1.2.2.2.2.1 hm.1.2.2.2.2.2
  obtain ⟨⟨a0, a1, b0, b1, c0, c1⟩, hm2⟩ := hm
  simp only at a0 a1 b0 b1 c0 c1 hm2
  have hb := hs.1 b.toNat (by omega)
  rcases hk with rfl | rfl | rfl | rfl
  · have ho : 0 ≤ op ∧ op < 12 := by omega
    obtain ⟨o, rfl⟩ : ∃ o : Nat, op = o := ⟨op.toNat, by omega⟩
    have ho' : o < 12 := by omega
    exact do_ok s _ 1 o a b c i (s.r c.toNat) _ o u (A.fn o) a0 (by omega) b0 (by omega) hr.1.1 hr.1.2 w (Lib.hid (opOf_1 o a b c i u ho' hm')) (Lib.hid (number_reg s 1 o a b c i u rfl c0 (by omega))) (Lib.hid (callsRow o ho'))
      (Lib.hid (work_any o ho' s _ _ u hb.1 hb.2 hn.1 hn.2 (fun e => by
        subst e
        have : ¬ W.sgn (s.r c.toNat) ≤ 0 := fun h => ht ⟨Or.inl rfl, rfl, h⟩
        show 0 < W.sgn (s.r c.toNat)
        omega)))
  · have ho : 0 ≤ op ∧ op < 12 := by omega
    obtain ⟨o, rfl⟩ : ∃ o : Nat, op = o := ⟨op.toNat, by omega⟩
    have ho' : o < 12 := by omega
    exact do_ok s _ 2 o a b c i (i % 4294967296) _ o u (A.fn o) a0 (by omega) b0 (by omega) hr.1.1 hr.1.2 w (Lib.hid (opOf_2 o a b c i u ho' hm')) (Lib.hid (number_imm s o a b c i u)) (Lib.hid (callsRow o ho'))
      (Lib.hid (work_any o ho' s _ _ u hb.1 hb.2 hn.1 hn.2 (fun e => by
        subst e
        have : ¬ W.sgn (i % 4294967296) ≤ 0 := fun h => ht ⟨Or.inr rfl, rfl, h⟩
        show 0 < W.sgn (i % 4294967296)
        omega)))
  · exact do_ok s _ 3 op a b c i (s.r c.toNat) _ 0 u 40 a0 (by omega) b0 (by omega) hr.1.1 hr.1.2 w (Lib.hid (opOf_3 op a b c i u hm')) (Lib.hid (number_reg s 3 op a b c i u rfl c0 (by omega))) (Lib.hid callsHigh)
      (Lib.hid (high_any s _ _ u))
  · exact do_ok s _ 4 op a b c i (s.r c.toNat) _ 0 u 41 a0 (by omega) b0 (by omega) hr.1.1 hr.1.2 w (Lib.hid (opOf_4 op a b c i u hm')) (Lib.hid (number_reg s 4 op a b c i u rfl c0 (by omega))) (Lib.hid callsFlags)
      (Lib.hid (flags_any s _ _ u))
/-- a division that traps -/
theorem do_div (s : A.Regs) (k op a b c i : Int) (u : Bool) (hs : A.Ok s) (hm : I.May ⟨k, op, a, b, c, i, u⟩) (ht : A.Traps s ⟨k, op, a, b, c, i, u⟩) (w : World) :
    Calls Try.prog 14 #[.agg (A.cells s), .agg #[.int .i64 k, .int .i64 op, .int .i64 a, .int .i64 b, .int .i64 c, .int .i64 i, .bool u]] w fun e w' => e = .returned (.tuple #[.agg (A.cells s), .int .i64 5]) ∧ Kept w w' := by
  have hm' : I.may ⟨k, op, a, b, c, i, u⟩ = true := decide_eq_true hm
  have hn := A.num_ok s _ hs hm.1.2.2.2.2.1 hm.1.2.2.2.2.2
  obtain ⟨⟨a0, a1, b0, b1, c0, c1⟩, hm2⟩ := hm
  simp only at a0 a1 b0 b1 c0 c1 hm2
  have hb := hs.1 b.toNat (by omega)
  obtain ⟨hk, h11, hz⟩ := ht
  simp only at hk h11
  subst h11
  rcases hk with rfl | rfl
  · exact do_trap s _ 1 11 a b c i (s.r c.toNat) _ 11 u (A.fn 11) a0 (by omega) b0 (by omega) w (Lib.hid (opOf_1 11 a b c i u (by omega) hm')) (Lib.hid (number_reg s 1 11 a b c i u rfl c0 (by omega))) (Lib.hid (callsRow 11 (by omega))) (Lib.hid (divide_no s _ _ u hb.1 hb.2 hn.1 hn.2 hz))
  · exact do_trap s _ 2 11 a b c i (i % 4294967296) _ 11 u (A.fn 11) a0 (by omega) b0 (by omega) w (Lib.hid (opOf_2 11 a b c i u (by omega) hm')) (Lib.hid (number_imm s 11 a b c i u)) (Lib.hid (callsRow 11 (by omega))) (Lib.hid (divide_no s _ _ u hb.1 hb.2 hn.1 hn.2 hz))
end Go.Proofs.Ytlmddkciamdldaa

/-
  The contracts of Taken, of the document's Taken, Show and bit, and of the document's example.
-/
namespace Go.Proofs.Ytlmddkciamdldaa
open Go.RowKit
set_option linter.unusedVariables false
set_option linter.unusedSimpArgs false
set_option maxRecDepth 100000
namespace A
@[simp] theorem cell_r0 (s : Regs) : (cells s)[0]? = some (.int .u32 (s.r 0)) := rfl
@[simp] theorem cell_r1 (s : Regs) : (cells s)[1]? = some (.int .u32 (s.r 1)) := rfl
@[simp] theorem cell_r2 (s : Regs) : (cells s)[2]? = some (.int .u32 (s.r 2)) := rfl
@[simp] theorem cell_r3 (s : Regs) : (cells s)[3]? = some (.int .u32 (s.r 3)) := rfl
@[simp] theorem cell_r4 (s : Regs) : (cells s)[4]? = some (.int .u32 (s.r 4)) := rfl
@[simp] theorem cell_r5 (s : Regs) : (cells s)[5]? = some (.int .u32 (s.r 5)) := rfl
@[simp] theorem cell_r6 (s : Regs) : (cells s)[6]? = some (.int .u32 (s.r 6)) := rfl
@[simp] theorem cell_r7 (s : Regs) : (cells s)[7]? = some (.int .u32 (s.r 7)) := rfl
@[simp] theorem cell_r8 (s : Regs) : (cells s)[8]? = some (.int .u32 (s.r 8)) := rfl
@[simp] theorem cell_r9 (s : Regs) : (cells s)[9]? = some (.int .u32 (s.r 9)) := rfl
@[simp] theorem cell_r10 (s : Regs) : (cells s)[10]? = some (.int .u32 (s.r 10)) := rfl
@[simp] theorem cell_r11 (s : Regs) : (cells s)[11]? = some (.int .u32 (s.r 11)) := rfl
@[simp] theorem cell_r12 (s : Regs) : (cells s)[12]? = some (.int .u32 (s.r 12)) := rfl
@[simp] theorem cell_r13 (s : Regs) : (cells s)[13]? = some (.int .u32 (s.r 13)) := rfl
@[simp] theorem cell_r14 (s : Regs) : (cells s)[14]? = some (.int .u32 (s.r 14)) := rfl
@[simp] theorem cell_r15 (s : Regs) : (cells s)[15]? = some (.int .u32 (s.r 15)) := rfl
@[simp] theorem set_r0 (s : Regs) (x : Int) : (cells s).setIfInBounds 0 (.int .u32 x) = cells (set s 0 x) := rfl
@[simp] theorem set_r1 (s : Regs) (x : Int) : (cells s).setIfInBounds 1 (.int .u32 x) = cells (set s 1 x) := rfl
@[simp] theorem set_r2 (s : Regs) (x : Int) : (cells s).setIfInBounds 2 (.int .u32 x) = cells (set s 2 x) := rfl
@[simp] theorem set_r3 (s : Regs) (x : Int) : (cells s).setIfInBounds 3 (.int .u32 x) = cells (set s 3 x) := rfl
@[simp] theorem set_r4 (s : Regs) (x : Int) : (cells s).setIfInBounds 4 (.int .u32 x) = cells (set s 4 x) := rfl
@[simp] theorem set_r5 (s : Regs) (x : Int) : (cells s).setIfInBounds 5 (.int .u32 x) = cells (set s 5 x) := rfl
@[simp] theorem set_r6 (s : Regs) (x : Int) : (cells s).setIfInBounds 6 (.int .u32 x) = cells (set s 6 x) := rfl
@[simp] theorem set_r7 (s : Regs) (x : Int) : (cells s).setIfInBounds 7 (.int .u32 x) = cells (set s 7 x) := rfl
@[simp] theorem set_r8 (s : Regs) (x : Int) : (cells s).setIfInBounds 8 (.int .u32 x) = cells (set s 8 x) := rfl
@[simp] theorem set_r9 (s : Regs) (x : Int) : (cells s).setIfInBounds 9 (.int .u32 x) = cells (set s 9 x) := rfl
@[simp] theorem set_r10 (s : Regs) (x : Int) : (cells s).setIfInBounds 10 (.int .u32 x) = cells (set s 10 x) := rfl
@[simp] theorem set_r11 (s : Regs) (x : Int) : (cells s).setIfInBounds 11 (.int .u32 x) = cells (set s 11 x) := rfl
@[simp] theorem set_r12 (s : Regs) (x : Int) : (cells s).setIfInBounds 12 (.int .u32 x) = cells (set s 12 x) := rfl
@[simp] theorem set_r13 (s : Regs) (x : Int) : (cells s).setIfInBounds 13 (.int .u32 x) = cells (set s 13 x) := rfl
@[simp] theorem set_r14 (s : Regs) (x : Int) : (cells s).setIfInBounds 14 (.int .u32 x) = cells (set s 14 x) := rfl
@[simp] theorem set_r15 (s : Regs) (x : Int) : (cells s).setIfInBounds 15 (.int .u32 x) = cells (set s 15 x) := rfl
/-- which conditions hold, 0 to 7 -/
def hold (s : Regs) (j : Nat) : Bool := if j = 0 then s.n else if j = 1 then s.z else if j = 2 then s.c else if j = 3 then s.v else if j = 4 then s.c || s.z else if j = 5 then s.n != s.v else if j = 6 then (s.n != s.v) || s.z else true
/-- P4.3 -/
def taken (s : Regs) (c : Int) : Bool := if 0 ≤ c ∧ c < 8 then hold s c.toNat else if 8 ≤ c ∧ c < 16 then !hold s (c - 8).toNat else false
theorem taken_low (s : Regs) (c : Int) (h : c < 0) : taken s c = false := by
  unfold taken; rw [if_neg (by omega), if_neg (by omega)]
theorem taken_high (s : Regs) (c : Int) (h : 16 ≤ c) : taken s c = false := by
  unfold taken; rw [if_neg (by omega), if_neg (by omega)]
end A
set_option maxHeartbeats 1000000 in
theorem taken_any (s : A.Regs) (c : Int) (w : World) : Calls Try.prog 17 #[.agg (A.cells s), .int .i64 c] w fun e w' => e = .returned (.bool (A.taken s c)) ∧ Kept w w' := by
  rcases (show c < 0 ∨ 16 ≤ c ∨ (0 ≤ c ∧ c < 16) by omega) with h | h | ⟨h0, h1⟩
  · rw [A.taken_low s c h]
    go_enter Try.func17, Try.ntmps17
    go_wp2
    go_ret
    exact ⟨rfl, (Kept.refl w).alloc _ _⟩
  · rw [A.taken_high s c h]
    have h' : ¬ c < 0 := by omega
    go_enter Try.func17, Try.ntmps17
    go_wp2
    go_ret
    exact ⟨rfl, (Kept.refl w).alloc _ _⟩
  · obtain ⟨R, H, n, z, cc, v⟩ := s
    cases n <;> cases cc <;> cases v
    all_goals
      go_enter Try.func17, Try.ntmps17
      go_upto_region 5 with (fail)
      rcases (show c = 0 ∨ c = 1 ∨ c = 2 ∨ c = 3 ∨ c = 4 ∨ c = 5 ∨ c = 6 ∨ c = 7 ∨ c = 8 ∨ c = 9 ∨ c = 10 ∨ c = 11 ∨ c = 12 ∨ c = 13 ∨ c = 14 ∨ c = 15 by omega) with rfl | rfl | rfl | rfl | rfl | rfl | rfl | rfl | rfl | rfl | rfl | rfl | rfl | rfl | rfl | rfl
      all_goals
        go_wp2
        go_ret
        exact r1bk (by cases z <;> rfl) (((Kept.refl w).alloc _ _).alloc _ _)
end Go.Proofs.Ytlmddkciamdldaa

/-
  The contracts of package machine: loaded, branch; the bus.
-/
namespace Go.Proofs.Ytlmddkciamdldaa
open Go.RowKit
set_option linter.unusedVariables false
set_option linter.unusedSimpArgs false
set_option maxRecDepth 100000
theorem loaded_any (s : A.Regs) (a x : Int) (a0 : 0 ≤ a) (a1 : a < 16) (x0 : 0 ≤ x) (x1 : x < 4294967296) (w : World) :
    Calls Try.prog 64 #[.agg (A.cells s), .int .i64 a, .int .u32 x] w fun e w' => e = .returned (.agg (A.cells (A.show' (A.set s a.toNat x) x))) ∧ Kept w w' := by
  have hc := A.cell_r s a.toNat (by omega)
  have hset := A.set_r s a.toNat (by omega) x
  go_enter Try.func64, Try.ntmps64
  go_wp2_with (with_reducible refine load_has rfl 27 _ rfl _ rfl ((Has.new _ _ _).alloc _) Try.underlying27 rfl (A.info25 _) ?_)
  refine (show_any _ _ x0 x1 _).mono ?_; rintro e w2 ⟨rfl, hK2⟩
  have hZ := (Has.new1 _ _ _ _).kept hK2
  have hK := (((Kept.refl w).alloc _ _).alloc _ _).trans hK2
  go_wp2_with (with_reducible refine store_has rfl 27 _ _ rfl _ _ rfl rfl hZ (A.info25 _) (by kernel_rfl) (A.one_cells _) ?_)
  exact bodyPost_ret (results_has rfl (w.heap.size + 1) rfl (hZ.row _) Try.underlying27 rfl (A.info25 _)) rfl ⟨rfl, hK.row (by omega) _⟩
/-- the registers behind a branch, and where it goes -/
def X.brS (s : A.Regs) (y op : Int) (u : Bool) : A.Regs := if A.taken s op = true ∧ u = true then A.set s 15 y else s
def X.brP (s : A.Regs) (y k op c i : Int) : Int := if A.taken s op = true then (if k = 6 then s.r c.toNat else (y + 4 * i) % 4294967296) else y
theorem branch_any (s : A.Regs) (y k op a b c i : Int) (u : Bool) (y0 : 0 ≤ y) (y1 : y < 4294967296) (c0 : 0 ≤ c) (c1 : c < 16) (i0 : -8388608 ≤ i) (i1 : i < 8388608) (hk : k = 6 ∨ k = 7) (w : World) :
    Calls Try.prog 50 #[.agg (A.cells s), .int .u32 y, .agg #[.int .i64 k, .int .i64 op, .int .i64 a, .int .i64 b, .int .i64 c, .int .i64 i, .bool u]] w fun e w' => e = .returned (.tuple #[.agg (A.cells (X.brS s y op u)), .int .u32 (X.brP s y k op c i)]) ∧ Kept w w' := by
  have hc := A.cell_r s c.toNat (by omega)
  have hset := A.set_r s 15 (by omega) y
  have hT := fun w => taken_any s op w
  have eS : ∀ t, A.taken s op = t → X.brS s y op u = if t = true ∧ u = true then A.set s 15 y else s := fun t h => by rw [← h]; rfl
  have eP : ∀ t, A.taken s op = t → X.brP s y k op c i = if t = true then (if k = 6 then s.r c.toNat else (y + 4 * i) % 4294967296) else y := fun t h => by rw [← h]; rfl
  generalize ht : A.taken s op = t at hT
  have eS := eS t ht
  have eP := eP t ht
  have w4 : wrap64 (4 * i) = 4 * i := by unfold wrap64; omega
  clear ht
  generalize X.brS s y op u = S' at *
  generalize X.brP s y k op c i = P' at *
  have eS := Lib.hid eS
  have eP := Lib.hid eP
  go_enter Try.func50, Try.ntmps50
  go_wp2_with (with_reducible refine load_has rfl 27 _ rfl _ rfl (((Has.new _ _ _).alloc _).alloc _) Try.underlying27 rfl (A.info25 _) ?_)
  refine (hT _).mono ?_; rintro e w2 ⟨rfl, hK2⟩
  have hR := ((Has.new (A.cells s) 27 w).alloc _).alloc _ |>.kept hK2
  have hI := ((Has.new1 _ _ _ _).alloc _).kept hK2
  have hZ := (Has.new2 _ _ _ _ _).kept hK2
  have hK := Lib.hid ((((Kept.refl w).alloc _ _).alloc _ _).alloc _ _ |>.trans hK2)
  clear hK2 hT
  have ci0 : w2.cell? ⟨w.heap.size + 1, 0, none⟩ = some (.int .i64 k) := hI.cell 0 _ rfl
  have ci4 : w2.cell? ⟨w.heap.size + 1, 4, none⟩ = some (.int .i64 c) := hI.cell 4 _ rfl
  have ci5 : w2.cell? ⟨w.heap.size + 1, 5, none⟩ = some (.int .i64 i) := hI.cell 5 _ rfl
  have ci6 : w2.cell? ⟨w.heap.size + 1, 6, none⟩ = some (.bool u) := hI.cell 6 _ rfl
  have cr := hR.cell _ _ hc
  have cf := hR.free 15
  have c15 := hR.cell 15 _ (A.cell_r s 15 (by omega))
  have hR' := Lib.hid (hR.set 15 (.int .u32 y))
  rw [hset] at hR'
  have hZ' := Lib.hid (hZ.other (p := ⟨w.heap.size, 15, none⟩) (by simp) (.int .u32 y))
  have hK' := Lib.hid (hK.out.setCell (p := ⟨w.heap.size, 15, none⟩) (by simp) (.int .u32 y))
  have hle : w.heap.size ≤ w.heap.size + 2 := by omega
  clear hI hset hc
  generalize hg0 : w.heap.size = g0 at *
  replace hR := Lib.hid hR
  replace hZ := Lib.hid hZ
  cases t
  · go_wp2_with (first
      | (with_reducible refine load_has rfl 27 _ rfl _ rfl hR.out Try.underlying27 rfl (A.info25 _) ?_)
      | (with_reducible refine store_has rfl 27 _ _ rfl _ _ rfl rfl hZ.out (A.info25 _) (by kernel_rfl) (A.one_cells _) ?_))
    rw [eS.out, eP.out]
    exact bodyPost_ret (results_has2 rfl (g0 + 2) rfl (hZ.out.row _) Try.underlying27 rfl (A.info25 _)) rfl ⟨rfl, hK.out.row (by omega) _⟩
  · rcases hk with rfl | rfl <;> cases u
    · go_upto_region 8 with (fail)
      go_wp2_with (first
      | (with_reducible refine load_has rfl 27 _ rfl _ rfl hR.out Try.underlying27 rfl (A.info25 _) ?_)
      | (with_reducible refine store_has rfl 27 _ _ rfl _ _ rfl rfl hZ.out (A.info25 _) (by kernel_rfl) (A.one_cells _) ?_))
      rw [eS.out, eP.out]
      exact bodyPost_ret (results_has2 rfl (g0 + 2) rfl (hZ.out.row _) Try.underlying27 rfl (A.info25 _)) rfl ⟨rfl, hK.out.row (by omega) _⟩
    · go_upto_region 8 with (fail)
      generalize w2.setCell _ _ = w3 at *
      go_wp2_with (first
      | (with_reducible refine load_has rfl 27 _ rfl _ rfl hR'.out Try.underlying27 rfl (A.info25 _) ?_)
      | (with_reducible refine store_has rfl 27 _ _ rfl _ _ rfl rfl hZ'.out (A.info25 _) (by kernel_rfl) (A.one_cells _) ?_))
      rw [eS.out, eP.out]
      exact bodyPost_ret (results_has2 rfl (g0 + 2) rfl (hZ'.out.row _) Try.underlying27 rfl (A.info25 _)) rfl ⟨rfl, hK'.out.row (by omega) _⟩
    · go_upto_region 8 with (fail)
      go_wp2_with (first
      | (with_reducible refine load_has rfl 27 _ rfl _ rfl hR.out Try.underlying27 rfl (A.info25 _) ?_)
      | (with_reducible refine store_has rfl 27 _ _ rfl _ _ rfl rfl hZ.out (A.info25 _) (by kernel_rfl) (A.one_cells _) ?_))
      rw [eS.out, eP.out]
      refine bodyPost_ret (results_has2 rfl (g0 + 2) rfl (hZ.out.row _) Try.underlying27 rfl (A.info25 _)) rfl ⟨?_, hK.out.row (by omega) _⟩
      rfl
    · go_upto_region 8 with (fail)
      generalize w2.setCell _ _ = w3 at *
      go_wp2_with (first
      | (with_reducible refine load_has rfl 27 _ rfl _ rfl hR'.out Try.underlying27 rfl (A.info25 _) ?_)
      | (with_reducible refine store_has rfl 27 _ _ rfl _ _ rfl rfl hZ'.out (A.info25 _) (by kernel_rfl) (A.one_cells _) ?_))
      rw [eS.out, eP.out]
      exact bodyPost_ret (results_has2 rfl (g0 + 2) rfl (hZ'.out.row _) Try.underlying27 rfl (A.info25 _)) rfl ⟨rfl, hK'.out.row (by omega) _⟩
end Go.Proofs.Ytlmddkciamdldaa

/-
  The contracts of package machine: the bus (input, load, store).
-/
namespace Go.Proofs.Ytlmddkciamdldaa
open Go.RowKit
set_option linter.unusedVariables false
set_option linter.unusedSimpArgs false
set_option maxRecDepth 100000
theorem Ws.drop1 {w : World} {b off n c : Nat} {y : Int} {ys : List Int} (h : Ws w (some ⟨b, off, none⟩) (n + 1) c (y :: ys)) (A : Option Addr) (hA : A = some ⟨b, off + 1, none⟩ ∨ n = 0 ∧ (A = none → c - 1 = 0)) : Ws w A n (c - 1) ys := by
  refine ⟨by simpa using h.len, by have := h.le; omega, by have := h.max; omega, fun e => ?_, fun x hx => h.rng x (by simp [hx]), fun ad e j x hx => ?_⟩
  · rcases hA with hA | hA
    · subst hA; cases e
    · exact hA.2 e
  · rcases hA with hA | hA
    · subst hA
      cases e
      have := h.cellAt (j + 1) x (by simpa using hx)
      rw [Addr.add_mid]
      rwa [show off + 1 + j = off + (j + 1) by omega]
    · have : ys = [] := List.eq_nil_of_length_eq_zero (by have := h.len; simp at this; omega)
      subst this; simp at hx
/-- an input is taken -/
theorem MacAt.eaten {F : Nat → Prop} {B : Nat} {x : X.St} {b off n ci : Nat} {ao : Option Addr} {no co : Nat} {w : World} {y : Int} {ys : List Int} (h : MacAt F B x (some ⟨b, off, none⟩) (n + 1) ci ao no co w) (hx : x.ins = y :: ys) (A' : Option Addr)
    (hA : A' = some ⟨b, off + 1, none⟩ ∨ n = 0 ∧ A' = some ⟨b, off, none⟩) : MacAt F B ⟨x.ws, x.s, x.pc, x.st, ys, x.outs⟩ A' n (ci - 1) ao no co (w.setCell ⟨B, 4097, none⟩ (.slice A' n (ci - 1))) := by
  have hB : But B w (w.setCell ⟨B, 4097, none⟩ (.slice A' n (ci - 1))) := (But.refl B w).setCell _ _
  have hw := h.ins
  rw [hx] at hw
  have hi := h.insF _ rfl (by omega)
  have hAb : ∀ ad, A' = some ad → ad.block = b := by
    intro ad e
    rcases hA with hA | hA
    · rw [hA] at e; cases e; rfl
    · rw [hA.2] at e; cases e; rfl
  have hW : Ws w A' n (ci - 1) ys := hw.drop1 A' (by
    rcases hA with hA | hA
    · exact Or.inl hA
    · exact Or.inr ⟨hA.1, fun e => by rw [hA.2] at e; cases e⟩)
  refine ⟨fun k hk => Nat.lt_of_lt_of_le (h.sub k hk) hB.size, h.inB, ?_, hW.but hB fun ad e _ => by rw [hAb ad e]; exact hi.2.1, fun ad e _ => by rw [hAb ad e]; exact hi,
    h.out.to fun ad e => hB.block _ (h.sub _ (h.outF ad e).1) (h.outF ad e).2, h.outF, h.ok, h.pc0, h.pc1, h.rng⟩
  have := h.mem.set1 0 (.slice A' n (ci - 1))
  rw [X.tl_in] at this
  exact this
theorem input_any {F : Nat → Prop} {B : Nat} {x : X.St} {ai : Option Addr} {ni ci : Nat} {ao : Option Addr} {no co : Nat} {w : World} (h : MacAt F B x ai ni ci ao no co w) :
    Calls Try.prog 88 #[.pointer (some ⟨B, 0, none⟩)] w fun e w' => e = .returned (.int .u32 (x.ins.headD 0)) ∧ But B w w' ∧ ∃ ai' ni' ci', MacAt F B ⟨x.ws, x.s, x.pc, x.st, x.ins.tail, x.outs⟩ ai' ni' ci' ao no co w' := by
  have hc : w.cell? ⟨B, 4097, none⟩ = some (.slice ai ni ci) := h.mem.tail 0 _ rfl
  have hf := h.mem.free 4097
  have hl := h.ins.len
  cases hx : x.ins with
  | nil =>
    rw [hx] at hl
    have h0 : ni = 0 := by simpa using hl.symm
    subst h0
    have hh := Lib.hid h
    clear h
    go_enter Try.func88, Try.ntmps88
    go_wp2
    go_ret
    refine ⟨rfl, But.refl B w, ai, 0, ci, ?_⟩
    have := hh.out
    obtain ⟨ws, s, pc, st, ins, outs⟩ := x
    simp only at hx
    subst hx
    exact this
  | cons y ys =>
    obtain ⟨n, rfl⟩ : ∃ n, ni = n + 1 := ⟨ys.length, by rw [hx] at hl; simpa using hl.symm⟩
    have hw := h.ins
    rw [hx] at hw
    obtain ⟨b, off, rfl⟩ : ∃ b off, ai = some ⟨b, off, none⟩ := by
      cases ai with
      | none => have := hw.nil rfl; have := hw.le; omega
      | some ad => obtain ⟨b, off, rfl⟩ := hw.addr (by omega); exact ⟨b, off, rfl⟩
    have hy : w.cell? ⟨b, off, none⟩ = some (.int .u32 y) := hw.cellAt 0 y rfl
    have hle := hw.le
    have hmx := hw.max
    have hh := Lib.hid h
    have hS := fun v => Lib.hid (h.mem.set1 0 v)
    clear h
    go_enter Try.func88, Try.ntmps88
    go_wp2
    · go_ret
      have e : ci - 1 = 0 := by omega
      have := hh.out.eaten hx (some ⟨b, off, none⟩) (Or.inr ⟨by omega, rfl⟩)
      rw [e] at this
      exact ⟨rfl, (But.refl B w).setCell _ _, _, _, _, this⟩
    · go_ret
      exact ⟨rfl, (But.refl B w).setCell _ _, _, _, _, hh.out.eaten hx _ (Or.inl rfl)⟩
/-- what is loaded, of a bus -/
def X.ldV (x : X.St) (a : Int) : Int := if a = 4294967232 then x.ins.headD 0 else M.word x.ws a
def X.ldT (x : X.St) (a : Int) : Int := if a = 4294967232 then 0 else M.wt x.ws a
def X.ldI (x : X.St) (a : Int) : List Int := if a = 4294967232 then x.ins.tail else x.ins
theorem busLoad_any {F : Nat → Prop} {B : Nat} {x : X.St} {ai : Option Addr} {ni ci : Nat} {ao : Option Addr} {no co : Nat} {w : World} (h : MacAt F B x ai ni ci ao no co w) (a : Int) (a0 : 0 ≤ a) (a1 : a < 4294967296) :
    Calls Try.prog 63 #[.pointer (some ⟨B, 0, none⟩), .int .u32 a] w fun e w' => e = .returned (.tuple #[.int .u32 (X.ldV x a), .int .i64 (X.ldT x a)]) ∧ But B w w' ∧ ∃ ai' ni' ci', MacAt F B ⟨x.ws, x.s, x.pc, x.st, X.ldI x a, x.outs⟩ ai' ni' ci' ao no co w' := by
  by_cases c : a = 4294967232
  · have e1 : X.ldV x a = x.ins.headD 0 := if_pos c
    have e2 : X.ldT x a = 0 := if_pos c
    have e3 : X.ldI x a = x.ins.tail := if_pos c
    rw [e1, e2, e3]
    subst c
    have C := Lib.hid (input_any h)
    clear h e1 e2 e3
    generalize x.ins.headD 0 = hd at C ⊢
    go_enter Try.func63, Try.ntmps63
    go_wp2_with (fail)
    refine C.out.mono ?_; rintro e w2 ⟨rfl, hB, hM⟩
    go_wp2
    go_ret2
    exact ⟨rfl, hB, hM⟩
  · have e1 : X.ldV x a = M.word x.ws a := if_neg c
    have e2 : X.ldT x a = M.wt x.ws a := if_neg c
    have e3 : X.ldI x a = x.ins := if_neg c
    rw [e1, e2, e3]
    have C := Lib.hid (M.word_any h.mem a a0 a1)
    have hh := Lib.hid h
    have c2 : (a == 4294967232) = false := by simpa using c
    generalize M.word x.ws a = v at *
    generalize M.wt x.ws a = t at *
    clear h e1 e2 e3
    go_enter Try.func63, Try.ntmps63
    go_wp2_with (fail)
    refine C.out.mono ?_; rintro e w2 ⟨rfl, rfl⟩
    go_wp2
    go_ret2
    exact ⟨rfl, But.refl B w, ai, ni, ci, hh.out⟩
/-- what is stored, at a bus -/
def X.swT (x : X.St) (a : Int) : Int := if a = 4294967236 then 0 else if a = 4294967240 then 1 else M.wt x.ws a
def X.swW (x : X.St) (a v : Int) : List Int := if a = 4294967236 then x.ws else if a = 4294967240 then x.ws else M.setW x.ws a v
def X.swO (x : X.St) (a v : Int) : List Int := if a = 4294967236 then x.outs ++ [v] else x.outs
theorem Ws.sole {w : World} {g : Nat} {t : TypeId} {v : Int} (h : Has g #[Value.int .u32 v] t w) (v0 : 0 ≤ v) (v1 : v < 4294967296) : Ws w (some ⟨g, 0, none⟩) 1 1 [v] :=
  ⟨rfl, Nat.le_refl _, by simp [maxLen], by simp, fun x hx => by simp at hx; omega, fun ad e j x hx => by
    cases e
    rw [Addr.add_mid]
    cases j with
    | zero => cases hx; exact h.cell 0 _ rfl
    | succ j => simp at hx⟩
/-- an output is put -/
theorem MacAt.outed {F : Nat → Prop} {B : Nat} {x : X.St} {ai : Option Addr} {ni ci : Nat} {ao : Option Addr} {no co : Nat} {w w1 w3 : World} {A' : Option Addr} {n' c' : Nat} {v : Int} (h : MacAt F B x ai ni ci ao no co w) (hK : Kept w w1)
    (hG : w1.grownBy w3 (Value.ownBlock (.slice ao no co))) (hO : X.Outs A' n' c' (x.outs ++ [v]) w3) (hA : ∀ bd, A' = some bd → ao = some bd ∨ w1.heap.size ≤ bd.block) (v0 : 0 ≤ v) (v1 : v < 4294967296) :
    MemT 70 (X.tl (.slice ai ni ci) (.slice ao no co) x.s x.pc x.st) B x.ws w3 ∧ ∃ F' : Nat → Prop, MacAt F' B ⟨x.ws, x.s, x.pc, x.st, x.ins, x.outs ++ [v]⟩ ai ni ci A' n' c' (w3.setCell ⟨B, 4098, none⟩ (.slice A' n' c')) ∧
      Turn F w (w3.setCell ⟨B, 4098, none⟩ (.slice A' n' c')) ∧ ∀ k, F' k → F k ∨ w.heap.size ≤ k := by
  have hrow : ∀ k, Value.ownBlock (.slice ao no co) = some k → F k ∧ k ≠ B ∧ ∀ ad, ai = some ad → 0 < ni → ad.block ≠ k := by
    intro k hk
    cases ao with
    | none => cases hk
    | some bd =>
      cases hk
      exact ⟨(h.outF bd rfl).1, (h.outF bd rfl).2, fun ad e hn => (h.insF ad e hn).2.2 bd rfl⟩
  have hT1 : Turn F w w1 := hK.turn F
  have hT3 : Turn F w1 w3 := grown_turn hG fun k hk => (hrow k hk).1
  have hBl : B < w.heap.size := h.sub B h.inB
  have hb1 : w3.heap[B]? = w.heap[B]? := (hG.block B (by have := hK.size; omega) (fun e => (hrow B e.symm).2.1 rfl)).trans (hK.below.block B hBl)
  have hm := h.mem.to hb1
  have hB4 : But B w3 (w3.setCell ⟨B, 4098, none⟩ (.slice A' n' c')) := (But.refl B w3).setCell _ _
  have hs3 : w.heap.size ≤ w3.heap.size := Nat.le_trans hT1.size hT3.size
  have hlt : ∀ ad, A' = some ad → ad.block < w3.heap.size := by
    intro ad e
    subst e
    exact (World.ownsRow.lt hO ad.block rfl).2
  have hA' : ∀ ad, A' = some ad → (F ad.block ∨ w.heap.size ≤ ad.block) ∧ ad.block ≠ B := by
    intro ad e
    rcases hA ad e with h1 | h1
    · exact ⟨Or.inl (h.outF ad h1).1, (h.outF ad h1).2⟩
    · exact ⟨Or.inr (Nat.le_trans hT1.size h1), by have := hT1.size; omega⟩
  refine ⟨hm, fun k => F k ∨ (w.heap.size ≤ k ∧ k < w3.heap.size), ⟨?_, Or.inl h.inB, ?_, ?_, ?_, ?_, ?_, h.ok, h.pc0, h.pc1, ?_⟩, (hT1.trans hT3).trans (hB4.turn h.inB), ?_⟩
  · intro k hk
    refine Nat.lt_of_lt_of_le ?_ hB4.size
    rcases hk with hk | hk
    · exact Nat.lt_of_lt_of_le (h.sub k hk) hs3
    · exact hk.2
  · have := hm.set1 1 (.slice A' n' c')
    rw [X.tl_out] at this
    exact this
  · refine (h.ins.to (w' := w3) fun ad e hn => ?_).but hB4 fun ad e hn => (h.insF ad e hn).2.1
    have hl := h.sub _ (h.insF ad e hn).1
    exact (hG.block _ (by have := hK.size; omega) (fun e' => (hrow _ e'.symm).2.2 ad e hn rfl)).trans (hK.below.block _ hl)
  · intro ad e hn
    have := h.insF ad e hn
    refine ⟨Or.inl this.1, this.2.1, fun bd e' => ?_⟩
    rcases hA bd e' with h1 | h1
    · exact this.2.2 bd h1
    · have := h.sub _ this.1
      have := hT1.size
      omega
  · exact hO.to fun ad e => hB4.block _ (hlt ad e) (hA' ad e).2
  · intro ad e
    refine ⟨?_, (hA' ad e).2⟩
    rcases (hA' ad e).1 with h1 | h1
    · exact Or.inl h1
    · exact Or.inr ⟨h1, hlt ad e⟩
  · intro y hy
    rcases List.mem_append.1 hy with hy | hy
    · exact h.rng y hy
    · simp at hy; omega
  · intro k hk
    rcases hk with hk | hk
    · exact Or.inl hk
    · exact Or.inr hk.1
theorem busStore_any {F : Nat → Prop} {B : Nat} {x : X.St} {ai : Option Addr} {ni ci : Nat} {ao : Option Addr} {no co : Nat} {w : World} (h : MacAt F B x ai ni ci ao no co w) (a v : Int) (a0 : 0 ≤ a) (a1 : a < 4294967296) (v0 : 0 ≤ v) (v1 : v < 4294967296) (hn : x.outs.length < 1000000) :
    Calls Try.prog 66 #[.pointer (some ⟨B, 0, none⟩), .int .u32 a, .int .u32 v] w fun e w' => e = .returned (.int .i64 (X.swT x a)) ∧ ∃ F' ao' no' co', MacAt F' B ⟨X.swW x a v, x.s, x.pc, x.st, x.ins, X.swO x a v⟩ ai ni ci ao' no' co' w' ∧ Turn F w w' ∧ ∀ k, F' k → F k ∨ w.heap.size ≤ k := by
  by_cases c : a = 4294967236
  · have e1 : X.swT x a = 0 := if_pos c
    have e2 : X.swW x a v = x.ws := if_pos c
    have e3 : X.swO x a v = x.outs ++ [v] := if_pos c
    rw [e1, e2, e3]
    subst c
    have hc : w.cell? ⟨B, 4098, none⟩ = some (.slice ao no co) := h.mem.tail 1 _ rfl
    have hf := h.mem.free 4098
    have hh := Lib.hid h
    have hB : B < w.heap.size := h.sub B h.inB
    clear h e1 e2 e3
    go_enter Try.func66, Try.ntmps66
    go_upto_region 3 with (fail)
    have hA := Lib.hid ((Kept.refl w).alloc #[Value.int .u32 v] 24)
    have hY := Lib.hid (Ws.sole (Has.new #[Value.int .u32 v] 24 w) v0 v1)
    have hO := Lib.hid (hh.out.out.to (w' := w.alloc (.cells #[Value.int .u32 v] 24)) fun ad e => hA.out.below.block _ (hh.out.sub _ (hh.out.outF ad e).1))
    have hno := hh.out.out.len
    go_wp2_with (with_reducible refine append_out (o := ⟨some 17, _, _, _, _, _⟩) rfl (.tmp 14) (.tmp 16) rfl ao no co x.outs rfl hO.out ⟨w.heap.size, 0, none⟩ 1 1 [v] rfl hY.out (by omega) (by omega) ?_; intro A' cap' w3 hO3 hG3 hN3; have hD := hh.out.outed hA.out hG3 hO3 hN3 v0 v1; have hc3 : w3.cell? ⟨B, 4098, none⟩ = some (.slice ao no co) := hD.1.tail 1 _ rfl; have hf3 := hD.1.free 4098; replace hD := Lib.hid hD.2; clear hc hf hO hY hA hh hO3 hG3 hN3)
    go_ret
    obtain ⟨F', q1, q2, q3⟩ := hD.out
    exact ⟨rfl, F', A', _, cap', q1, q2, q3⟩
  · have e1 : X.swT x a = (if a = 4294967240 then 1 else M.wt x.ws a) := if_neg c
    have e2 : X.swW x a v = (if a = 4294967240 then x.ws else M.setW x.ws a v) := if_neg c
    have e3 : X.swO x a v = x.outs := if_neg c
    have c2 : (a == 4294967236) = false := by simpa using c
    rw [e1, e2, e3]
    clear e1 e2 e3
    by_cases d : a = 4294967240
    · rw [if_pos d, if_pos d]
      subst d
      have hh := Lib.hid h
      clear h
      go_enter Try.func66, Try.ntmps66
      go_wp2
      go_ret
      exact ⟨rfl, F, ao, no, co, hh.out, Turn.refl F w, fun k hk => Or.inl hk⟩
    · rw [if_neg d, if_neg d]
      have d2 : (a == 4294967240) = false := by simpa using d
      have C := Lib.hid (M.setW_any h.mem a v a0 a1 v0 v1)
      have hh := Lib.hid h
      generalize M.wt x.ws a = t at *
      clear h
      go_enter Try.func66, Try.ntmps66
      go_wp2_with (fail)
      refine C.out.mono ?_; rintro e w2 ⟨rfl, hM, hB⟩
      have hE := Lib.hid (hh.out.own hB _ _ _ _ hM hh.out.ok hh.out.pc0 hh.out.pc1)
      have hT := Lib.hid (hB.turn hh.out.inB)
      clear C hM hB hh
      go_wp2
      go_ret
      exact ⟨rfl, F, ao, no, co, hE.out, hT.out, fun k hk => Or.inl hk⟩
end Go.Proofs.Ytlmddkciamdldaa

/-
  A region that draws its order, whose operations but for a tail only read, behind a wall through which no tactic looks: an operation is taken, or passed over where its guard says no. No Go text is named here.
-/
namespace Go.Proofs.Ytlmddkciamdldaa
set_option linter.unusedVariables false
section
variable {P : Program} {ops : Array Oper} {w : World} {Q : Act → Prop} {a : Act} {o : Oper} {rest : List Oper}
structure WS (P : Program) (ops : Array Oper) (w : World) (Q : Act → Prop) (l : List Oper) (a : Act) : Prop where
  out : wpStill P ops w Q l a
theorem WS.skip (hw : Region.wanted o (yielded ops a.tmps) = false) (h : WS P ops w Q rest (a.put o.dst undef)) : WS P ops w Q (o :: rest) a := by
  constructor
  unfold wpStill
  rw [if_neg (by rw [hw]; decide)]
  exact h.out
theorem WS.want (hw : Region.wanted o (yielded ops a.tmps) = true) (h : ∀ K : Act → Prop, (∀ a, WS P ops w Q rest a → K a) → o.still P a w K) : WS P ops w Q (o :: rest) a := by
  constructor
  unfold wpStill
  rw [if_pos hw]
  exact Oper.still_mono (fun _ h => h.out) (h (WS P ops w Q rest) (fun _ h => h))
theorem WS.step (hg : o.guard = none) (h : ∀ K : Act → Prop, (∀ a, WS P ops w Q rest a → K a) → o.still P a w K) : WS P ops w Q (o :: rest) a :=
  WS.want (by simp [Region.wanted, hg]) h
theorem WS.nil (h : Q a) : WS P ops w Q [] a := ⟨h⟩
theorem WS.start {id : Nat} {Q : Exit → Act → World → Prop} {a : Act} {w : World} {l : List Oper} (n : Nat) (hm : P.follows .mixedOrders = true) (hB : Region.lexTailB .any l.toArray n = true)
    (h : ∀ w', w' = w.drew → WS P l.toArray w' (fun a' => wpList P l.toArray Q (l.drop n) a' w') (l.take n) a) : (Code.region id l.toArray true).wp P Q a w :=
  wp_region_still_tail n hm hB (h _ rfl).out
end
end Go.Proofs.Ytlmddkciamdldaa

/-
  The contracts of package machine: move.
-/
namespace Go.Proofs.Ytlmddkciamdldaa
open Go.RowKit
set_option linter.unusedVariables false
set_option linter.unusedSimpArgs false
set_option maxRecDepth 100000
theorem MacAt.kept {F : Nat → Prop} {B : Nat} {x : X.St} {ai : Option Addr} {ni ci : Nat} {ao : Option Addr} {no co : Nat} {w w' : World} (h : MacAt F B x ai ni ci ao no co w) (hT : Kept w w') : MacAt F B x ai ni ci ao no co w' := h.turn (hT.turn fun _ => False) fun _ _ h => h
theorem MacAt.reg {F : Nat → Prop} {B : Nat} {x : X.St} {ai : Option Addr} {ni ci : Nat} {ao : Option Addr} {no co : Nat} {w : World} (h : MacAt F B x ai ni ci ao no co w) (j : Nat) (hj : j < 16) : w.cell? ⟨B, 4099 + j, none⟩ = some (.int .u32 (x.s.r j)) := by
  have := h.mem.tail (2 + j) _ (X.tl_at _ _ _ _ _ j _ (by have := A.cell_r x.s j hj; simpa using this))
  rwa [show 4097 + (2 + j) = 4099 + j by omega] at this
theorem MacAt.regs {F : Nat → Prop} {B : Nat} {x : X.St} {ai : Option Addr} {ni ci : Nat} {ao : Option Addr} {no co : Nat} {w : World} (h : MacAt F B x ai ni ci ao no co w) : w.rangeAt B 4099 (A.cells x.s).toList :=
  h.mem.at 2 _ fun k v hk => X.tl_at _ _ _ _ _ k v hk
theorem exec_load_mid {P : Program} {o : Oper} {a : Act} {w : World} (ty : TypeId) (x : Operand) (ho : o.op = .load ty x) (b off : Nat) (hx : a.eval x = .pointer (some ⟨b, off, none⟩)) (cs : Array Value) {d : TypeDesc} (hc : w.rangeAt b off cs.toList)
    (hu : P.underlying ty = some d) (hd : d.isRow = true) (hi : (P.info? ty).map (·.size) = some cs.size) : (execOp a.eval o).run P w = .ok (.value (.agg cs)) w := by
  have := run_loadVar_mid (P := P) w b off ty cs.toList d hc hu hd (by simpa using hi)
  unfold execOp
  simp only [ho, hx, Instr.loadAt, Instr.sureAddr, Sem.run_bind, Sem.run_pure, Result.andThen_ok, this, Array.toArray_toList]
theorem But.rowNew {B : Nat} {a b : World} (h : But B a b) {k : Nat} (hk : a.heap.size ≤ k) (cs : Array Value) : But B a (b.setRow k cs) :=
  ⟨h.os, h.tape, h.output, Nat.le_trans h.size (by simp [World.setRow]), fun i hi hB => (setRow_other b k i cs (by omega)).trans (h.block i hi hB), fun x => (froze_setRow b k cs x).trans (h.froze x)⟩
theorem MacAt.row {F : Nat → Prop} {B : Nat} {x : X.St} {ai : Option Addr} {ni ci : Nat} {ao : Option Addr} {no co : Nat} {w : World} (h : MacAt F B x ai ni ci ao no co w) {k : Nat} (hk : ∀ j, F j → j ≠ k) (cs : Array Value) : MacAt F B x ai ni ci ao no co (w.setRow k cs) :=
  h.turn (G := fun j => j = k) ⟨rfl, rfl, rfl, by simp [World.setRow], fun i _ hi => setRow_other w k i cs hi⟩ fun j hj e => hk j hj e
theorem rangeAt_to {w w' : World} {b o : Nat} {cs : List Value} (h : w.rangeAt b o cs) (hb : w'.heap[b]? = w.heap[b]?) : w'.rangeAt b o cs := fun j v hj => (World.cell?_of_block (w := w) hb).trans (h j v hj)
/-- what a move's last region holds to: the registers, the answer's place, the instruction -/
structure X.Mv (B : Nat) (s : A.Regs) (g : Nat) (C : Array Value) (w : World) : Prop where
  lt : B < g
  regs : w.rangeAt B 4099 (A.cells s).toList
  zero : HasN (g + 1) 21 27 w
  ins : Has g C 23 w
theorem X.Mv.kept {B : Nat} {s : A.Regs} {g : Nat} {C : Array Value} {w w' : World} (h : X.Mv B s g C w) (hK : Kept w w') : X.Mv B s g C w' :=
  ⟨h.lt, rangeAt_to h.regs (hK.below.block B (by have := h.ins.lt; have := h.lt; omega)), h.zero.kept hK, h.ins.kept hK⟩
theorem HasN.lt {B n : Nat} {t : TypeId} {w : World} (h : HasN B n t w) : B < w.heap.size := by obtain ⟨cs, _, h⟩ := h; exact lt_of_block h
theorem X.Mv.row {B : Nat} {s : A.Regs} {g : Nat} {C : Array Value} {w : World} (h : X.Mv B s g C w) (cs : Array Value) (hc : cs.size = 21) : X.Mv B s g C (w.setRow (g + 1) cs) := by
  refine ⟨h.lt, rangeAt_to h.regs (setRow_other w (g + 1) B cs (by have := h.lt; omega)), ⟨cs, hc, ?_⟩, h.ins.rowOther (by omega) cs⟩
  obtain ⟨old, _, hR⟩ := h.zero
  exact Has.row hR cs
theorem X.Mv.turn {B : Nat} {s : A.Regs} {g : Nat} {C : Array Value} {F : Nat → Prop} {w w' : World} (h : X.Mv B s g C w) (hT : Turn F w w') (hF : ∀ k, F k → k < g) (hr : w'.rangeAt B 4099 (A.cells s).toList) : X.Mv B s g C w' := by
  obtain ⟨cs, hs, hz⟩ := h.zero
  exact ⟨h.lt, hr, ⟨cs, hs, (hT.block _ (lt_of_block hz) fun e => by have := hF _ e; omega).trans hz⟩, (hT.block _ h.ins.lt fun e => by have := hF _ e; omega).trans h.ins⟩
theorem move_0 {F : Nat → Prop} {B : Nat} {x : X.St} {ai : Option Addr} {ni ci : Nat} {ao : Option Addr} {no co : Nat} {w : World} (h : MacAt F B x ai ni ci ao no co w) (k a b c i y v t : Int) (u : Bool) (a0 : 0 ≤ a) (a1 : a < 16) (b0 : 0 ≤ b) (b1 : b < 16)
    (y0 : 0 ≤ y) (y1 : y < 4294967296) (hy : (x.s.r b.toNat + i % 4294967296) % 4294967296 = y) (v0 : 0 ≤ v) (v1 : v < 4294967296)
    (L : ∀ w, MacAt F B x ai ni ci ao no co w → Calls Try.prog 63 #[.pointer (some ⟨B, 0, none⟩), .int .u32 y] w fun e w' => e = .returned (.tuple #[.int .u32 v, .int .i64 t]) ∧ But B w w' ∧ ∃ ai' ni' ci', MacAt F B ⟨x.ws, x.s, x.pc, x.st, X.ldI x y, x.outs⟩ ai' ni' ci' ao no co w') :
    Calls Try.prog 49 #[.pointer (some ⟨B, 0, none⟩), .agg #[.int .i64 k, .int .i64 0, .int .i64 a, .int .i64 b, .int .i64 c, .int .i64 i, .bool u]] w fun e w' => e = .returned (.tuple #[.agg (A.cells (A.show' (A.set x.s a.toNat v) v)), .int .i64 t]) ∧ But B w w' ∧ ∃ ai' ni' ci', MacAt F B ⟨x.ws, x.s, x.pc, x.st, X.ldI x y, x.outs⟩ ai' ni' ci' ao no co w' := by
  have rb := h.ok.1 b.toNat (by omega)
  have ra := h.ok.1 a.toNat (by omega)
  go_enter Try.func49, Try.ntmps49
  go_upto_region 1 with (fail)
  generalize hw1 : (w.alloc (Obj.cells _ _)).alloc (Obj.cells _ _) = w1
  have hI : Has w.heap.size #[.int .i64 k, .int .i64 0, .int .i64 a, .int .i64 b, .int .i64 c, .int .i64 i, .bool u] 23 w1 := by rw [← hw1]; exact (Has.new _ _ _).alloc _
  have hZ : HasN (w.heap.size + 1) 21 27 w1 := by rw [← hw1]; exact ⟨_, rfl, Has.new1 _ _ _ _⟩
  have hK : Kept w w1 := by rw [← hw1]; exact ((Kept.refl w).alloc _ _).alloc _ _
  clear hw1
  have hM := h.kept hK
  have hBg : B < w.heap.size := h.sub B h.inB
  have hFg : ∀ k, F k → k < w.heap.size := h.sub
  have hFB : F B := h.inB
  clear h
  generalize hg : w.heap.size = g at *
  have cr := hM.reg b.toNat (by omega)
  have ca := hM.reg a.toNat (by omega)
  have c1 : w1.cell? ⟨g, 1, none⟩ = some (.int .i64 0) := hI.cell 1 _ rfl
  have c2 : w1.cell? ⟨g, 2, none⟩ = some (.int .i64 a) := hI.cell 2 _ rfl
  have c3 : w1.cell? ⟨g, 3, none⟩ = some (.int .i64 b) := hI.cell 3 _ rfl
  have c5 : w1.cell? ⟨g, 5, none⟩ = some (.int .i64 i) := hI.cell 5 _ rfl
  replace hI := Lib.hid hI
  replace hZ := Lib.hid hZ
  replace hK := Lib.hid hK
  replace hM := Lib.hid hM
  refine WS.start 21 (by kernel_rfl) (by kernel_rfl) ?_
  intro w2 hw2
  have q1 : w2.cell? ⟨B, 4099 + b.toNat, none⟩ = some (.int .u32 (x.s.r b.toNat)) := by rw [hw2]; exact cr
  have q2 : w2.cell? ⟨B, 4099 + a.toNat, none⟩ = some (.int .u32 (x.s.r a.toNat)) := by rw [hw2]; exact ca
  have q3 : w2.cell? ⟨g, 2, none⟩ = some (.int .i64 a) := by rw [hw2]; exact c2
  have q4 : w2.cell? ⟨g, 3, none⟩ = some (.int .i64 b) := by rw [hw2]; exact c3
  have q5 : w2.cell? ⟨g, 5, none⟩ = some (.int .i64 i) := by rw [hw2]; exact c5
  have q6 : w2.cell? ⟨g, 1, none⟩ = some (.int .i64 0) := by rw [hw2]; exact c1
  have hI2 := Lib.hid (show Has g #[.int .i64 k, .int .i64 0, .int .i64 a, .int .i64 b, .int .i64 c, .int .i64 i, .bool u] 23 w2 by rw [hw2]; exact hI.out)
  have hZ2 := Lib.hid (show HasN (g + 1) 21 27 w2 by rw [hw2]; exact hZ.out)
  have hK2 := Lib.hid (show Kept w w2 by rw [hw2]; exact hK.out.drew)
  have hM2 := Lib.hid (show MacAt F B x ai ni ci ao no co w2 by rw [hw2]; exact hM.out.kept (Kept.refl w1).drew)
  clear hw2 cr ca c1 c2 c3 c5 hI hZ hK hM
  generalize x.s.r b.toNat = vb at *
  generalize x.s.r a.toNat = va at *
  have hyw : IntKind.u32.wrap (vb + IntKind.u32.wrap i) = y := by rw [IntKind.wrap_u32, IntKind.wrap_u32]; exact hy
  simp only [List.take_succ_cons, List.take_zero, List.drop_succ_cons, List.drop_zero]
  iterate 21 (refine WS.step rfl (fun K hK => ?_); go_simp; refine hK _ ?_; clear hK K)
  refine WS.nil ?_
  try simp only [hyw]
  go_wp2_with (fail)
  refine (L _ hM2.out).mono ?_; rintro e w3 ⟨rfl, hB3, ai', ni', ci', hM3⟩
  have hS0 := Lib.hid (show X.Mv B x.s g #[.int .i64 k, .int .i64 0, .int .i64 a, .int .i64 b, .int .i64 c, .int .i64 i, .bool u] w3.drew from X.Mv.kept ⟨hBg, hM3.regs, (by obtain ⟨cs, hs, hz⟩ := hZ2.out; exact ⟨cs, hs, hB3.has (by omega) hz⟩), hB3.has (by omega) hI2.out⟩ (Kept.refl w3).drew)
  have hB4 := Lib.hid (show But B w w3 from (hK2.out.but B).trans hB3)
  replace hM3 := Lib.hid hM3
  clear hB3 hI2 hZ2 hK2 hM2 q1 q2 q3 q4 q5 q6 L
  go_upto_region 5 with (fail)
  refine wp_region_held_drew (S := fun wz => X.Mv B x.s g #[.int .i64 k, .int .i64 0, .int .i64 a, .int .i64 b, .int .i64 c, .int .i64 i, .bool u] wz) (by kernel_rfl) ?_ (fun hHeld => ?_)
  · exact hS0.out
  refine wpAnyH_take (i := 0) (oi := { dst := some 44, op := Op.move (Operand.tmp 0), type := 36, pos := "machine.go:119", after := #[], guard := none }) (v := ?_) rfl (by kernel_rfl) (by kernel_rfl) (by kernel_rfl) (fun _ _ _ h => h) (Or.inl ⟨rfl, ?_⟩) hHeld ?_
  rotate_left
  · (intro wz hSw; (try dsimp only at hSw); have q1 : World.cell? wz ⟨g, 2, none⟩ = some (.int .i64 a) := hSw.ins.cell 2 _ rfl; go_simp; try with_reducible rfl)
  try simp only [Act.put, List.setIfInBounds_toArray, List.set_cons_zero, List.set_cons_succ]
  refine wpAnyH_take (i := 1) (oi := { dst := some 45, op := Op.nilCheck (Operand.tmp 44), type := 0, pos := "machine.go:119", after := #[eD 0], guard := none }) (v := ?_) rfl (by kernel_rfl) (by kernel_rfl) (by kernel_rfl) (fun _ _ _ h => h) (Or.inl ⟨rfl, ?_⟩) hHeld ?_
  rotate_left
  · (intro wz hSw; (try dsimp only at hSw); have q1 : World.cell? wz ⟨g, 2, none⟩ = some (.int .i64 a) := hSw.ins.cell 2 _ rfl; go_simp; try with_reducible rfl)
  try simp only [Act.put, List.setIfInBounds_toArray, List.set_cons_zero, List.set_cons_succ]
  refine wpAnyH_take (i := 2) (oi := { dst := some 46, op := Op.fieldAddr 70 (Operand.tmp 45) 1, type := 0, pos := "machine.go:119", after := #[eD 1], guard := none }) (v := ?_) rfl (by kernel_rfl) (by kernel_rfl) (by kernel_rfl) (fun _ _ _ h => h) (Or.inl ⟨rfl, ?_⟩) hHeld ?_
  rotate_left
  · (intro wz hSw; (try dsimp only at hSw); have q1 : World.cell? wz ⟨g, 2, none⟩ = some (.int .i64 a) := hSw.ins.cell 2 _ rfl; go_simp; try with_reducible rfl)
  try simp only [Act.put, List.setIfInBounds_toArray, List.set_cons_zero, List.set_cons_succ]
  refine wpAnyH_take (i := 3) (oi := { dst := some 47, op := Op.load 27 (Operand.tmp 46), type := 27, pos := "machine.go:119", after := #[eD 2], guard := none }) (v := ?_) rfl (by kernel_rfl) (by kernel_rfl) (by kernel_rfl) (fun _ _ _ h => h) (Or.inl ⟨rfl, ?_⟩) hHeld ?_
  rotate_left
  · (intro wz hSw; refine exec_load_mid 27 (Operand.tmp 46) ?_ B 4099 ?_ (A.cells x.s) hSw.regs Try.underlying27 rfl (A.info25 _) <;> rfl)
  try simp only [Act.put, List.setIfInBounds_toArray, List.set_cons_zero, List.set_cons_succ]
  refine wpAnyH_take (i := 4) (oi := { dst := some 48, op := Op.fieldAddr 23 (Operand.tmp 3) 2, type := 0, pos := "machine.go:119", after := #[], guard := none }) (v := ?_) rfl (by kernel_rfl) (by kernel_rfl) (by kernel_rfl) (fun _ _ _ h => h) (Or.inl ⟨rfl, ?_⟩) hHeld ?_
  rotate_left
  · (intro wz hSw; (try dsimp only at hSw); have q1 : World.cell? wz ⟨g, 2, none⟩ = some (.int .i64 a) := hSw.ins.cell 2 _ rfl; go_simp; try with_reducible rfl)
  try simp only [Act.put, List.setIfInBounds_toArray, List.set_cons_zero, List.set_cons_succ]
  refine wpAnyH_take (i := 5) (oi := { dst := some 49, op := Op.load 3 (Operand.tmp 48), type := 3, pos := "machine.go:119", after := #[eD 4], guard := none }) (v := ?_) rfl (by kernel_rfl) (by kernel_rfl) (by kernel_rfl) (fun _ _ _ h => h) (Or.inl ⟨rfl, ?_⟩) hHeld ?_
  rotate_left
  · (intro wz hSw; (try dsimp only at hSw); have q1 : World.cell? wz ⟨g, 2, none⟩ = some (.int .i64 a) := hSw.ins.cell 2 _ rfl; go_simp; try with_reducible rfl)
  try simp only [Act.put, List.setIfInBounds_toArray, List.set_cons_zero, List.set_cons_succ]
  refine wpAnyH_take (i := 6) (oi := { dst := some 50, op := Op.move (Operand.tmp 8), type := 24, pos := "machine.go:119", after := #[], guard := none }) (v := ?_) rfl (by kernel_rfl) (by kernel_rfl) (by kernel_rfl) (fun _ _ _ h => h) (Or.inl ⟨rfl, ?_⟩) hHeld ?_
  rotate_left
  · (intro wz hSw; (try dsimp only at hSw); have q1 : World.cell? wz ⟨g, 2, none⟩ = some (.int .i64 a) := hSw.ins.cell 2 _ rfl; go_simp; try with_reducible rfl)
  try simp only [Act.put, List.setIfInBounds_toArray, List.set_cons_zero, List.set_cons_succ]
  refine wpAnyH_take (i := 8) (oi := { dst := some 52, op := Op.move (Operand.tmp 9), type := 3, pos := "machine.go:119", after := #[eL 9], guard := none }) (v := ?_) rfl (by kernel_rfl) (by kernel_rfl) (by kernel_rfl) (fun _ _ _ h => h) (Or.inl ⟨rfl, ?_⟩) hHeld ?_
  rotate_left
  · (intro wz hSw; (try dsimp only at hSw); have q1 : World.cell? wz ⟨g, 2, none⟩ = some (.int .i64 a) := hSw.ins.cell 2 _ rfl; go_simp; try with_reducible rfl)
  try simp only [Act.put, List.setIfInBounds_toArray, List.set_cons_zero, List.set_cons_succ]
  refine wpAnyH_ready (rs := [7]) (by kernel_rfl) (by simp) ?_
  refine AllReadyH.cons (o := { dst := some 51, op := Op.call { callee := Callee.value (Operand.func 64), args := #[Operand.tmp 47, Operand.tmp 49, Operand.tmp 50], argTypes := #[27, 3, 24] }, type := 27, pos := "machine.go:119", after := #[eD 3, eD 5, eD 6], guard := none }) rfl (fun K hK => ?_) (AllReadyH.nil)
  go_simp
  go_at_call 64
  refine (loaded_any _ _ _ a0 a1 v0 v1 _).mono ?_
  rintro e wd ⟨rfl, hKd⟩
  have hN := (show (fun wz => X.Mv B x.s g #[.int .i64 k, .int .i64 0, .int .i64 a, .int .i64 b, .int .i64 c, .int .i64 i, .bool u] wz) _ from hHeld.kept hKd)
  clear hHeld
  refine hK.out _ _ hN (fun hHeld => ?_)
  clear hK K hN
  try simp only [Act.put, List.setIfInBounds_toArray, List.set_cons_zero, List.set_cons_succ]
  refine wpAnyH_ready (rs := [9]) (by kernel_rfl) (by simp) ?_
  refine AllReadyH.cons (o := { dst := none, op := Op.store 27 (Operand.tmp 4) (Operand.tmp 51), type := 0, pos := "machine.go:119", after := #[eD 7, eC 7, eP 0, eP 1, eP 2, eP 3, eP 4, eP 5, eP 6, eP 7, eT 8], guard := none }) rfl (fun K hK => ?_) (AllReadyH.nil)
  obtain ⟨old, hold, hR⟩ := hHeld.zero
  refine wp_store_row (o := { dst := none, op := Op.store 27 (Operand.tmp 4) (Operand.tmp 51), type := 0, pos := "machine.go:119", after := #[eD 7, eC 7, eP 0, eP 1, eP 2, eP 3, eP 4, eP 5, eP 6, eP 7, eT 8], guard := none }) 27 _ _ rfl _ (A.cells (A.show' (A.set x.s a.toNat v) v)) ?_ ?_ 27 old hR (A.info25 _) hold (A.one_cells _) ?_
  · rfl
  · rfl
  have hN := (show (fun wz => X.Mv B x.s g #[.int .i64 k, .int .i64 0, .int .i64 a, .int .i64 b, .int .i64 c, .int .i64 i, .bool u] wz) _ from hHeld.row (A.cells (A.show' (A.set x.s a.toNat v) v)) (A.size_cells _))
  clear hHeld
  refine hK.out _ _ hN (fun hHeld => ?_)
  clear hK K hN
  try simp only [Act.put, List.setIfInBounds_toArray, List.set_cons_zero, List.set_cons_succ]
  refine wpAnyH_take (i := 10) (oi := { dst := some 5, op := Op.assign (Operand.tmp 52), type := 3, pos := "machine.go:119", after := #[eD 8, eC 9, eP 0, eP 1, eP 2, eP 3, eP 4, eP 5, eP 6, eP 7, eP 8, eP 9], guard := none }) (v := ?_) rfl (by kernel_rfl) (by kernel_rfl) (by kernel_rfl) (fun _ _ _ h => h) (Or.inl ⟨rfl, ?_⟩) hHeld ?_
  rotate_left
  · (intro wz hSw; (try dsimp only at hSw); have q1 : World.cell? wz ⟨g, 2, none⟩ = some (.int .i64 a) := hSw.ins.cell 2 _ rfl; go_simp; try with_reducible rfl)
  try simp only [Act.put, List.setIfInBounds_toArray, List.set_cons_zero, List.set_cons_succ]
  refine wpAnyH_done (by kernel_rfl) ?_ _
  have hKe := (Kept.refl w3).drew.trans hKd
  go_wp2
  exact bodyPost_ret (results_has2 rfl (g + 1) rfl (Has.row hR _) Try.underlying27 rfl (A.info25 _)) rfl ⟨rfl, (hB4.out.trans (hKe.but B)).rowNew (by omega) _, ai', ni', ci', (hM3.out.kept hKe).row (fun j hj => by have := hFg j hj; omega) _⟩
theorem move_1 {F : Nat → Prop} {B : Nat} {x : X.St} {ai : Option Addr} {ni ci : Nat} {ao : Option Addr} {no co : Nat} {w : World} (h : MacAt F B x ai ni ci ao no co w) (k a b c i y v t : Int) (u : Bool) (a0 : 0 ≤ a) (a1 : a < 16) (b0 : 0 ≤ b) (b1 : b < 16)
    (y0 : 0 ≤ y) (y1 : y < 4294967296) (hy : (x.s.r b.toNat + i % 4294967296) % 4294967296 = y) (v0 : 0 ≤ v) (v1 : v < 256)
    (L : ∀ w, MacAt F B x ai ni ci ao no co w → Calls Try.prog 65 #[.pointer (some ⟨B, 0, none⟩), .int .u32 y] w fun e w' => e = .returned (.tuple #[.int .u8 v, .int .i64 t]) ∧ Kept w w') :
    Calls Try.prog 49 #[.pointer (some ⟨B, 0, none⟩), .agg #[.int .i64 k, .int .i64 1, .int .i64 a, .int .i64 b, .int .i64 c, .int .i64 i, .bool u]] w fun e w' => e = .returned (.tuple #[.agg (A.cells (A.show' (A.set x.s a.toNat v) v)), .int .i64 t]) ∧ Kept w w' := by
  have rb := h.ok.1 b.toNat (by omega)
  have ra := h.ok.1 a.toNat (by omega)
  go_enter Try.func49, Try.ntmps49
  go_upto_region 1 with (fail)
  generalize hw1 : (w.alloc (Obj.cells _ _)).alloc (Obj.cells _ _) = w1
  have hI : Has w.heap.size #[.int .i64 k, .int .i64 1, .int .i64 a, .int .i64 b, .int .i64 c, .int .i64 i, .bool u] 23 w1 := by rw [← hw1]; exact (Has.new _ _ _).alloc _
  have hZ : HasN (w.heap.size + 1) 21 27 w1 := by rw [← hw1]; exact ⟨_, rfl, Has.new1 _ _ _ _⟩
  have hK : Kept w w1 := by rw [← hw1]; exact ((Kept.refl w).alloc _ _).alloc _ _
  clear hw1
  have hM := h.kept hK
  have hBg : B < w.heap.size := h.sub B h.inB
  have hFg : ∀ k, F k → k < w.heap.size := h.sub
  have hFB : F B := h.inB
  clear h
  generalize hg : w.heap.size = g at *
  have cr := hM.reg b.toNat (by omega)
  have ca := hM.reg a.toNat (by omega)
  have c1 : w1.cell? ⟨g, 1, none⟩ = some (.int .i64 1) := hI.cell 1 _ rfl
  have c2 : w1.cell? ⟨g, 2, none⟩ = some (.int .i64 a) := hI.cell 2 _ rfl
  have c3 : w1.cell? ⟨g, 3, none⟩ = some (.int .i64 b) := hI.cell 3 _ rfl
  have c5 : w1.cell? ⟨g, 5, none⟩ = some (.int .i64 i) := hI.cell 5 _ rfl
  replace hI := Lib.hid hI
  replace hZ := Lib.hid hZ
  replace hK := Lib.hid hK
  replace hM := Lib.hid hM
  refine WS.start 21 (by kernel_rfl) (by kernel_rfl) ?_
  intro w2 hw2
  have q1 : w2.cell? ⟨B, 4099 + b.toNat, none⟩ = some (.int .u32 (x.s.r b.toNat)) := by rw [hw2]; exact cr
  have q2 : w2.cell? ⟨B, 4099 + a.toNat, none⟩ = some (.int .u32 (x.s.r a.toNat)) := by rw [hw2]; exact ca
  have q3 : w2.cell? ⟨g, 2, none⟩ = some (.int .i64 a) := by rw [hw2]; exact c2
  have q4 : w2.cell? ⟨g, 3, none⟩ = some (.int .i64 b) := by rw [hw2]; exact c3
  have q5 : w2.cell? ⟨g, 5, none⟩ = some (.int .i64 i) := by rw [hw2]; exact c5
  have q6 : w2.cell? ⟨g, 1, none⟩ = some (.int .i64 1) := by rw [hw2]; exact c1
  have hI2 := Lib.hid (show Has g #[.int .i64 k, .int .i64 1, .int .i64 a, .int .i64 b, .int .i64 c, .int .i64 i, .bool u] 23 w2 by rw [hw2]; exact hI.out)
  have hZ2 := Lib.hid (show HasN (g + 1) 21 27 w2 by rw [hw2]; exact hZ.out)
  have hK2 := Lib.hid (show Kept w w2 by rw [hw2]; exact hK.out.drew)
  have hM2 := Lib.hid (show MacAt F B x ai ni ci ao no co w2 by rw [hw2]; exact hM.out.kept (Kept.refl w1).drew)
  clear hw2 cr ca c1 c2 c3 c5 hI hZ hK hM
  generalize x.s.r b.toNat = vb at *
  generalize x.s.r a.toNat = va at *
  have hyw : IntKind.u32.wrap (vb + IntKind.u32.wrap i) = y := by rw [IntKind.wrap_u32, IntKind.wrap_u32]; exact hy
  simp only [List.take_succ_cons, List.take_zero, List.drop_succ_cons, List.drop_zero]
  iterate 21 (refine WS.step rfl (fun K hK => ?_); go_simp; refine hK _ ?_; clear hK K)
  refine WS.nil ?_
  try simp only [hyw]
  go_wp2_with (fail)
  refine (L _ hM2.out).mono ?_; rintro e w3 ⟨rfl, hK3⟩
  have hS0 := Lib.hid (show X.Mv B x.s g #[.int .i64 k, .int .i64 1, .int .i64 a, .int .i64 b, .int .i64 c, .int .i64 i, .bool u] w3.drew from X.Mv.kept ⟨hBg, hM2.out.regs, hZ2.out, hI2.out⟩ (hK3.drew))
  have hB4 := Lib.hid (show Kept w w3 from hK2.out.trans hK3)
  have hv : IntKind.u32.wrap v = v := by rw [IntKind.wrap_u32]; omega
  have v1' : v < 4294967296 := by omega
  clear hK3 hI2 hZ2 hK2 hM2 q1 q2 q3 q4 q5 q6 L
  go_upto_region 8 with (fail)
  refine wp_region_held_drew (S := fun wz => X.Mv B x.s g #[.int .i64 k, .int .i64 1, .int .i64 a, .int .i64 b, .int .i64 c, .int .i64 i, .bool u] wz) (by kernel_rfl) ?_ (fun hHeld => ?_)
  · exact hS0.out
  refine wpAnyH_take (i := 0) (oi := { dst := some 64, op := Op.move (Operand.tmp 0), type := 36, pos := "machine.go:122", after := #[], guard := none }) (v := ?_) rfl (by kernel_rfl) (by kernel_rfl) (by kernel_rfl) (fun _ _ _ h => h) (Or.inl ⟨rfl, ?_⟩) hHeld ?_
  rotate_left
  · (intro wz hSw; (try dsimp only at hSw); have q1 : World.cell? wz ⟨g, 2, none⟩ = some (.int .i64 a) := hSw.ins.cell 2 _ rfl; go_simp; try with_reducible rfl)
  try simp only [Act.put, List.setIfInBounds_toArray, List.set_cons_zero, List.set_cons_succ]
  refine wpAnyH_take (i := 1) (oi := { dst := some 65, op := Op.nilCheck (Operand.tmp 64), type := 0, pos := "machine.go:122", after := #[eD 0], guard := none }) (v := ?_) rfl (by kernel_rfl) (by kernel_rfl) (by kernel_rfl) (fun _ _ _ h => h) (Or.inl ⟨rfl, ?_⟩) hHeld ?_
  rotate_left
  · (intro wz hSw; (try dsimp only at hSw); have q1 : World.cell? wz ⟨g, 2, none⟩ = some (.int .i64 a) := hSw.ins.cell 2 _ rfl; go_simp; try with_reducible rfl)
  try simp only [Act.put, List.setIfInBounds_toArray, List.set_cons_zero, List.set_cons_succ]
  refine wpAnyH_take (i := 2) (oi := { dst := some 66, op := Op.fieldAddr 70 (Operand.tmp 65) 1, type := 0, pos := "machine.go:122", after := #[eD 1], guard := none }) (v := ?_) rfl (by kernel_rfl) (by kernel_rfl) (by kernel_rfl) (fun _ _ _ h => h) (Or.inl ⟨rfl, ?_⟩) hHeld ?_
  rotate_left
  · (intro wz hSw; (try dsimp only at hSw); have q1 : World.cell? wz ⟨g, 2, none⟩ = some (.int .i64 a) := hSw.ins.cell 2 _ rfl; go_simp; try with_reducible rfl)
  try simp only [Act.put, List.setIfInBounds_toArray, List.set_cons_zero, List.set_cons_succ]
  refine wpAnyH_take (i := 3) (oi := { dst := some 67, op := Op.load 27 (Operand.tmp 66), type := 27, pos := "machine.go:122", after := #[eD 2], guard := none }) (v := ?_) rfl (by kernel_rfl) (by kernel_rfl) (by kernel_rfl) (fun _ _ _ h => h) (Or.inl ⟨rfl, ?_⟩) hHeld ?_
  rotate_left
  · (intro wz hSw; refine exec_load_mid 27 (Operand.tmp 66) ?_ B 4099 ?_ (A.cells x.s) hSw.regs Try.underlying27 rfl (A.info25 _) <;> rfl)
  try simp only [Act.put, List.setIfInBounds_toArray, List.set_cons_zero, List.set_cons_succ]
  refine wpAnyH_take (i := 4) (oi := { dst := some 68, op := Op.fieldAddr 23 (Operand.tmp 3) 2, type := 0, pos := "machine.go:122", after := #[], guard := none }) (v := ?_) rfl (by kernel_rfl) (by kernel_rfl) (by kernel_rfl) (fun _ _ _ h => h) (Or.inl ⟨rfl, ?_⟩) hHeld ?_
  rotate_left
  · (intro wz hSw; (try dsimp only at hSw); have q1 : World.cell? wz ⟨g, 2, none⟩ = some (.int .i64 a) := hSw.ins.cell 2 _ rfl; go_simp; try with_reducible rfl)
  try simp only [Act.put, List.setIfInBounds_toArray, List.set_cons_zero, List.set_cons_succ]
  refine wpAnyH_take (i := 5) (oi := { dst := some 69, op := Op.load 3 (Operand.tmp 68), type := 3, pos := "machine.go:122", after := #[eD 4], guard := none }) (v := ?_) rfl (by kernel_rfl) (by kernel_rfl) (by kernel_rfl) (fun _ _ _ h => h) (Or.inl ⟨rfl, ?_⟩) hHeld ?_
  rotate_left
  · (intro wz hSw; (try dsimp only at hSw); have q1 : World.cell? wz ⟨g, 2, none⟩ = some (.int .i64 a) := hSw.ins.cell 2 _ rfl; go_simp; try with_reducible rfl)
  try simp only [Act.put, List.setIfInBounds_toArray, List.set_cons_zero, List.set_cons_succ]
  refine wpAnyH_take (i := 6) (oi := { dst := some 70, op := Op.move (Operand.tmp 10), type := 5, pos := "machine.go:122", after := #[], guard := none }) (v := ?_) rfl (by kernel_rfl) (by kernel_rfl) (by kernel_rfl) (fun _ _ _ h => h) (Or.inl ⟨rfl, ?_⟩) hHeld ?_
  rotate_left
  · (intro wz hSw; (try dsimp only at hSw); have q1 : World.cell? wz ⟨g, 2, none⟩ = some (.int .i64 a) := hSw.ins.cell 2 _ rfl; go_simp; try with_reducible rfl)
  try simp only [Act.put, List.setIfInBounds_toArray, List.set_cons_zero, List.set_cons_succ]
  refine wpAnyH_take (i := 7) (oi := { dst := some 71, op := Op.convert 5 24 (Operand.tmp 70), type := 24, pos := "machine.go:122", after := #[eD 6], guard := none }) (v := ?_) rfl (by kernel_rfl) (by kernel_rfl) (by kernel_rfl) (fun _ _ _ h => h) (Or.inl ⟨rfl, ?_⟩) hHeld ?_
  rotate_left
  · (intro wz hSw; (try dsimp only at hSw); have q1 : World.cell? wz ⟨g, 2, none⟩ = some (.int .i64 a) := hSw.ins.cell 2 _ rfl; go_simp; try with_reducible rfl)
  try simp only [Act.put, List.setIfInBounds_toArray, List.set_cons_zero, List.set_cons_succ]
  refine wpAnyH_take (i := 9) (oi := { dst := some 73, op := Op.move (Operand.tmp 11), type := 3, pos := "machine.go:122", after := #[eL 10], guard := none }) (v := ?_) rfl (by kernel_rfl) (by kernel_rfl) (by kernel_rfl) (fun _ _ _ h => h) (Or.inl ⟨rfl, ?_⟩) hHeld ?_
  rotate_left
  · (intro wz hSw; (try dsimp only at hSw); have q1 : World.cell? wz ⟨g, 2, none⟩ = some (.int .i64 a) := hSw.ins.cell 2 _ rfl; go_simp; try with_reducible rfl)
  try simp only [Act.put, List.setIfInBounds_toArray, List.set_cons_zero, List.set_cons_succ]
  refine wpAnyH_ready (rs := [8]) (by kernel_rfl) (by simp) ?_
  refine AllReadyH.cons (o := { dst := some 72, op := Op.call { callee := Callee.value (Operand.func 64), args := #[Operand.tmp 67, Operand.tmp 69, Operand.tmp 71], argTypes := #[27, 3, 24] }, type := 27, pos := "machine.go:122", after := #[eD 3, eD 5, eD 7], guard := none }) rfl (fun K hK => ?_) (AllReadyH.nil)
  go_simp
  go_at_call 64
  refine (loaded_any _ _ _ a0 a1 v0 v1' _).mono ?_
  rintro e wd ⟨rfl, hKd⟩
  have hN := (show (fun wz => X.Mv B x.s g #[.int .i64 k, .int .i64 1, .int .i64 a, .int .i64 b, .int .i64 c, .int .i64 i, .bool u] wz) _ from hHeld.kept hKd)
  clear hHeld
  refine hK.out _ _ hN (fun hHeld => ?_)
  clear hK K hN
  try simp only [Act.put, List.setIfInBounds_toArray, List.set_cons_zero, List.set_cons_succ]
  refine wpAnyH_ready (rs := [10]) (by kernel_rfl) (by simp) ?_
  refine AllReadyH.cons (o := { dst := none, op := Op.store 27 (Operand.tmp 4) (Operand.tmp 72), type := 0, pos := "machine.go:122", after := #[eD 8, eC 8, eP 0, eP 1, eP 2, eP 3, eP 4, eP 5, eP 6, eP 7, eP 8, eT 9], guard := none }) rfl (fun K hK => ?_) (AllReadyH.nil)
  obtain ⟨old, hold, hR⟩ := hHeld.zero
  refine wp_store_row (o := { dst := none, op := Op.store 27 (Operand.tmp 4) (Operand.tmp 72), type := 0, pos := "machine.go:122", after := #[eD 8, eC 8, eP 0, eP 1, eP 2, eP 3, eP 4, eP 5, eP 6, eP 7, eP 8, eT 9], guard := none }) 27 _ _ rfl _ (A.cells (A.show' (A.set x.s a.toNat v) v)) ?_ ?_ 27 old hR (A.info25 _) hold (A.one_cells _) ?_
  · rfl
  · rfl
  have hN := (show (fun wz => X.Mv B x.s g #[.int .i64 k, .int .i64 1, .int .i64 a, .int .i64 b, .int .i64 c, .int .i64 i, .bool u] wz) _ from hHeld.row (A.cells (A.show' (A.set x.s a.toNat v) v)) (A.size_cells _))
  clear hHeld
  refine hK.out _ _ hN (fun hHeld => ?_)
  clear hK K hN
  try simp only [Act.put, List.setIfInBounds_toArray, List.set_cons_zero, List.set_cons_succ]
  refine wpAnyH_take (i := 11) (oi := { dst := some 5, op := Op.assign (Operand.tmp 73), type := 3, pos := "machine.go:122", after := #[eD 9, eC 10, eP 0, eP 1, eP 2, eP 3, eP 4, eP 5, eP 6, eP 7, eP 8, eP 9, eP 10], guard := none }) (v := ?_) rfl (by kernel_rfl) (by kernel_rfl) (by kernel_rfl) (fun _ _ _ h => h) (Or.inl ⟨rfl, ?_⟩) hHeld ?_
  rotate_left
  · (intro wz hSw; (try dsimp only at hSw); have q1 : World.cell? wz ⟨g, 2, none⟩ = some (.int .i64 a) := hSw.ins.cell 2 _ rfl; go_simp; try with_reducible rfl)
  try simp only [Act.put, List.setIfInBounds_toArray, List.set_cons_zero, List.set_cons_succ]
  refine wpAnyH_done (by kernel_rfl) ?_ _
  have hKe := (Kept.refl w3).drew.trans hKd
  go_wp2
  exact bodyPost_ret (results_has2 rfl (g + 1) rfl (Has.row hR _) Try.underlying27 rfl (A.info25 _)) rfl ⟨rfl, (hB4.out.trans hKe).row (by omega) _⟩
theorem move_2 {F : Nat → Prop} {B : Nat} {x : X.St} {ai : Option Addr} {ni ci : Nat} {ao : Option Addr} {no co : Nat} {w : World} (h : MacAt F B x ai ni ci ao no co w) (k a b c i y t z : Int) (u : Bool) (a0 : 0 ≤ a) (a1 : a < 16) (b0 : 0 ≤ b) (b1 : b < 16)
    (y0 : 0 ≤ y) (y1 : y < 4294967296) (hy : (x.s.r b.toNat + i % 4294967296) % 4294967296 = y) (hz : x.s.r a.toNat = z) (W' O' : List Int)
    (L : ∀ w, MacAt F B x ai ni ci ao no co w → Calls Try.prog 66 #[.pointer (some ⟨B, 0, none⟩), .int .u32 y, .int .u32 z] w fun e w' => e = .returned (.int .i64 t) ∧ ∃ F' ao' no' co', MacAt F' B ⟨W', x.s, x.pc, x.st, x.ins, O'⟩ ai ni ci ao' no' co' w' ∧ Turn F w w' ∧ ∀ k, F' k → F k ∨ w.heap.size ≤ k) :
    Calls Try.prog 49 #[.pointer (some ⟨B, 0, none⟩), .agg #[.int .i64 k, .int .i64 2, .int .i64 a, .int .i64 b, .int .i64 c, .int .i64 i, .bool u]] w fun e w' => e = .returned (.tuple #[.agg (A.cells x.s), .int .i64 t]) ∧ ∃ F' ao' no' co', MacAt F' B ⟨W', x.s, x.pc, x.st, x.ins, O'⟩ ai ni ci ao' no' co' w' ∧ Turn F w w' ∧ ∀ k, F' k → F k ∨ w.heap.size ≤ k := by
  have rb := h.ok.1 b.toNat (by omega)
  have ra := h.ok.1 a.toNat (by omega)
  go_enter Try.func49, Try.ntmps49
  go_upto_region 1 with (fail)
  generalize hw1 : (w.alloc (Obj.cells _ _)).alloc (Obj.cells _ _) = w1
  have hI : Has w.heap.size #[.int .i64 k, .int .i64 2, .int .i64 a, .int .i64 b, .int .i64 c, .int .i64 i, .bool u] 23 w1 := by rw [← hw1]; exact (Has.new _ _ _).alloc _
  have hZ : HasN (w.heap.size + 1) 21 27 w1 := by rw [← hw1]; exact ⟨_, rfl, Has.new1 _ _ _ _⟩
  have hK : Kept w w1 := by rw [← hw1]; exact ((Kept.refl w).alloc _ _).alloc _ _
  clear hw1
  have hM := h.kept hK
  have hBg : B < w.heap.size := h.sub B h.inB
  have hFg : ∀ k, F k → k < w.heap.size := h.sub
  have hFB : F B := h.inB
  clear h
  generalize hg : w.heap.size = g at *
  have cr := hM.reg b.toNat (by omega)
  have ca := hM.reg a.toNat (by omega)
  have c1 : w1.cell? ⟨g, 1, none⟩ = some (.int .i64 2) := hI.cell 1 _ rfl
  have c2 : w1.cell? ⟨g, 2, none⟩ = some (.int .i64 a) := hI.cell 2 _ rfl
  have c3 : w1.cell? ⟨g, 3, none⟩ = some (.int .i64 b) := hI.cell 3 _ rfl
  have c5 : w1.cell? ⟨g, 5, none⟩ = some (.int .i64 i) := hI.cell 5 _ rfl
  replace hI := Lib.hid hI
  replace hZ := Lib.hid hZ
  replace hK := Lib.hid hK
  replace hM := Lib.hid hM
  refine WS.start 21 (by kernel_rfl) (by kernel_rfl) ?_
  intro w2 hw2
  have q1 : w2.cell? ⟨B, 4099 + b.toNat, none⟩ = some (.int .u32 (x.s.r b.toNat)) := by rw [hw2]; exact cr
  have q2 : w2.cell? ⟨B, 4099 + a.toNat, none⟩ = some (.int .u32 (x.s.r a.toNat)) := by rw [hw2]; exact ca
  have q3 : w2.cell? ⟨g, 2, none⟩ = some (.int .i64 a) := by rw [hw2]; exact c2
  have q4 : w2.cell? ⟨g, 3, none⟩ = some (.int .i64 b) := by rw [hw2]; exact c3
  have q5 : w2.cell? ⟨g, 5, none⟩ = some (.int .i64 i) := by rw [hw2]; exact c5
  have q6 : w2.cell? ⟨g, 1, none⟩ = some (.int .i64 2) := by rw [hw2]; exact c1
  have hI2 := Lib.hid (show Has g #[.int .i64 k, .int .i64 2, .int .i64 a, .int .i64 b, .int .i64 c, .int .i64 i, .bool u] 23 w2 by rw [hw2]; exact hI.out)
  have hZ2 := Lib.hid (show HasN (g + 1) 21 27 w2 by rw [hw2]; exact hZ.out)
  have hK2 := Lib.hid (show Kept w w2 by rw [hw2]; exact hK.out.drew)
  have hM2 := Lib.hid (show MacAt F B x ai ni ci ao no co w2 by rw [hw2]; exact hM.out.kept (Kept.refl w1).drew)
  clear hw2 cr ca c1 c2 c3 c5 hI hZ hK hM
  generalize x.s.r b.toNat = vb at *
  generalize x.s.r a.toNat = va at *
  have hyw : IntKind.u32.wrap (vb + IntKind.u32.wrap i) = y := by rw [IntKind.wrap_u32, IntKind.wrap_u32]; exact hy
  simp only [List.take_succ_cons, List.take_zero, List.drop_succ_cons, List.drop_zero]
  iterate 21 (refine WS.step rfl (fun K hK => ?_); go_simp; refine hK _ ?_; clear hK K)
  refine WS.nil ?_
  try simp only [hyw]
  have hS0 := Lib.hid (show X.Mv B x.s g #[.int .i64 k, .int .i64 2, .int .i64 a, .int .i64 b, .int .i64 c, .int .i64 i, .bool u] w2.drew from X.Mv.kept ⟨hBg, hM2.out.regs, hZ2.out, hI2.out⟩ (Kept.refl w2).drew)
  have hMd := Lib.hid (show MacAt F B x ai ni ci ao no co w2.drew from hM2.out.kept (Kept.refl w2).drew)
  have hKd := Lib.hid (show Kept w w2.drew from hK2.out.drew)
  have hlt : g + 1 < w2.drew.heap.size := hZ2.out.lt
  clear hI2 hZ2 hK2 hM2 q1 q2 q3 q4 q5
  go_upto_region 10 with (fail)
  refine wp_region_held_drew (S := fun wz => X.Mv B x.s g #[.int .i64 k, .int .i64 2, .int .i64 a, .int .i64 b, .int .i64 c, .int .i64 i, .bool u] wz) (by kernel_rfl) ?_ (fun hHeld => ?_)
  · exact hS0.out
  refine wpAnyH_take (i := 0) (oi := { dst := some 76, op := Op.move (Operand.tmp 0), type := 36, pos := "machine.go:124", after := #[], guard := none }) (v := ?_) rfl (by kernel_rfl) (by kernel_rfl) (by kernel_rfl) (fun _ _ _ h => h) (Or.inl ⟨rfl, ?_⟩) hHeld ?_
  rotate_left
  · (intro wz hSw; (try dsimp only at hSw); have q1 : World.cell? wz ⟨g, 2, none⟩ = some (.int .i64 a) := hSw.ins.cell 2 _ rfl; go_simp; try with_reducible rfl)
  try simp only [Act.put, List.setIfInBounds_toArray, List.set_cons_zero, List.set_cons_succ]
  refine wpAnyH_take (i := 1) (oi := { dst := some 77, op := Op.nilCheck (Operand.tmp 76), type := 0, pos := "machine.go:124", after := #[eD 0], guard := none }) (v := ?_) rfl (by kernel_rfl) (by kernel_rfl) (by kernel_rfl) (fun _ _ _ h => h) (Or.inl ⟨rfl, ?_⟩) hHeld ?_
  rotate_left
  · (intro wz hSw; (try dsimp only at hSw); have q1 : World.cell? wz ⟨g, 2, none⟩ = some (.int .i64 a) := hSw.ins.cell 2 _ rfl; go_simp; try with_reducible rfl)
  try simp only [Act.put, List.setIfInBounds_toArray, List.set_cons_zero, List.set_cons_succ]
  refine wpAnyH_take (i := 2) (oi := { dst := some 78, op := Op.fieldAddr 70 (Operand.tmp 77) 1, type := 0, pos := "machine.go:124", after := #[eD 1], guard := none }) (v := ?_) rfl (by kernel_rfl) (by kernel_rfl) (by kernel_rfl) (fun _ _ _ h => h) (Or.inl ⟨rfl, ?_⟩) hHeld ?_
  rotate_left
  · (intro wz hSw; (try dsimp only at hSw); have q1 : World.cell? wz ⟨g, 2, none⟩ = some (.int .i64 a) := hSw.ins.cell 2 _ rfl; go_simp; try with_reducible rfl)
  try simp only [Act.put, List.setIfInBounds_toArray, List.set_cons_zero, List.set_cons_succ]
  refine wpAnyH_take (i := 3) (oi := { dst := some 79, op := Op.load 27 (Operand.tmp 78), type := 27, pos := "machine.go:124", after := #[eD 2], guard := none }) (v := ?_) rfl (by kernel_rfl) (by kernel_rfl) (by kernel_rfl) (fun _ _ _ h => h) (Or.inl ⟨rfl, ?_⟩) hHeld ?_
  rotate_left
  · (intro wz hSw; refine exec_load_mid 27 (Operand.tmp 78) ?_ B 4099 ?_ (A.cells x.s) hSw.regs Try.underlying27 rfl (A.info25 _) <;> rfl)
  try simp only [Act.put, List.setIfInBounds_toArray, List.set_cons_zero, List.set_cons_succ]
  refine wpAnyH_take (i := 4) (oi := { dst := some 80, op := Op.move (Operand.tmp 0), type := 36, pos := "machine.go:124", after := #[], guard := none }) (v := ?_) rfl (by kernel_rfl) (by kernel_rfl) (by kernel_rfl) (fun _ _ _ h => h) (Or.inl ⟨rfl, ?_⟩) hHeld ?_
  rotate_left
  · (intro wz hSw; (try dsimp only at hSw); have q1 : World.cell? wz ⟨g, 2, none⟩ = some (.int .i64 a) := hSw.ins.cell 2 _ rfl; go_simp; try with_reducible rfl)
  try simp only [Act.put, List.setIfInBounds_toArray, List.set_cons_zero, List.set_cons_succ]
  refine wpAnyH_take (i := 5) (oi := { dst := some 81, op := Op.nilCheck (Operand.tmp 80), type := 0, pos := "machine.go:124", after := #[eD 4], guard := none }) (v := ?_) rfl (by kernel_rfl) (by kernel_rfl) (by kernel_rfl) (fun _ _ _ h => h) (Or.inl ⟨rfl, ?_⟩) hHeld ?_
  rotate_left
  · (intro wz hSw; (try dsimp only at hSw); have q1 : World.cell? wz ⟨g, 2, none⟩ = some (.int .i64 a) := hSw.ins.cell 2 _ rfl; go_simp; try with_reducible rfl)
  try simp only [Act.put, List.setIfInBounds_toArray, List.set_cons_zero, List.set_cons_succ]
  refine wpAnyH_take (i := 6) (oi := { dst := some 82, op := Op.fieldAddr 70 (Operand.tmp 81) 0, type := 0, pos := "machine.go:124", after := #[eD 5], guard := none }) (v := ?_) rfl (by kernel_rfl) (by kernel_rfl) (by kernel_rfl) (fun _ _ _ h => h) (Or.inl ⟨rfl, ?_⟩) hHeld ?_
  rotate_left
  · (intro wz hSw; (try dsimp only at hSw); have q1 : World.cell? wz ⟨g, 2, none⟩ = some (.int .i64 a) := hSw.ins.cell 2 _ rfl; go_simp; try with_reducible rfl)
  try simp only [Act.put, List.setIfInBounds_toArray, List.set_cons_zero, List.set_cons_succ]
  refine wpAnyH_take (i := 7) (oi := { dst := some 83, op := Op.move (Operand.tmp 6), type := 24, pos := "machine.go:124", after := #[], guard := none }) (v := ?_) rfl (by kernel_rfl) (by kernel_rfl) (by kernel_rfl) (fun _ _ _ h => h) (Or.inl ⟨rfl, ?_⟩) hHeld ?_
  rotate_left
  · (intro wz hSw; (try dsimp only at hSw); have q1 : World.cell? wz ⟨g, 2, none⟩ = some (.int .i64 a) := hSw.ins.cell 2 _ rfl; go_simp; try with_reducible rfl)
  try simp only [Act.put, List.setIfInBounds_toArray, List.set_cons_zero, List.set_cons_succ]
  refine wpAnyH_take (i := 8) (oi := { dst := some 84, op := Op.move (Operand.tmp 7), type := 24, pos := "machine.go:124", after := #[], guard := none }) (v := ?_) rfl (by kernel_rfl) (by kernel_rfl) (by kernel_rfl) (fun _ _ _ h => h) (Or.inl ⟨rfl, ?_⟩) hHeld ?_
  rotate_left
  · (intro wz hSw; (try dsimp only at hSw); have q1 : World.cell? wz ⟨g, 2, none⟩ = some (.int .i64 a) := hSw.ins.cell 2 _ rfl; go_simp; try with_reducible rfl)
  try simp only [Act.put, List.setIfInBounds_toArray, List.set_cons_zero, List.set_cons_succ]
  refine wpAnyH_ready (rs := [9]) (by kernel_rfl) (by simp) ?_
  refine AllReadyH.cons (o := { dst := some 85, op := Op.call { callee := Callee.value (Operand.func 66), args := #[Operand.tmp 82, Operand.tmp 83, Operand.tmp 84], argTypes := #[68, 24, 24] }, type := 3, pos := "machine.go:124", after := #[eD 6, eD 7, eD 8], guard := none }) rfl (fun K hK => ?_) (AllReadyH.nil)
  go_simp
  go_at_call 66
  refine (L _ hMd.out).mono ?_
  rintro e wd ⟨rfl, F2, ao2, no2, co2, p1, p2, p3⟩
  have hN := (show (fun wz => X.Mv B x.s g #[.int .i64 k, .int .i64 2, .int .i64 a, .int .i64 b, .int .i64 c, .int .i64 i, .bool u] wz) _ from hHeld.turn p2 hFg p1.regs)
  clear hHeld
  refine hK.out _ _ hN (fun hHeld => ?_)
  clear hK K hN
  try simp only [Act.put, List.setIfInBounds_toArray, List.set_cons_zero, List.set_cons_succ]
  refine wpAnyH_ready (rs := [10]) (by kernel_rfl) (by simp) ?_
  refine AllReadyH.cons (o := { dst := none, op := Op.store 27 (Operand.tmp 4) (Operand.tmp 79), type := 0, pos := "machine.go:124", after := #[eD 3, eC 9, eP 0, eP 1, eP 2, eP 3, eT 4, eT 5, eT 6, eT 7, eT 8, { on := 9, ground := Ground.textOnly Departure.lateStoresUnsure }], guard := none }) rfl (fun K hK => ?_) (AllReadyH.nil)
  obtain ⟨old, hold, hR⟩ := hHeld.zero
  refine wp_store_row (o := { dst := none, op := Op.store 27 (Operand.tmp 4) (Operand.tmp 79), type := 0, pos := "machine.go:124", after := #[eD 3, eC 9, eP 0, eP 1, eP 2, eP 3, eT 4, eT 5, eT 6, eT 7, eT 8, { on := 9, ground := Ground.textOnly Departure.lateStoresUnsure }], guard := none }) 27 _ _ rfl _ (A.cells x.s) ?_ ?_ 27 old hR (A.info25 _) hold (A.one_cells _) ?_
  · rfl
  · rfl
  have hN := (show (fun wz => X.Mv B x.s g #[.int .i64 k, .int .i64 2, .int .i64 a, .int .i64 b, .int .i64 c, .int .i64 i, .bool u] wz) _ from hHeld.row (A.cells x.s) (A.size_cells _))
  clear hHeld
  refine hK.out _ _ hN (fun hHeld => ?_)
  clear hK K hN
  try simp only [Act.put, List.setIfInBounds_toArray, List.set_cons_zero, List.set_cons_succ]
  refine wpAnyH_take (i := 11) (oi := { dst := some 5, op := Op.assign (Operand.tmp 85), type := 3, pos := "machine.go:124", after := #[eD 9, eC 10, eP 0, eP 1, eP 2, eP 3, eP 4, eP 5, eP 6, eP 7, eP 8, eP 9, eP 10], guard := none }) (v := ?_) rfl (by kernel_rfl) (by kernel_rfl) (by kernel_rfl) (fun _ _ _ h => h) (Or.inl ⟨rfl, ?_⟩) hHeld ?_
  rotate_left
  · (intro wz hSw; (try dsimp only at hSw); have q1 : World.cell? wz ⟨g, 2, none⟩ = some (.int .i64 a) := hSw.ins.cell 2 _ rfl; go_simp; try with_reducible rfl)
  try simp only [Act.put, List.setIfInBounds_toArray, List.set_cons_zero, List.set_cons_succ]
  refine wpAnyH_done (by kernel_rfl) ?_ _
  have hle : w.heap.size ≤ w2.drew.heap.size := hKd.out.size
  go_wp2
  exact bodyPost_ret (results_has2 rfl (g + 1) rfl (Has.row hR _) Try.underlying27 rfl (A.info25 _)) rfl ⟨rfl, F2, ao2, no2, co2, p1.row (fun j hj => by rcases p3 j hj with h1 | h1; have := hFg j h1; omega; omega) _, ⟨(hKd.out.turn F).trans p2 |>.os, (hKd.out.turn F).trans p2 |>.tape, (hKd.out.turn F).trans p2 |>.output, Nat.le_trans ((hKd.out.turn F).trans p2).size (by simp [World.setRow]), fun k hk hF => (setRow_other wd (g + 1) k _ (by omega)).trans (((hKd.out.turn F).trans p2).block k hk hF)⟩, fun k hk => by rcases p3 k hk with h1 | h1; exact Or.inl h1; exact Or.inr (by omega)⟩
theorem move_3 {F : Nat → Prop} {B : Nat} {x : X.St} {ai : Option Addr} {ni ci : Nat} {ao : Option Addr} {no co : Nat} {w : World} (h : MacAt F B x ai ni ci ao no co w) (k a b c i y t z : Int) (u : Bool) (a0 : 0 ≤ a) (a1 : a < 16) (b0 : 0 ≤ b) (b1 : b < 16)
    (y0 : 0 ≤ y) (y1 : y < 4294967296) (hy : (x.s.r b.toNat + i % 4294967296) % 4294967296 = y) (hz : x.s.r a.toNat % 256 = z) (W' : List Int)
    (L : ∀ w, MacAt F B x ai ni ci ao no co w → Calls Try.prog 67 #[.pointer (some ⟨B, 0, none⟩), .int .u32 y, .int .u8 z] w fun e w' => e = .returned (.int .i64 t) ∧ But B w w' ∧ MacAt F B ⟨W', x.s, x.pc, x.st, x.ins, x.outs⟩ ai ni ci ao no co w') :
    Calls Try.prog 49 #[.pointer (some ⟨B, 0, none⟩), .agg #[.int .i64 k, .int .i64 3, .int .i64 a, .int .i64 b, .int .i64 c, .int .i64 i, .bool u]] w fun e w' => e = .returned (.tuple #[.agg (A.cells x.s), .int .i64 t]) ∧ But B w w' ∧ MacAt F B ⟨W', x.s, x.pc, x.st, x.ins, x.outs⟩ ai ni ci ao no co w' := by
  have rb := h.ok.1 b.toNat (by omega)
  have ra := h.ok.1 a.toNat (by omega)
  go_enter Try.func49, Try.ntmps49
  go_upto_region 1 with (fail)
  generalize hw1 : (w.alloc (Obj.cells _ _)).alloc (Obj.cells _ _) = w1
  have hI : Has w.heap.size #[.int .i64 k, .int .i64 3, .int .i64 a, .int .i64 b, .int .i64 c, .int .i64 i, .bool u] 23 w1 := by rw [← hw1]; exact (Has.new _ _ _).alloc _
  have hZ : HasN (w.heap.size + 1) 21 27 w1 := by rw [← hw1]; exact ⟨_, rfl, Has.new1 _ _ _ _⟩
  have hK : Kept w w1 := by rw [← hw1]; exact ((Kept.refl w).alloc _ _).alloc _ _
  clear hw1
  have hM := h.kept hK
  have hBg : B < w.heap.size := h.sub B h.inB
  have hFg : ∀ k, F k → k < w.heap.size := h.sub
  have hFB : F B := h.inB
  clear h
  generalize hg : w.heap.size = g at *
  have cr := hM.reg b.toNat (by omega)
  have ca := hM.reg a.toNat (by omega)
  have c1 : w1.cell? ⟨g, 1, none⟩ = some (.int .i64 3) := hI.cell 1 _ rfl
  have c2 : w1.cell? ⟨g, 2, none⟩ = some (.int .i64 a) := hI.cell 2 _ rfl
  have c3 : w1.cell? ⟨g, 3, none⟩ = some (.int .i64 b) := hI.cell 3 _ rfl
  have c5 : w1.cell? ⟨g, 5, none⟩ = some (.int .i64 i) := hI.cell 5 _ rfl
  replace hI := Lib.hid hI
  replace hZ := Lib.hid hZ
  replace hK := Lib.hid hK
  replace hM := Lib.hid hM
  refine WS.start 21 (by kernel_rfl) (by kernel_rfl) ?_
  intro w2 hw2
  have q1 : w2.cell? ⟨B, 4099 + b.toNat, none⟩ = some (.int .u32 (x.s.r b.toNat)) := by rw [hw2]; exact cr
  have q2 : w2.cell? ⟨B, 4099 + a.toNat, none⟩ = some (.int .u32 (x.s.r a.toNat)) := by rw [hw2]; exact ca
  have q3 : w2.cell? ⟨g, 2, none⟩ = some (.int .i64 a) := by rw [hw2]; exact c2
  have q4 : w2.cell? ⟨g, 3, none⟩ = some (.int .i64 b) := by rw [hw2]; exact c3
  have q5 : w2.cell? ⟨g, 5, none⟩ = some (.int .i64 i) := by rw [hw2]; exact c5
  have q6 : w2.cell? ⟨g, 1, none⟩ = some (.int .i64 3) := by rw [hw2]; exact c1
  have hI2 := Lib.hid (show Has g #[.int .i64 k, .int .i64 3, .int .i64 a, .int .i64 b, .int .i64 c, .int .i64 i, .bool u] 23 w2 by rw [hw2]; exact hI.out)
  have hZ2 := Lib.hid (show HasN (g + 1) 21 27 w2 by rw [hw2]; exact hZ.out)
  have hK2 := Lib.hid (show Kept w w2 by rw [hw2]; exact hK.out.drew)
  have hM2 := Lib.hid (show MacAt F B x ai ni ci ao no co w2 by rw [hw2]; exact hM.out.kept (Kept.refl w1).drew)
  clear hw2 cr ca c1 c2 c3 c5 hI hZ hK hM
  generalize x.s.r b.toNat = vb at *
  generalize x.s.r a.toNat = va at *
  have hyw : IntKind.u32.wrap (vb + IntKind.u32.wrap i) = y := by rw [IntKind.wrap_u32, IntKind.wrap_u32]; exact hy
  simp only [List.take_succ_cons, List.take_zero, List.drop_succ_cons, List.drop_zero]
  iterate 21 (refine WS.step rfl (fun K hK => ?_); go_simp; refine hK _ ?_; clear hK K)
  refine WS.nil ?_
  try simp only [hyw]
  have hS0 := Lib.hid (show X.Mv B x.s g #[.int .i64 k, .int .i64 3, .int .i64 a, .int .i64 b, .int .i64 c, .int .i64 i, .bool u] w2.drew from X.Mv.kept ⟨hBg, hM2.out.regs, hZ2.out, hI2.out⟩ (Kept.refl w2).drew)
  have hMd := Lib.hid (show MacAt F B x ai ni ci ao no co w2.drew from hM2.out.kept (Kept.refl w2).drew)
  have hKd := Lib.hid (show Kept w w2.drew from hK2.out.drew)
  have hzw : IntKind.u8.wrap va = z := by rw [show IntKind.u8.wrap va = va % 256 by simp [IntKind.wrap, IntKind.bits, IntKind.signed]]; exact hz
  clear hI2 hZ2 hK2 hM2 q1 q2 q3 q4 q5
  go_upto_region 11 with (fail)
  refine wp_region_held_drew (S := fun wz => X.Mv B x.s g #[.int .i64 k, .int .i64 3, .int .i64 a, .int .i64 b, .int .i64 c, .int .i64 i, .bool u] wz) (by kernel_rfl) ?_ (fun hHeld => ?_)
  · exact hS0.out
  refine wpAnyH_take (i := 0) (oi := { dst := some 86, op := Op.move (Operand.tmp 0), type := 36, pos := "machine.go:126", after := #[], guard := none }) (v := ?_) rfl (by kernel_rfl) (by kernel_rfl) (by kernel_rfl) (fun _ _ _ h => h) (Or.inl ⟨rfl, ?_⟩) hHeld ?_
  rotate_left
  · (intro wz hSw; (try dsimp only at hSw); have q1 : World.cell? wz ⟨g, 2, none⟩ = some (.int .i64 a) := hSw.ins.cell 2 _ rfl; go_simp; try with_reducible rfl)
  try simp only [Act.put, List.setIfInBounds_toArray, List.set_cons_zero, List.set_cons_succ]
  refine wpAnyH_take (i := 1) (oi := { dst := some 87, op := Op.nilCheck (Operand.tmp 86), type := 0, pos := "machine.go:126", after := #[eD 0], guard := none }) (v := ?_) rfl (by kernel_rfl) (by kernel_rfl) (by kernel_rfl) (fun _ _ _ h => h) (Or.inl ⟨rfl, ?_⟩) hHeld ?_
  rotate_left
  · (intro wz hSw; (try dsimp only at hSw); have q1 : World.cell? wz ⟨g, 2, none⟩ = some (.int .i64 a) := hSw.ins.cell 2 _ rfl; go_simp; try with_reducible rfl)
  try simp only [Act.put, List.setIfInBounds_toArray, List.set_cons_zero, List.set_cons_succ]
  refine wpAnyH_take (i := 2) (oi := { dst := some 88, op := Op.fieldAddr 70 (Operand.tmp 87) 1, type := 0, pos := "machine.go:126", after := #[eD 1], guard := none }) (v := ?_) rfl (by kernel_rfl) (by kernel_rfl) (by kernel_rfl) (fun _ _ _ h => h) (Or.inl ⟨rfl, ?_⟩) hHeld ?_
  rotate_left
  · (intro wz hSw; (try dsimp only at hSw); have q1 : World.cell? wz ⟨g, 2, none⟩ = some (.int .i64 a) := hSw.ins.cell 2 _ rfl; go_simp; try with_reducible rfl)
  try simp only [Act.put, List.setIfInBounds_toArray, List.set_cons_zero, List.set_cons_succ]
  refine wpAnyH_take (i := 3) (oi := { dst := some 89, op := Op.load 27 (Operand.tmp 88), type := 27, pos := "machine.go:126", after := #[eD 2], guard := none }) (v := ?_) rfl (by kernel_rfl) (by kernel_rfl) (by kernel_rfl) (fun _ _ _ h => h) (Or.inl ⟨rfl, ?_⟩) hHeld ?_
  rotate_left
  · (intro wz hSw; refine exec_load_mid 27 (Operand.tmp 88) ?_ B 4099 ?_ (A.cells x.s) hSw.regs Try.underlying27 rfl (A.info25 _) <;> rfl)
  try simp only [Act.put, List.setIfInBounds_toArray, List.set_cons_zero, List.set_cons_succ]
  refine wpAnyH_take (i := 4) (oi := { dst := some 90, op := Op.move (Operand.tmp 0), type := 36, pos := "machine.go:126", after := #[], guard := none }) (v := ?_) rfl (by kernel_rfl) (by kernel_rfl) (by kernel_rfl) (fun _ _ _ h => h) (Or.inl ⟨rfl, ?_⟩) hHeld ?_
  rotate_left
  · (intro wz hSw; (try dsimp only at hSw); have q1 : World.cell? wz ⟨g, 2, none⟩ = some (.int .i64 a) := hSw.ins.cell 2 _ rfl; go_simp; try with_reducible rfl)
  try simp only [Act.put, List.setIfInBounds_toArray, List.set_cons_zero, List.set_cons_succ]
  refine wpAnyH_take (i := 5) (oi := { dst := some 91, op := Op.nilCheck (Operand.tmp 90), type := 0, pos := "machine.go:126", after := #[eD 4], guard := none }) (v := ?_) rfl (by kernel_rfl) (by kernel_rfl) (by kernel_rfl) (fun _ _ _ h => h) (Or.inl ⟨rfl, ?_⟩) hHeld ?_
  rotate_left
  · (intro wz hSw; (try dsimp only at hSw); have q1 : World.cell? wz ⟨g, 2, none⟩ = some (.int .i64 a) := hSw.ins.cell 2 _ rfl; go_simp; try with_reducible rfl)
  try simp only [Act.put, List.setIfInBounds_toArray, List.set_cons_zero, List.set_cons_succ]
  refine wpAnyH_take (i := 6) (oi := { dst := some 92, op := Op.fieldAddr 70 (Operand.tmp 91) 0, type := 0, pos := "machine.go:126", after := #[eD 5], guard := none }) (v := ?_) rfl (by kernel_rfl) (by kernel_rfl) (by kernel_rfl) (fun _ _ _ h => h) (Or.inl ⟨rfl, ?_⟩) hHeld ?_
  rotate_left
  · (intro wz hSw; (try dsimp only at hSw); have q1 : World.cell? wz ⟨g, 2, none⟩ = some (.int .i64 a) := hSw.ins.cell 2 _ rfl; go_simp; try with_reducible rfl)
  try simp only [Act.put, List.setIfInBounds_toArray, List.set_cons_zero, List.set_cons_succ]
  refine wpAnyH_take (i := 7) (oi := { dst := some 93, op := Op.fieldAddr 68 (Operand.tmp 92) 0, type := 0, pos := "machine.go:126", after := #[eD 6], guard := none }) (v := ?_) rfl (by kernel_rfl) (by kernel_rfl) (by kernel_rfl) (fun _ _ _ h => h) (Or.inl ⟨rfl, ?_⟩) hHeld ?_
  rotate_left
  · (intro wz hSw; (try dsimp only at hSw); have q1 : World.cell? wz ⟨g, 2, none⟩ = some (.int .i64 a) := hSw.ins.cell 2 _ rfl; go_simp; try with_reducible rfl)
  try simp only [Act.put, List.setIfInBounds_toArray, List.set_cons_zero, List.set_cons_succ]
  refine wpAnyH_take (i := 8) (oi := { dst := some 94, op := Op.move (Operand.tmp 6), type := 24, pos := "machine.go:126", after := #[], guard := none }) (v := ?_) rfl (by kernel_rfl) (by kernel_rfl) (by kernel_rfl) (fun _ _ _ h => h) (Or.inl ⟨rfl, ?_⟩) hHeld ?_
  rotate_left
  · (intro wz hSw; (try dsimp only at hSw); have q1 : World.cell? wz ⟨g, 2, none⟩ = some (.int .i64 a) := hSw.ins.cell 2 _ rfl; go_simp; try with_reducible rfl)
  try simp only [Act.put, List.setIfInBounds_toArray, List.set_cons_zero, List.set_cons_succ]
  refine wpAnyH_take (i := 9) (oi := { dst := some 95, op := Op.move (Operand.tmp 7), type := 24, pos := "machine.go:126", after := #[], guard := none }) (v := ?_) rfl (by kernel_rfl) (by kernel_rfl) (by kernel_rfl) (fun _ _ _ h => h) (Or.inl ⟨rfl, ?_⟩) hHeld ?_
  rotate_left
  · (intro wz hSw; (try dsimp only at hSw); have q1 : World.cell? wz ⟨g, 2, none⟩ = some (.int .i64 a) := hSw.ins.cell 2 _ rfl; go_simp; try with_reducible rfl)
  try simp only [Act.put, List.setIfInBounds_toArray, List.set_cons_zero, List.set_cons_succ]
  refine wpAnyH_take (i := 10) (oi := { dst := some 96, op := Op.convert 24 5 (Operand.tmp 95), type := 5, pos := "machine.go:126", after := #[eD 9], guard := none }) (v := ?_) rfl (by kernel_rfl) (by kernel_rfl) (by kernel_rfl) (fun _ _ _ h => h) (Or.inl ⟨rfl, ?_⟩) hHeld ?_
  rotate_left
  · (intro wz hSw; (try dsimp only at hSw); have q1 : World.cell? wz ⟨g, 2, none⟩ = some (.int .i64 a) := hSw.ins.cell 2 _ rfl; go_simp; try with_reducible rfl)
  try simp only [Act.put, List.setIfInBounds_toArray, List.set_cons_zero, List.set_cons_succ]
  refine wpAnyH_ready (rs := [11]) (by kernel_rfl) (by simp) ?_
  refine AllReadyH.cons (o := { dst := some 97, op := Op.call { callee := Callee.value (Operand.func 67), args := #[Operand.tmp 93, Operand.tmp 94, Operand.tmp 96], argTypes := #[66, 24, 5] }, type := 3, pos := "machine.go:126", after := #[eD 7, eD 8, eD 10], guard := none }) rfl (fun K hK => ?_) (AllReadyH.nil)
  go_simp
  go_at_call 67
  refine (L _ hMd.out).mono ?_
  rintro e wd ⟨rfl, p2, p1⟩
  have hN := (show (fun wz => X.Mv B x.s g #[.int .i64 k, .int .i64 3, .int .i64 a, .int .i64 b, .int .i64 c, .int .i64 i, .bool u] wz) _ from hHeld.turn (p2.turn (F := F) hFB) hFg p1.regs)
  clear hHeld
  refine hK.out _ _ hN (fun hHeld => ?_)
  clear hK K hN
  try simp only [Act.put, List.setIfInBounds_toArray, List.set_cons_zero, List.set_cons_succ]
  refine wpAnyH_ready (rs := [12]) (by kernel_rfl) (by simp) ?_
  refine AllReadyH.cons (o := { dst := none, op := Op.store 27 (Operand.tmp 4) (Operand.tmp 89), type := 0, pos := "machine.go:126", after := #[eD 3, eC 11, eP 0, eP 1, eP 2, eP 3, eT 4, eT 5, eT 6, eT 7, eT 8, eT 9, eT 10, { on := 11, ground := Ground.textOnly Departure.lateStoresUnsure }], guard := none }) rfl (fun K hK => ?_) (AllReadyH.nil)
  obtain ⟨old, hold, hR⟩ := hHeld.zero
  refine wp_store_row (o := { dst := none, op := Op.store 27 (Operand.tmp 4) (Operand.tmp 89), type := 0, pos := "machine.go:126", after := #[eD 3, eC 11, eP 0, eP 1, eP 2, eP 3, eT 4, eT 5, eT 6, eT 7, eT 8, eT 9, eT 10, { on := 11, ground := Ground.textOnly Departure.lateStoresUnsure }], guard := none }) 27 _ _ rfl _ (A.cells x.s) ?_ ?_ 27 old hR (A.info25 _) hold (A.one_cells _) ?_
  · rfl
  · rfl
  have hN := (show (fun wz => X.Mv B x.s g #[.int .i64 k, .int .i64 3, .int .i64 a, .int .i64 b, .int .i64 c, .int .i64 i, .bool u] wz) _ from hHeld.row (A.cells x.s) (A.size_cells _))
  clear hHeld
  refine hK.out _ _ hN (fun hHeld => ?_)
  clear hK K hN
  try simp only [Act.put, List.setIfInBounds_toArray, List.set_cons_zero, List.set_cons_succ]
  refine wpAnyH_take (i := 13) (oi := { dst := some 5, op := Op.assign (Operand.tmp 97), type := 3, pos := "machine.go:126", after := #[eD 11, eC 12, eP 0, eP 1, eP 2, eP 3, eP 4, eP 5, eP 6, eP 7, eP 8, eP 9, eP 10, eP 11, eP 12], guard := none }) (v := ?_) rfl (by kernel_rfl) (by kernel_rfl) (by kernel_rfl) (fun _ _ _ h => h) (Or.inl ⟨rfl, ?_⟩) hHeld ?_
  rotate_left
  · (intro wz hSw; (try dsimp only at hSw); have q1 : World.cell? wz ⟨g, 2, none⟩ = some (.int .i64 a) := hSw.ins.cell 2 _ rfl; go_simp; try with_reducible rfl)
  try simp only [Act.put, List.setIfInBounds_toArray, List.set_cons_zero, List.set_cons_succ]
  refine wpAnyH_done (by kernel_rfl) ?_ _
  go_wp2
  exact bodyPost_ret (results_has2 rfl (g + 1) rfl (Has.row hR _) Try.underlying27 rfl (A.info25 _)) rfl ⟨rfl, ((hKd.out.but B).trans p2).rowNew (by omega) _, p1.row (fun j hj => by have := hFg j hj; omega) _⟩
end Go.Proofs.Ytlmddkciamdldaa
