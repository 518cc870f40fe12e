/-
  The table of package alu, how a row of it is found, and the number of an instruction.
-/
import Derived.Test.YtghjdpmijnlhjaaAlu3
import Derived.Test.YtghjdpmijnlhjaaIsa3
namespace Go.Proofs.Ytghjdpmijnlhjaa
open Go.RowKit
set_option linter.unusedVariables false
set_option linter.unusedSimpArgs false
/-- a function without variables of its own -/
def A.fun' (f : Nat) : Value := .func (.func f) #[] #[]
/-- a row of the table -/
def A.row (op : Int) (f : Nat) : Array Value := #[.int .i64 op, .func (.func f) #[] #[]]
@[simp] theorem A.size_row (op : Int) (f : Nat) : (A.row op f).size = 2 := rfl
@[simp] theorem A.row_0 (op : Int) (f : Nat) : (A.row op f)[0]? = some (.int .i64 op) := rfl
@[simp] theorem A.row_1 (op : Int) (f : Nat) : (A.row op f)[1]? = some (.func (.func f) #[] #[]) := rfl
theorem A.one_row (op : Int) (f : Nat) : (A.row op f).all (·.oneCell') = true := by simp [A.row, Value.oneCell']
/-- which function does an operation -/
def A.fn (k : Nat) : Nat := if k = 0 then 45 else if k = 1 then 46 else if k = 2 then 48 else if k = 3 then 49 else if k = 4 then 50 else if k = 5 then 51 else if k = 6 then 52 else if k = 7 then 53 else if k = 8 then 54 else if k = 9 then 58 else if k = 10 then 60 else 63
def A.table : Array Value := #[.int .i64 0, .func (.func 45) #[] #[], .int .i64 1, .func (.func 46) #[] #[], .int .i64 2, .func (.func 48) #[] #[], .int .i64 3, .func (.func 49) #[] #[], .int .i64 4, .func (.func 50) #[] #[], .int .i64 5, .func (.func 51) #[] #[], .int .i64 6, .func (.func 52) #[] #[], .int .i64 7, .func (.func 53) #[] #[], .int .i64 8, .func (.func 54) #[] #[], .int .i64 9, .func (.func 58) #[] #[], .int .i64 10, .func (.func 60) #[] #[], .int .i64 11, .func (.func 63) #[] #[]]
theorem A.one_table : A.table.all (·.oneCell') = true := by simp [A.table, Value.oneCell']
theorem A.size_table : A.table.size = 24 := rfl
theorem A.table_row (k : Nat) (hk : k < 12) : A.table.extract (Int.toNat k * 2) (Int.toNat k * 2 + 2) = A.row k (A.fn k) := by
  have : k = 0 ∨ k = 1 ∨ k = 2 ∨ k = 3 ∨ k = 4 ∨ k = 5 ∨ k = 6 ∨ k = 7 ∨ k = 8 ∨ k = 9 ∨ k = 10 ∨ k = 11 := by omega
  rcases this with rfl | rfl | rfl | rfl | rfl | rfl | rfl | rfl | rfl | rfl | rfl | rfl <;> simp [A.table, A.row, A.fn]
theorem A.infoRow (op : Int) (f : Nat) : (Try.prog.info? 46).map (·.size) = some (A.row op f).size := by rw [A.size_row]; kernel_rfl
theorem A.infoTab : (Try.prog.info? 71).map (·.size) = some A.table.size := by rw [A.size_table]; kernel_rfl
theorem A.shapeRow : shapeOf Try.prog 46 = some (#[.int .i64 0, .nilFunc], [(0, 1), (1, 1)]) := by kernel_rfl
theorem A.builtRow (op : Int) (f : Nat) : Try.prog.built 46 [(0, .int .i64 op), (1, .func (.func f) #[] #[])] = some (A.row op f) := by
  rw [built_of A.shapeRow]
  simp [Instr.fill, Value.cells, A.row]
theorem A.builtRow1 (f : Nat) : Try.prog.built 46 [(1, .func (.func f) #[] #[])] = some (A.row 0 f) := by
  rw [built_of A.shapeRow]
  simp [Instr.fill, Value.cells, A.row]
theorem A.builtTab : Try.prog.built 71 [(0, .agg (A.row 0 45)), (1, .agg (A.row 1 46)), (2, .agg (A.row 2 48)), (3, .agg (A.row 3 49)), (4, .agg (A.row 4 50)), (5, .agg (A.row 5 51)), (6, .agg (A.row 6 52)), (7, .agg (A.row 7 53)), (8, .agg (A.row 8 54)), (9, .agg (A.row 9 58)), (10, .agg (A.row 10 60)), (11, .agg (A.row 11 63))] = some A.table := by kernel_rfl
theorem operations_any (w : World) : Calls Try.prog 41 #[] w fun e w' => e = .returned (.agg A.table) ∧ Kept w w' := by
  go_enter Try.func41, Try.ntmps41
  go_upto_region 1 with (fail)
  refine wp_region_lit ?_
  refine build_has (o := ⟨some 1, _, _, _, _, _⟩) rfl 46 _ rfl (A.row 0 45) (by go_simp; exact A.builtRow _ _) ?_
  simp only [Act.put, List.setIfInBounds_toArray, List.set_cons_zero, List.set_cons_succ]
  refine build_has (o := ⟨some 2, _, _, _, _, _⟩) rfl 46 _ rfl (A.row 1 46) (by go_simp; exact A.builtRow _ _) ?_
  simp only [Act.put, List.setIfInBounds_toArray, List.set_cons_zero, List.set_cons_succ]
  refine build_has (o := ⟨some 3, _, _, _, _, _⟩) rfl 46 _ rfl (A.row 2 48) (by go_simp; exact A.builtRow _ _) ?_
  simp only [Act.put, List.setIfInBounds_toArray, List.set_cons_zero, List.set_cons_succ]
  refine build_has (o := ⟨some 4, _, _, _, _, _⟩) rfl 46 _ rfl (A.row 3 49) (by go_simp; exact A.builtRow _ _) ?_
  simp only [Act.put, List.setIfInBounds_toArray, List.set_cons_zero, List.set_cons_succ]
  refine build_has (o := ⟨some 5, _, _, _, _, _⟩) rfl 46 _ rfl (A.row 4 50) (by go_simp; exact A.builtRow _ _) ?_
  simp only [Act.put, List.setIfInBounds_toArray, List.set_cons_zero, List.set_cons_succ]
  refine build_has (o := ⟨some 6, _, _, _, _, _⟩) rfl 46 _ rfl (A.row 5 51) (by go_simp; exact A.builtRow _ _) ?_
  simp only [Act.put, List.setIfInBounds_toArray, List.set_cons_zero, List.set_cons_succ]
  refine build_has (o := ⟨some 7, _, _, _, _, _⟩) rfl 46 _ rfl (A.row 6 52) (by go_simp; exact A.builtRow _ _) ?_
  simp only [Act.put, List.setIfInBounds_toArray, List.set_cons_zero, List.set_cons_succ]
  refine build_has (o := ⟨some 8, _, _, _, _, _⟩) rfl 46 _ rfl (A.row 7 53) (by go_simp; exact A.builtRow _ _) ?_
  simp only [Act.put, List.setIfInBounds_toArray, List.set_cons_zero, List.set_cons_succ]
  refine build_has (o := ⟨some 9, _, _, _, _, _⟩) rfl 46 _ rfl (A.row 8 54) (by go_simp; exact A.builtRow _ _) ?_
  simp only [Act.put, List.setIfInBounds_toArray, List.set_cons_zero, List.set_cons_succ]
  refine build_has (o := ⟨some 10, _, _, _, _, _⟩) rfl 46 _ rfl (A.row 9 58) (by go_simp; exact A.builtRow _ _) ?_
  simp only [Act.put, List.setIfInBounds_toArray, List.set_cons_zero, List.set_cons_succ]
  refine build_has (o := ⟨some 11, _, _, _, _, _⟩) rfl 46 _ rfl (A.row 10 60) (by go_simp; exact A.builtRow _ _) ?_
  simp only [Act.put, List.setIfInBounds_toArray, List.set_cons_zero, List.set_cons_succ]
  refine build_has (o := ⟨some 12, _, _, _, _, _⟩) rfl 46 _ rfl (A.row 11 63) (by go_simp; exact A.builtRow _ _) ?_
  simp only [Act.put, List.setIfInBounds_toArray, List.set_cons_zero, List.set_cons_succ]
  refine build_has (o := ⟨some 13, _, _, _, _, _⟩) rfl 71 _ rfl A.table (by go_simp; exact A.builtTab) ?_
  simp only [Act.put, List.setIfInBounds_toArray, List.set_cons_zero, List.set_cons_succ]
  refine store_last (o := ⟨none, Op.store 71 _ _, _, _, _, _⟩) rfl 71 _ _ rfl _ _ rfl rfl (by simp) A.infoTab (by kernel_rfl) A.one_table ?_
  simp only [Act.put, List.setIfInBounds_toArray, List.set_cons_zero, List.set_cons_succ]
  go_wp2_with fail
  exact bodyPost_ret (results_has rfl w.heap.size rfl (Has.new _ _ _) Try.underlying71 rfl A.infoTab) rfl ⟨rfl, (Kept.refl w).alloc _ _⟩
set_option maxHeartbeats 1000000 in
theorem find_any (op : Nat) (hop : op < 12) (w : World) : Calls Try.prog 30 #[.int .i64 op] w fun e w' => e = .returned (.tuple #[.agg (A.row op (A.fn op)), .bool true]) ∧ Kept w w' := by
  have HT := Lib.hid A.table_row
  go_enter Try.func30, Try.ntmps30
  go_wp2_with (first
    | (go_at_call 41; (refine (operations_any _).mono ?_; rintro e w2 ⟨rfl, hK2⟩); (have hX := (Has.new _ _ _).kept hK2); (have hK := ((Kept.refl w).alloc _ _).trans hK2); clear hK2))
  replace hX := Lib.hid hX
  replace hK := Lib.hid hK
  go_loopw [7] (fun i wr => ∃ k : Nat, k ≤ op ∧ i = .int .i64 k ∧ Hid (Has w.heap.size #[.int .i64 0, .nilFunc] 46 wr) ∧ Hid (Kept w wr)) (fun i _ => 12 - (intOf i).toNat)
  case atStart => exact ⟨0, by omega, rfl, hX, hK⟩
  case round =>
    clear hX hK
    obtain ⟨k, hk, rfl, hX, hK⟩ := hrel
    have hk12 : k < 12 := by omega
    have HR := Lib.hid (HT.out k hk12)
    have hk12' : (k : Int) < 12 := by omega
    by_cases he : k = op
    · subst he
      go_upto_region 3 with (fail)
      refine wp_region_lit ?_
      refine index_row (o := ⟨some 9, _, _, _, _, _⟩) rfl 71 _ _ rfl _ _ (k : Int) rfl rfl Try.underlying71 (by omega) (by omega) Try.underlying46 rfl (m := 2) (by kernel_rfl) HR.out ?_
      try simp only [Act.put, List.setIfInBounds_toArray, List.set_cons_zero, List.set_cons_succ]
      go_wp2_with (first
        | (with_reducible refine store_last (o := ⟨none, Op.store 46 (.tmp 5) _, _, _, _, _⟩) rfl 46 _ _ rfl _ _ rfl rfl rfl (A.infoRow _ _) (by kernel_rfl) (A.one_row _ _) ?_)
        | (with_reducible refine load_has (o := ⟨some 14, _, _, _, _, _⟩) rfl 46 _ rfl _ rfl (Has.new _ _ _) Try.underlying46 rfl (A.infoRow _ _) ?_)
        | (with_reducible refine store_has (o := ⟨none, Op.store 46 (.tmp 2) _, _, _, _, _⟩) rfl 46 _ _ rfl _ _ rfl rfl (hX.out.alloc _) (A.infoRow _ _) (by kernel_rfl) (A.one_row _ _) ?_))
      exact bodyPost_ret (results_has2 rfl w.heap.size rfl ((hX.out.alloc _).row _) Try.underlying46 rfl (A.infoRow _ _)) rfl ⟨rfl, (hK.out.alloc _ _).row (by omega) _⟩
    · have hne : ((k : Int) == (op : Int)) = false := by simp; omega
      have hne' : ¬ (k : Int) = (op : Int) := by omega
      go_upto_region 3 with (fail)
      refine wp_region_lit ?_
      refine index_row (o := ⟨some 9, _, _, _, _, _⟩) rfl 71 _ _ rfl _ _ (k : Int) rfl rfl Try.underlying71 (by omega) (by omega) Try.underlying46 rfl (m := 2) (by kernel_rfl) HR.out ?_
      try simp only [Act.put, List.setIfInBounds_toArray, List.set_cons_zero, List.set_cons_succ]
      go_wp2_with (first
        | (with_reducible refine store_last (o := ⟨none, Op.store 46 (.tmp 5) _, _, _, _, _⟩) rfl 46 _ _ rfl _ _ rfl rfl rfl (A.infoRow _ _) (by kernel_rfl) (A.one_row _ _) ?_))
      go_roundw
      case rel => exact ⟨k + 1, by omega, by go_num, Lib.hid (hX.out.alloc _), Lib.hid (hK.out.alloc _ _)⟩
      case measure => simp [intOf]; omega
theorem callsFn {f : Nat} {fn : Func} (h : Try.prog.funcs[f]? = some fn) (h1 : (fn.name == "runtime.NumGoroutine") = false) (h2 : fn.body.isNone = false) (args : Array Value) (w : World) : (callFunc f args).run Try.prog w = .ok (.enter f args) w := by
  have h1' : ¬ fn.name = "runtime.NumGoroutine" := by simpa using h1
  have h2' : ¬ fn.body = none := by intro e; rw [e] at h2; cases h2
  simp [callFunc, h, h1', h2']
theorem number_imm (s : A.Regs) (op a b c i : Int) (u : Bool) (w : World) :
    Calls Try.prog 18 #[.agg (A.cells s), .agg #[.int .i64 2, .int .i64 op, .int .i64 a, .int .i64 b, .int .i64 c, .int .i64 i, .bool u]] w fun e w' => e = .returned (.int .u32 (i % 4294967296)) ∧ Kept w w' := by
  go_enter Try.func18, Try.ntmps18
  go_wp2
  go_ret
  exact r1k rfl (((Kept.refl w).alloc _ _).alloc _ _)
theorem number_reg (s : A.Regs) (k op a b c i : Int) (u : Bool) (hk : (k == 2) = false) (h0 : 0 ≤ c) (h1 : c < 16) (w : World) :
    Calls Try.prog 18 #[.agg (A.cells s), .agg #[.int .i64 k, .int .i64 op, .int .i64 a, .int .i64 b, .int .i64 c, .int .i64 i, .bool u]] w fun e w' => e = .returned (.int .u32 (s.r c.toNat)) ∧ Kept w w' := by
  have hc := A.cell_r s c.toNat (by omega)
  go_enter Try.func18, Try.ntmps18
  go_wp2
  go_ret
  exact r1k rfl (((Kept.refl w).alloc _ _).alloc _ _)
/-- no row -/
def A.norow : Array Value := #[.int .i64 0, .nilFunc]
theorem A.infoNo : (Try.prog.info? 46).map (·.size) = some A.norow.size := by kernel_rfl
theorem A.one_norow : A.norow.all (·.oneCell') = true := by simp [A.norow, Value.oneCell']
theorem A.builtNo : Try.prog.built 46 [] = some A.norow := by
  rw [built_of A.shapeRow]
  simp [Instr.fill, A.norow]
/-- operationOf of an instruction that may not be -/
theorem opOf_not (k op a b c i : Int) (u : Bool) (h : I.may ⟨k, op, a, b, c, i, u⟩ = false) (w : World) :
    Calls Try.prog 17 #[.agg #[.int .i64 k, .int .i64 op, .int .i64 a, .int .i64 b, .int .i64 c, .int .i64 i, .bool u]] w fun e w' => e = .returned (.tuple #[.agg A.norow, .bool false]) ∧ Kept w w' := by
  have C := Lib.hid (may_any k op a b c i u)
  rw [h] at C
  clear h
  go_enter Try.func17, Try.ntmps17
  go_wp2_with fail
  refine (C.out _).mono ?_; rintro e w2 ⟨rfl, hK2⟩
  have hX := (Has.new1 _ _ _ _).kept hK2
  have hI := ((Has.new _ _ _).alloc _).kept hK2
  have hK := (((Kept.refl w).alloc _ _).alloc _ _).trans hK2
  have c0 := hI.cell 0 _ rfl
  have c1 := hI.cell 1 _ rfl
  clear hK2 hI
  replace hX := Lib.hid hX
  replace hK := Lib.hid hK
  go_wp2_with (first
    | ((with_reducible refine build_has (o := ⟨some 7, _, _, _, _, _⟩) rfl 46 _ rfl A.norow ?_ ?_); (· (go_simp; exact A.builtNo)))
    | (with_reducible refine store_has (o := ⟨none, Op.store 46 (.tmp 2) _, _, _, _, _⟩) rfl 46 _ _ rfl _ _ rfl rfl hX.out A.infoNo (by kernel_rfl) A.one_norow ?_))
  exact bodyPost_ret (results_has2 rfl (w.heap.size + 1) rfl (hX.out.row _) Try.underlying46 rfl A.infoNo) rfl ⟨rfl, hK.out.row (by omega) _⟩
/-- H moved -/
theorem opOf_3 (op a b c i : Int) (u : Bool) (h : I.may ⟨3, op, a, b, c, i, u⟩ = true) (w : World) :
    Calls Try.prog 17 #[.agg #[.int .i64 3, .int .i64 op, .int .i64 a, .int .i64 b, .int .i64 c, .int .i64 i, .bool u]] w fun e w' => e = .returned (.tuple #[.agg (A.row 0 28), .bool true]) ∧ Kept w w' := by
  have C := Lib.hid (may_any 3 op a b c i u)
  rw [h] at C
  clear h
  go_enter Try.func17, Try.ntmps17
  go_wp2_with fail
  refine (C.out _).mono ?_; rintro e w2 ⟨rfl, hK2⟩
  have hX := (Has.new1 _ _ _ _).kept hK2
  have hI := ((Has.new _ _ _).alloc _).kept hK2
  have hK := (((Kept.refl w).alloc _ _).alloc _ _).trans hK2
  have c0 := hI.cell 0 _ rfl
  have c1 := hI.cell 1 _ rfl
  clear hK2 hI
  replace hX := Lib.hid hX
  replace hK := Lib.hid hK
  go_wp2_with (first
    | ((with_reducible refine build_has (o := ⟨some 12, _, _, _, _, _⟩) rfl 46 _ rfl (A.row 0 28) ?_ ?_); (· (go_simp; exact A.builtRow1 _)))
    | (with_reducible refine store_has (o := ⟨none, Op.store 46 (.tmp 2) _, _, _, _, _⟩) rfl 46 _ _ rfl _ _ rfl rfl hX.out (A.infoRow _ _) (by kernel_rfl) (A.one_row _ _) ?_))
  exact bodyPost_ret (results_has2 rfl (w.heap.size + 1) rfl (hX.out.row _) Try.underlying46 rfl (A.infoRow _ _)) rfl ⟨rfl, hK.out.row (by omega) _⟩
/-- the flags moved -/
theorem opOf_4 (op a b c i : Int) (u : Bool) (h : I.may ⟨4, op, a, b, c, i, u⟩ = true) (w : World) :
    Calls Try.prog 17 #[.agg #[.int .i64 4, .int .i64 op, .int .i64 a, .int .i64 b, .int .i64 c, .int .i64 i, .bool u]] w fun e w' => e = .returned (.tuple #[.agg (A.row 0 29), .bool true]) ∧ Kept w w' := by
  have C := Lib.hid (may_any 4 op a b c i u)
  rw [h] at C
  clear h
  go_enter Try.func17, Try.ntmps17
  go_wp2_with fail
  refine (C.out _).mono ?_; rintro e w2 ⟨rfl, hK2⟩
  have hX := (Has.new1 _ _ _ _).kept hK2
  have hI := ((Has.new _ _ _).alloc _).kept hK2
  have hK := (((Kept.refl w).alloc _ _).alloc _ _).trans hK2
  have c0 := hI.cell 0 _ rfl
  have c1 := hI.cell 1 _ rfl
  clear hK2 hI
  replace hX := Lib.hid hX
  replace hK := Lib.hid hK
  go_wp2_with (first
    | ((with_reducible refine build_has (o := ⟨some 15, _, _, _, _, _⟩) rfl 46 _ rfl (A.row 0 29) ?_ ?_); (· (go_simp; exact A.builtRow1 _)))
    | (with_reducible refine store_has (o := ⟨none, Op.store 46 (.tmp 2) _, _, _, _, _⟩) rfl 46 _ _ rfl _ _ rfl rfl hX.out (A.infoRow _ _) (by kernel_rfl) (A.one_row _ _) ?_))
  exact bodyPost_ret (results_has2 rfl (w.heap.size + 1) rfl (hX.out.row _) Try.underlying46 rfl (A.infoRow _ _)) rfl ⟨rfl, hK.out.row (by omega) _⟩
/-- another kind -/
theorem opOf_5 (op a b c i : Int) (u : Bool) (h : I.may ⟨5, op, a, b, c, i, u⟩ = true) (w : World) :
    Calls Try.prog 17 #[.agg #[.int .i64 5, .int .i64 op, .int .i64 a, .int .i64 b, .int .i64 c, .int .i64 i, .bool u]] w fun e w' => e = .returned (.tuple #[.agg A.norow, .bool false]) ∧ Kept w w' := by
  have C := Lib.hid (may_any 5 op a b c i u)
  rw [h] at C
  clear h
  go_enter Try.func17, Try.ntmps17
  go_wp2_with fail
  refine (C.out _).mono ?_; rintro e w2 ⟨rfl, hK2⟩
  have hX := (Has.new1 _ _ _ _).kept hK2
  have hI := ((Has.new _ _ _).alloc _).kept hK2
  have hK := (((Kept.refl w).alloc _ _).alloc _ _).trans hK2
  have c0 := hI.cell 0 _ rfl
  have c1 := hI.cell 1 _ rfl
  clear hK2 hI
  replace hX := Lib.hid hX
  replace hK := Lib.hid hK
  go_wp2_with (first
    | ((with_reducible refine build_has (o := ⟨some 24, _, _, _, _, _⟩) rfl 46 _ rfl A.norow ?_ ?_); (· (go_simp; exact A.builtNo)))
    | (with_reducible refine store_has (o := ⟨none, Op.store 46 (.tmp 2) _, _, _, _, _⟩) rfl 46 _ _ rfl _ _ rfl rfl hX.out A.infoNo (by kernel_rfl) A.one_norow ?_))
  exact bodyPost_ret (results_has2 rfl (w.heap.size + 1) rfl (hX.out.row _) Try.underlying46 rfl A.infoNo) rfl ⟨rfl, hK.out.row (by omega) _⟩
/-- another kind -/
theorem opOf_6 (op a b c i : Int) (u : Bool) (h : I.may ⟨6, op, a, b, c, i, u⟩ = true) (w : World) :
    Calls Try.prog 17 #[.agg #[.int .i64 6, .int .i64 op, .int .i64 a, .int .i64 b, .int .i64 c, .int .i64 i, .bool u]] w fun e w' => e = .returned (.tuple #[.agg A.norow, .bool false]) ∧ Kept w w' := by
  have C := Lib.hid (may_any 6 op a b c i u)
  rw [h] at C
  clear h
  go_enter Try.func17, Try.ntmps17
  go_wp2_with fail
  refine (C.out _).mono ?_; rintro e w2 ⟨rfl, hK2⟩
  have hX := (Has.new1 _ _ _ _).kept hK2
  have hI := ((Has.new _ _ _).alloc _).kept hK2
  have hK := (((Kept.refl w).alloc _ _).alloc _ _).trans hK2
  have c0 := hI.cell 0 _ rfl
  have c1 := hI.cell 1 _ rfl
  clear hK2 hI
  replace hX := Lib.hid hX
  replace hK := Lib.hid hK
  go_wp2_with (first
    | ((with_reducible refine build_has (o := ⟨some 24, _, _, _, _, _⟩) rfl 46 _ rfl A.norow ?_ ?_); (· (go_simp; exact A.builtNo)))
    | (with_reducible refine store_has (o := ⟨none, Op.store 46 (.tmp 2) _, _, _, _, _⟩) rfl 46 _ _ rfl _ _ rfl rfl hX.out A.infoNo (by kernel_rfl) A.one_norow ?_))
  exact bodyPost_ret (results_has2 rfl (w.heap.size + 1) rfl (hX.out.row _) Try.underlying46 rfl A.infoNo) rfl ⟨rfl, hK.out.row (by omega) _⟩
/-- another kind -/
theorem opOf_7 (op a b c i : Int) (u : Bool) (h : I.may ⟨7, op, a, b, c, i, u⟩ = true) (w : World) :
    Calls Try.prog 17 #[.agg #[.int .i64 7, .int .i64 op, .int .i64 a, .int .i64 b, .int .i64 c, .int .i64 i, .bool u]] w fun e w' => e = .returned (.tuple #[.agg A.norow, .bool false]) ∧ Kept w w' := by
  have C := Lib.hid (may_any 7 op a b c i u)
  rw [h] at C
  clear h
  go_enter Try.func17, Try.ntmps17
  go_wp2_with fail
  refine (C.out _).mono ?_; rintro e w2 ⟨rfl, hK2⟩
  have hX := (Has.new1 _ _ _ _).kept hK2
  have hI := ((Has.new _ _ _).alloc _).kept hK2
  have hK := (((Kept.refl w).alloc _ _).alloc _ _).trans hK2
  have c0 := hI.cell 0 _ rfl
  have c1 := hI.cell 1 _ rfl
  clear hK2 hI
  replace hX := Lib.hid hX
  replace hK := Lib.hid hK
  go_wp2_with (first
    | ((with_reducible refine build_has (o := ⟨some 24, _, _, _, _, _⟩) rfl 46 _ rfl A.norow ?_ ?_); (· (go_simp; exact A.builtNo)))
    | (with_reducible refine store_has (o := ⟨none, Op.store 46 (.tmp 2) _, _, _, _, _⟩) rfl 46 _ _ rfl _ _ rfl rfl hX.out A.infoNo (by kernel_rfl) A.one_norow ?_))
  exact bodyPost_ret (results_has2 rfl (w.heap.size + 1) rfl (hX.out.row _) Try.underlying46 rfl A.infoNo) rfl ⟨rfl, hK.out.row (by omega) _⟩
/-- an operation -/
theorem opOf_1 (op : Nat) (a b c i : Int) (u : Bool) (hop : op < 12) (h : I.may ⟨1, (op : Int), a, b, c, i, u⟩ = true) (w : World) :
    Calls Try.prog 17 #[.agg #[.int .i64 1, .int .i64 (op : Int), .int .i64 a, .int .i64 b, .int .i64 c, .int .i64 i, .bool u]] w fun e w' => e = .returned (.tuple #[.agg (A.row (op : Int) (A.fn op)), .bool true]) ∧ Kept w w' := by
  have C := Lib.hid (may_any 1 ((op : Int)) a b c i u)
  rw [h] at C
  clear h
  have FI := Lib.hid (find_any op hop)
  go_enter Try.func17, Try.ntmps17
  go_wp2_with fail
  refine (C.out _).mono ?_; rintro e w2 ⟨rfl, hK2⟩
  have hX := (Has.new1 _ _ _ _).kept hK2
  have hI := ((Has.new _ _ _).alloc _).kept hK2
  have hK := (((Kept.refl w).alloc _ _).alloc _ _).trans hK2
  have c0 := hI.cell 0 _ rfl
  have c1 := hI.cell 1 _ rfl
  clear hK2 hI
  replace hX := Lib.hid hX
  replace hK := Lib.hid hK
  go_wp2_with (first
    | (go_at_call 30; (refine (FI.out _).mono ?_; rintro e w3 ⟨rfl, hK3⟩); (have hX' := Lib.hid (hX.out.kept hK3)); (have hK' := Lib.hid (hK.out.trans hK3)); clear hK3 hX hK; (have hX := hX'); (have hK := hK'); clear hX' hK')
    | (with_reducible refine store_has (o := ⟨none, Op.store 46 (.tmp 2) _, _, _, _, _⟩) rfl 46 _ _ rfl _ _ rfl rfl (by first | exact hX.out) (A.infoRow _ _) (by kernel_rfl) (A.one_row _ _) ?_))
  exact bodyPost_ret (results_has2 rfl (w.heap.size + 1) rfl (hX.out.row _) Try.underlying46 rfl (A.infoRow _ _)) rfl ⟨rfl, hK.out.row (by omega) _⟩
/-- an operation -/
theorem opOf_2 (op : Nat) (a b c i : Int) (u : Bool) (hop : op < 12) (h : I.may ⟨2, (op : Int), a, b, c, i, u⟩ = true) (w : World) :
    Calls Try.prog 17 #[.agg #[.int .i64 2, .int .i64 (op : Int), .int .i64 a, .int .i64 b, .int .i64 c, .int .i64 i, .bool u]] w fun e w' => e = .returned (.tuple #[.agg (A.row (op : Int) (A.fn op)), .bool true]) ∧ Kept w w' := by
  have C := Lib.hid (may_any 2 ((op : Int)) a b c i u)
  rw [h] at C
  clear h
  have FI := Lib.hid (find_any op hop)
  go_enter Try.func17, Try.ntmps17
  go_wp2_with fail
  refine (C.out _).mono ?_; rintro e w2 ⟨rfl, hK2⟩
  have hX := (Has.new1 _ _ _ _).kept hK2
  have hI := ((Has.new _ _ _).alloc _).kept hK2
  have hK := (((Kept.refl w).alloc _ _).alloc _ _).trans hK2
  have c0 := hI.cell 0 _ rfl
  have c1 := hI.cell 1 _ rfl
  clear hK2 hI
  replace hX := Lib.hid hX
  replace hK := Lib.hid hK
  go_wp2_with (first
    | (go_at_call 30; (refine (FI.out _).mono ?_; rintro e w3 ⟨rfl, hK3⟩); (have hX' := Lib.hid (hX.out.kept hK3)); (have hK' := Lib.hid (hK.out.trans hK3)); clear hK3 hX hK; (have hX := hX'); (have hK := hK'); clear hX' hK')
    | (with_reducible refine store_has (o := ⟨none, Op.store 46 (.tmp 2) _, _, _, _, _⟩) rfl 46 _ _ rfl _ _ rfl rfl (by first | exact hX.out) (A.infoRow _ _) (by kernel_rfl) (A.one_row _ _) ?_))
  exact bodyPost_ret (results_has2 rfl (w.heap.size + 1) rfl (hX.out.row _) Try.underlying46 rfl (A.infoRow _ _)) rfl ⟨rfl, hK.out.row (by omega) _⟩
end Go.Proofs.Ytghjdpmijnlhjaa
