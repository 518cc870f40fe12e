/-
  Two registers' values that are the same are equal; operations behind a guard.
-/
import Derived.Test.YtghjdpmijnlhjaaAlu9
import Derived.ChangeKeysEq
namespace Go.Proofs.Ytghjdpmijnlhjaa
open Go.RowKit
set_option linter.unusedVariables false
set_option linter.unusedSimpArgs false
theorem A.part_u (xs : Array Value) (j : Nat) (x : Int) (w : World) (hj : xs[j]? = some (.int .u32 x)) : (part 22 xs j).run Try.prog w = .ok (.int .u32 x) w := by
  have ha := run_isAgg Try.underlying22 w
  simp [part, Sem.run_bind, run_sizeOf (P := Try.prog) (e := 22) (m := 1) (by kernel_rfl), ha, TypeDesc.isRow, hj]
theorem A.part_b (xs : Array Value) (j : Nat) (x : Bool) (w : World) (hj : xs[j]? = some (.bool x)) : (part 4 xs j).run Try.prog w = .ok (.bool x) w := by
  have ha := run_isAgg Try.underlying4 w
  simp [part, Sem.run_bind, run_sizeOf (P := Try.prog) (e := 4) (m := 1) (by kernel_rfl), ha, TypeDesc.isRow, hj]
theorem A.part_R (s : A.Regs) (w : World) : (part 23 (A.cells s) 0).run Try.prog w = .ok (.agg ((A.cells s).extract 0 16)) w := by
  have ha := run_isAgg Try.underlying23 w
  simp [part, Sem.run_bind, run_sizeOf (P := Try.prog) (e := 23) (m := 16) (by kernel_rfl), ha, TypeDesc.isRow]
theorem A.items (d : Nat) (xs : Array Value) (w : World) : ∀ is : List Nat, (∀ i ∈ is, ∃ x, xs[i]? = some (.int .u32 x)) → (Op.eqItems (d + 1) 22 1 xs xs is).run Try.prog w = .ok true w
  | [], _ => by simp [Op.eqItems]
  | i :: is, h => by
    obtain ⟨x, hx⟩ := h i (by simp)
    have hp := A.part_u xs (i * 1) x w (by simpa using hx)
    have := A.items d xs w is (fun j hj => h j (by simp [hj]))
    simp only [Op.eqItems, Sem.run_bind, hp, Result.andThen_ok, run_equalIn_int w d 22 .u32 .u32 x x Try.underlying22]
    simpa using this
theorem A.eq_R (d : Nat) (s : A.Regs) (w : World) : (Op.equalIn (d + 2) 23 (.agg ((A.cells s).extract 0 16)) (.agg ((A.cells s).extract 0 16))).run Try.prog w = .ok true w := by
  obtain ⟨i, hi⟩ : ∃ i, Try.prog.info? 22 = some i := Option.isSome_iff_exists.1 (show (Try.prog.info? 22).isSome = true by kernel_rfl)
  rw [run_equalIn_array w (d + 1) _ _ Try.underlying23 hi, show Try.prog.cellsOf 22 = 1 by kernel_rfl]
  refine A.items d _ w _ fun j hj => ?_
  have hj' : j < 16 := by simpa using hj
  exact ⟨s.r j, by rw [Array.getElem?_extract]; simp [hj', A.cell_r s j hj']⟩
theorem A.eq_u (d : Nat) (x : Int) (w : World) : (Op.equalIn (d + 2) 22 (.int .u32 x) (.int .u32 x)).run Try.prog w = .ok true w := by
  rw [run_equalIn_int w (d + 1) 22 .u32 .u32 x x Try.underlying22]; simp
theorem A.eq_b (d : Nat) (x : Bool) (w : World) : (Op.equalIn (d + 2) 4 (.bool x) (.bool x)).run Try.prog w = .ok true w := by
  rw [run_equalIn_bool' w (d + 1) 4 x x Try.underlying4]; simp
theorem A.eq_regsD (d : Nat) (s : A.Regs) (w : World) : (Op.equalIn (d + 3) 25 (.agg (A.cells s)) (.agg (A.cells s))).run Try.prog w = .ok true w := by
  rw [run_equalIn_struct w (d + 2) 25 _ _ Try.underlying25 (by kernel_rfl)]
  simp only [Program.fieldsOf, Try.underlying25]
  simp only [Op.eqFields]
  rw [if_pos (by decide), if_pos (by decide), if_pos (by decide), if_pos (by decide), if_pos (by decide), if_pos (by decide)]
  simp only [Sem.run_bind, A.part_R, A.eq_R, A.part_u (A.cells s) 16 s.h _ rfl, A.part_b (A.cells s) 17 s.n _ rfl, A.part_b (A.cells s) 18 s.z _ rfl, A.part_b (A.cells s) 19 s.c _ rfl, A.part_b (A.cells s) 20 s.v _ rfl, A.eq_u, A.eq_b, Result.andThen_ok, Bool.not_true, Bool.false_eq_true, if_false, Sem.run_pure]
theorem A.depth : Op.maxDepth = 9997 + 3 := rfl
theorem A.eq_regs (s : A.Regs) (w : World) : (Op.equal 25 (.agg (A.cells s)) (.agg (A.cells s))).run Try.prog w = .ok true w := by
  unfold Op.equal
  rw [A.depth]
  exact A.eq_regsD 9997 s w
section
variable {P : Program} {ops : Array Oper} {rest : List Oper} {o : Oper} {a : Act} {w : World} {Q : Exit → Act → World → Prop}
/-- an operation that is wanted, and only makes a value -/
theorem want_exec {v : Value} (hw : Region.wanted o (yielded ops a.tmps) = true) (he : (execOp a.eval o).run P w = .ok (.value v) w) (h : wpList P ops Q rest (a.put o.dst v) w) : wpList P ops Q (o :: rest) a w :=
  BigFrame.wpList_want hw fun K hK => by
    unfold Oper.wp
    simp only [he, Oper.upon]
    exact hK _ _ h
end
theorem A.bin_eq (cs ds : Array Value) : binOp BinOp.eql 25 (.agg cs) (.agg ds) = (do pure (.bool (← Op.equal 25 (.agg cs) (.agg ds)))) := by simp only [binOp]
theorem exec_eq_regs {o : Oper} {a : Act} {w : World} (x y : Operand) (ho : o.op = .binOp .eql 25 x y 25) (s : A.Regs) (hx : a.eval x = .agg (A.cells s)) (hy : a.eval y = .agg (A.cells s)) :
    (execOp a.eval o).run Try.prog w = .ok (.value (.bool true)) w := by
  unfold execOp
  simp only [ho, hx, hy, Sem.run_bind]
  rw [run_eqGuard_agg w BinOp.eql 25 x y (A.cells s) (A.cells s) (by kernel_rfl)]
  simp only [Result.andThen_ok, A.bin_eq, Sem.run_bind, A.eq_regs, Sem.run_pure]
end Go.Proofs.Ytghjdpmijnlhjaa
