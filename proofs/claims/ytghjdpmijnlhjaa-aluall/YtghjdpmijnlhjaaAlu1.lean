/-
  The contracts of the small functions of package alu.
-/
import Derived.Test.YtghjdpmijnlhjaaRows
import Derived.Test.YtghjdpmijnlhjaaRow0
import Derived.Test.YtghjdpmijnlhjaaAlu0
import Derived.Test.YtghjdpmijnlhjaaWord1
import Derived.WalkKit
import Derived.WalkSpells
import Derived.WalkLawsBesides
import Derived.Lib.Hide
import Derived.Deep.Cut
import Derived.Deep.RegionHeld3
import Derived.BigQuiet
namespace Go.Proofs.Ytghjdpmijnlhjaa
open Go.RowKit
set_option linter.unusedVariables false
set_option linter.unusedSimpArgs false
theorem A.show_eq (x : Int) (h0 : 0 ≤ x) (h1 : x < 4294967296) : (x / 2147483648 == 1) = decide (2147483648 ≤ x) := by
  rw [Bool.eq_iff_iff]; simp; omega
theorem A.info25 (s : A.Regs) : (Try.prog.info? 25).map (·.size) = some (A.cells s).size := by rw [A.size_cells]; kernel_rfl
theorem show_any (s : A.Regs) (x : Int) (h0 : 0 ≤ x) (h1 : x < 4294967296) (w : World) :
    Calls Try.prog 16 #[.agg (A.cells s), .int .u32 x] w fun e w' => e = .returned (.agg (A.cells (A.show' s x))) ∧ Kept w w' := by
  go_enter Try.func16, Try.ntmps16
  go_wp2_with (first
    | (with_reducible refine load_has rfl 25 _ rfl _ rfl ((Has.new _ _ _).alloc _) Try.underlying25 rfl (A.info25 _) ?_)
    | (with_reducible refine store_last rfl 25 _ _ rfl _ _ rfl rfl (by simp) (A.info25 _) (by kernel_rfl) (A.one_cells _) ?_))
  refine bodyPost_ret (results_has rfl (w.heap.size + 1) rfl (by have := Has.new (A.cells (A.setZ (A.setN s (x / 2147483648 == 1)) (x == 0))) 25 (w.alloc (Obj.cells (A.cells (A.setZ (A.setN s (x / 2147483648 == 1)) (x == 0))) 25)); simpa using this) Try.underlying25 rfl (A.info25 _)) rfl ⟨?_, ?_⟩
  · rw [A.show_eq x h0 h1]; rfl
  · exact ((Kept.refl w).alloc _ _).alloc _ _
theorem A.infoOp (s : A.Regs) (b n : Int) (u : Bool) : (Try.prog.info? 53).map (·.size) = some (A.opnd s b n u).size := by rw [A.size_opnd]; kernel_rfl
theorem A.infoOut (x : Int) (s : A.Regs) (t : Int) : (Try.prog.info? 50).map (·.size) = some (A.outc x s t).size := by rw [A.size_outc]; kernel_rfl
theorem A.shapeOut : shapeOf Try.prog 50 = some (A.outc 0 A.none' 0, [(0, 1), (1, 21), (22, 1)]) := by kernel_rfl
theorem A.builtOut (x : Int) (s : A.Regs) : Try.prog.built 50 [(0, .int .u32 x), (1, .agg (A.cells s))] = some (A.outc x s 0) := by
  rw [built_of A.shapeOut]
  simp [Instr.fill, Value.cells, A.cells, A.outc]
theorem just_any (s : A.Regs) (b n x : Int) (u : Bool) (w : World) :
    Calls Try.prog 40 #[.agg (A.opnd s b n u), .int .u32 x] w fun e w' => e = .returned (.agg (A.outc x s 0)) ∧ Kept w w' := by
  go_enter Try.func40, Try.ntmps40
  go_wp2_with (first
    | (with_reducible refine load_part (o := ⟨some 7, _, _, _, _, _⟩) rfl 25 _ rfl _ 0 rfl (A.cells s) ((Has.new _ _ _).alloc _) (A.opnd_regs _ _ _ _) Try.underlying25 rfl (A.info25 _) ?_)
    | ((with_reducible refine build_has (o := ⟨some 8, _, _, _, _, _⟩) rfl 50 _ rfl (A.outc x s 0) ?hf8 ?_); (case hf8 => (go_simp; exact A.builtOut x s)))
    | (with_reducible refine store_last (o := ⟨none, _, _, _, _, _⟩) rfl 50 _ _ rfl _ _ rfl rfl (by simp) (A.infoOut _ _ _) (by kernel_rfl) (A.one_outc _ _ _) ?_))
  exact bodyPost_ret (results_has rfl (w.heap.size + 1) rfl (Has.new1 _ _ _ _) Try.underlying50 rfl (A.infoOut _ _ _)) rfl ⟨rfl, ((Kept.refl w).alloc _ _).alloc _ _⟩
theorem carry_any (s : A.Regs) (b n : Int) (u : Bool) (w : World) :
    Calls Try.prog 57 #[.agg (A.opnd s b n u)] w fun e w' => e = .returned (.bool (u && s.c)) ∧ Kept w w' := by
  cases u
  all_goals
    go_enter Try.func57, Try.ntmps57
    go_wp2
    go_ret
    exact r1bk (by simp) ((Kept.refl w).alloc _ _)
theorem withFlags_any (s : A.Regs) (b n x : Int) (u c v : Bool) (w : World) :
    Calls Try.prog 55 #[.agg (A.opnd s b n u), .int .u32 x, .bool c, .bool v] w fun e w' => e = .returned (.agg (A.outc x (A.setV (A.setC s c) v) 0)) ∧ Kept w w' := by
  go_enter Try.func55, Try.ntmps55
  go_wp2_with (first
    | (with_reducible refine load_has (o := ⟨some 15, _, _, _, _, _⟩) rfl 53 _ rfl _ rfl ((Has.new _ _ _).alloc _) Try.underlying53 rfl (A.infoOp _ _ _ _) ?_)
    | (with_reducible refine store_has (o := ⟨none, Op.store 50 _ _, _, _, _, _⟩) rfl 50 _ _ rfl _ _ rfl rfl (by assumption) (A.infoOut _ _ _) (by kernel_rfl) (A.one_outc _ _ _) ?_)
    | (go_at_call 40; (refine (just_any _ _ _ _ _ _).mono ?_; rintro e w2 ⟨rfl, hK2⟩); (have hX := (Has.new1 _ _ _ _).kept hK2); (have hK := (((Kept.refl w).alloc _ _).alloc _ _).trans hK2); clear hK2))
  exact bodyPost_ret (results_has rfl (w.heap.size + 1) rfl (hX.row _) Try.underlying50 rfl (A.infoOut _ _ _)) rfl ⟨rfl, hK.row (by omega) _⟩
theorem withHigh_any (s : A.Regs) (b n x h : Int) (u : Bool) (w : World) :
    Calls Try.prog 61 #[.agg (A.opnd s b n u), .int .u32 x, .int .u32 h] w fun e w' => e = .returned (.agg (A.outc x (A.setH s h) 0)) ∧ Kept w w' := by
  go_enter Try.func61, Try.ntmps61
  go_wp2_with (first
    | (with_reducible refine load_has (o := ⟨some 10, _, _, _, _, _⟩) rfl 53 _ rfl _ rfl ((Has.new _ _ _).alloc _) Try.underlying53 rfl (A.infoOp _ _ _ _) ?_)
    | (with_reducible refine store_has (o := ⟨none, Op.store 50 _ _, _, _, _, _⟩) rfl 50 _ _ rfl _ _ rfl rfl (by assumption) (A.infoOut _ _ _) (by kernel_rfl) (A.one_outc _ _ _) ?_)
    | (go_at_call 40; refine (just_any _ _ _ _ _ _).mono ?_; rintro e w2 ⟨rfl, hK2⟩; have hX := (Has.new1 _ _ _ _).kept hK2; have hK := (((Kept.refl w).alloc _ _).alloc _ _).trans hK2; clear hK2))
  exact bodyPost_ret (results_has rfl (w.heap.size + 1) rfl (hX.row _) Try.underlying50 rfl (A.infoOut _ _ _)) rfl ⟨rfl, hK.row (by omega) _⟩
end Go.Proofs.Ytghjdpmijnlhjaa
