/-
  What the laws of package object stand on: the document's examples.
-/
import Derived.Test.YthnpdlejgpcgoaaObQ
namespace Go.Proofs.Ythnpdlejgpcgoaa
open Go.RowKit
set_option linter.unusedVariables false
set_option linter.unusedSimpArgs false
set_option maxRecDepth 100000
theorem Ob.built0 : Try.prog.built 26 [] = some #[.slice none 0 0, .slice none 0 0, .slice none 0 0] := by kernel_rfl
theorem Ob.exec0 {o : Oper} {a : Act} {w : World} (ho : o.op = .build 26 #[]) : (execOp a.eval o).run Try.prog w = .ok (.value (.agg #[.slice none 0 0, .slice none 0 0, .slice none 0 0])) w := by
  refine exec_build 26 #[] ho _ ?_
  rw [Array.map_empty]
  exact Ob.built0
theorem Ob.nilW (w : World) : Wo w none 0 0 [] := Rw.empty _ _ _
theorem Ob.nilS (w : World) : In w none 0 0 [] := Rg.empty _ _
set_option maxRecDepth 100000 in
theorem Ob.shown_any (w : World) : Calls Try.prog 7 #[] w fun e w' => e = .returned (.bool true) ∧ Below w.heap.size w w' := by
  have hA1 := (((Kept.refl w).alloc #[.int .u32 4] 37).alloc #[.int .i64 0] 3).below
  have hX := Lib.hid (((Rg.one ((Has.new #[.int .u32 4] 37 w).alloc (.cells #[.int .i64 0] 3))).rw (L := 4294967296) (by simp) : Wo _ _ _ _ _))
  have hS := Lib.hid (Rg.one (Has.new1 #[.int .i64 0] 3 w (.cells #[.int .u32 4] 37)))
  go_enter Try.func7, Try.ntmps7
  go_wp2_with (fail)
  generalize (w.alloc (.cells #[.int .u32 4] 37)).alloc (.cells #[.int .i64 0] 3) = w1 at *
  refine (Ob.may_any hX.out hS.out (Sy.empty w1) (by simp)).mono ?_; rintro e w2 ⟨rfl, hE⟩
  rw [Ob.ex1]
  have hB := Lib.hid (hA1.trans (hE.mono hA1.size))
  clear hX hS hA1 hE
  have hA1 := (((Kept.refl w2).alloc #[.int .u32 8] 37).alloc #[.int .i64 0] 3).below
  have hX := Lib.hid (((Rg.one ((Has.new #[.int .u32 8] 37 w2).alloc (.cells #[.int .i64 0] 3))).rw (L := 4294967296) (by simp) : Wo _ _ _ _ _))
  have hS := Lib.hid (Rg.one (Has.new1 #[.int .i64 0] 3 w2 (.cells #[.int .u32 8] 37)))
  go_wp2_with (fail)
  generalize (w2.alloc (.cells #[.int .u32 8] 37)).alloc (.cells #[.int .i64 0] 3) = w3 at *
  refine (Ob.may_any hX.out hS.out (Sy.empty w3) (by simp)).mono ?_; rintro e w4 ⟨rfl, hE⟩
  rw [Ob.ex2]
  replace hB := Lib.hid (hB.out.trans ((hA1.trans (hE.mono hA1.size)).mono hB.out.size))
  clear hX hS hA1 hE
  go_wp2_with (first
    | (with_reducible refine want_do (o := ⟨some 18, _, _, _, _, _⟩) rfl (Ob.exec0 rfl) ?_)
    | (with_reducible refine want_do (o := ⟨some 19, _, _, _, _, _⟩) rfl (Ob.exec0 rfl) ?_)
    | fail)
  refine (Ob.same_any (Ob.nilW w4) (Ob.nilS w4) (Sy.empty w4) (Ob.nilW w4) (Ob.nilS w4) (Sy.empty w4)).mono ?_; rintro e w5 ⟨rfl, hE⟩
  rw [Ob.ex3]
  replace hB := Lib.hid (hB.out.trans (hE.mono hB.out.size))
  clear hE
  go_wp2
  go_ret
  exact ⟨rfl, hB.out⟩
end Go.Proofs.Ythnpdlejgpcgoaa
