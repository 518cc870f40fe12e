/-
  The contracts of Mnemonic and Of, the program's; shown, few.
-/
import Derived.Test.YtkkoihhkfophnaaDoorNa8
import Derived.Lib.Hide
import Derived.StillTailTactics
import Derived.BigQuiet
namespace Go.Proofs.YtkkoihhkfophnaaDoor
open Go.RowKit
set_option linter.unusedVariables false
set_option linter.unusedSimpArgs false
set_option maxRecDepth 100000
theorem Na.full_ms (k o : Int) (u : Bool) : Na.get Na.full (k, o, u) = Na.ms k o u := (Na.ms_get k o u).symm
set_option maxHeartbeats 1000000 in
set_option maxRecDepth 100000 in
theorem Na.mn_any {w : World} (hC : Na.Conds w) {k o : Int} (u : Bool) (hw : Na.Wf (k, o, u)) : Calls Tryd.prog 16 #[.int .i64 k, .int .i64 o, .bool u] w fun e w' => e = .returned (.string (Na.ms k o u)) ∧ Below w.heap.size w w' := by
  have C := Lib.hid (Na.mnemonics_any hC)
  clear hC
  go_enter Tryd.func16, Tryd.ntmps16
  go_wp2_with (fail)
  refine C.out.mono ?_; rintro e w2 ⟨B, n, rfl, hT, hB⟩
  have hr := Na.look_run hT hw
  rw [Na.full_ms] at hr
  unfold Na.kv at hr
  simp only [] at hr
  replace hT := Lib.hid hT
  replace hB := Lib.hid hB
  go_wp2
  go_ret
  exact ⟨rfl, hB.out⟩
end Go.Proofs.YtkkoihhkfophnaaDoor
