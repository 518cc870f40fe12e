/-
  Two plain facts: what Of tells of a mnemonic; the sixteen registers' names.
-/
import Derived.Test.YtkkoihhkfophnaaDoorNaB
namespace Go.Proofs.YtkkoihhkfophnaaDoor
open Go.RowKit
set_option linter.unusedVariables false
set_option linter.unusedSimpArgs false
set_option maxRecDepth 100000
theorem Na.of_ms {k o : Int} {u : Bool} (h : Na.mn k o u ≠ []) : Na.ofV (Na.of (L.bs (Na.ms k o u))) = .tuple #[.int .i64 k, .int .i64 o, .bool u, .bool true] := by
  rw [Na.ms_bs, Na.back h]; rfl
theorem Na.rs_all : ∀ k ∈ Na.sixteen, Na.reg (L.bs (Na.rs k)) = some k ∧ L.bs (Na.rs k) = Na.rn k ∧ Na.label (L.bs (Na.rs k)) = false ∧ (Na.rs k).size ≤ 3 ∧ Na.rs (16 + k) = ⟨#[]⟩ ∧ Na.rs (-1 - k) = ⟨#[]⟩ := by decide +kernel
end Go.Proofs.YtkkoihhkfophnaaDoor
