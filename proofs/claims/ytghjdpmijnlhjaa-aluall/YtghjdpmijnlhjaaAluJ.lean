/-
  Registers out of their cells.
-/
import Derived.Test.YtghjdpmijnlhjaaAluB
import Derived.WideShapes
import Derived.OpenShut
namespace Go.Proofs.Ytghjdpmijnlhjaa
open Go.ChangeShapes Go.WideShapes Go.RowKit
set_option linter.unusedVariables false
set_option linter.unusedSimpArgs false
def A.of (l : List Int) (h : Int) (n z c v : Bool) : A.Regs := ⟨fun j => l.getD j 0, h, n, z, c, v⟩
theorem A.word {a : Int} (w : (Lit.int .u32 a).wf = true) : 0 ≤ a ∧ a < 4294967296 := by have := bounds_u32 w; omega
end Go.Proofs.Ytghjdpmijnlhjaa
