/-
  The contract of the document's Pack.
-/
import Derived.Test.YthnpdlejgpcgoaaCh3
namespace Go.Proofs.Ythnpdlejgpcgoaa
open Go.RowKit
set_option linter.unusedVariables false
set_option linter.unusedSimpArgs false
set_option maxRecDepth 100000
theorem Ch.rsite_nat {n : Nat} {ss : List Int} (h : Ch.Rises n ss) (k : Nat) (hk : k < ss.length) : ∃ s : Nat, ss.getD k 0 = (s : Int) ∧ s < n ∧ s ≤ 65534 := by
  have h1 := Ch.at_ge h k hk
  exact ⟨(ss.getD k 0).toNat, by omega, by omega, by omega⟩
end Go.Proofs.Ythnpdlejgpcgoaa
