/-
  The contracts of the function literals and of the loop of package field: which variables they turn.
-/
import Derived.Test.YtghjdpmijnlhjaaRows
import Derived.Test.YtghjdpmijnlhjaaKit0
import Derived.Test.YtghjdpmijnlhjaaField0
import Derived.WalkKit
import Derived.WalkSpells
import Derived.WalkLawsBesides
import Derived.Lib.Hide
namespace Go.Proofs.Ytghjdpmijnlhjaa
open Go.RowKit
set_option linter.unusedVariables false
set_option linter.unusedSimpArgs false
/-- two variables of a word each, that a function literal has taken -/
structure Two (Bp Bw : Nat) (p x : Int) (w : World) : Prop where
  hp : w.heap[Bp]? = some (.cells #[.int .u32 p] 22 (0, 0))
  hx : w.heap[Bw]? = some (.cells #[.int .u32 x] 22 (0, 0))
  ne : Bw ≠ Bp
theorem Two.store {Bp Bw : Nat} {p x : Int} {w : World} (h : Two Bp Bw p x w) (q : Int) : Two Bp Bw q x (w.setCell ⟨Bp, 0, none⟩ (.int .u32 q)) :=
  ⟨one_setCell h.hp, heap_setCell_keep h.hx h.ne _, h.ne⟩
theorem Two.drew {Bp Bw : Nat} {p x : Int} {w : World} (h : Two Bp Bw p x w) : Two Bp Bw p x w.drew := ⟨h.hp, h.hx, h.ne⟩
end Go.Proofs.Ytghjdpmijnlhjaa
