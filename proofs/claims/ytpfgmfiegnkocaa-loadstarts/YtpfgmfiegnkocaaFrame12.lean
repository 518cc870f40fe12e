/-
  A place out of its cells: a base, a memory, inputs.
-/
import Derived.Test.YtpfgmfiegnkocaaM17
namespace Go.Proofs.Ytpfgmfiegnkocaa
open Go.ChangeShapes Go.WideShapes Go.RowKit
set_option linter.unusedVariables false
set_option linter.unusedSimpArgs false
set_option maxRecDepth 100000
def whereSh : Sh := .cons (.int .i64) (.cons (.int .i64) (.cons (.sl (.int .u32)) .nil))
theorem sees_where {w : World} {cs : List Value} (h : Sees w whereSh cs) : ∃ (b m : Int) (A' : Option Addr) (n c : Nat), (∃ is, Ws w A' n c is) ∧ cs = [.int .i64 b, .int .i64 m, .slice A' n c] := by
  obtain ⟨c0, d0, rfl, _, ⟨b, rfl, _⟩, h⟩ := h
  obtain ⟨c1, d1, rfl, _, ⟨m, rfl, _⟩, h⟩ := h
  obtain ⟨c2, d2, rfl, _, h2, h⟩ := h
  have hd : d2 = [] := h
  subst hd
  have hs : ∃ A n c, c2 = [.slice A n c] := by
    rcases h2 with rfl | ⟨ad, len, cap, rfl, _⟩
    · exact ⟨_, _, _, rfl⟩
    · exact ⟨_, _, _, rfl⟩
  obtain ⟨A', n, c, rfl⟩ := hs
  exact ⟨b, m, A', n, c, sees_ws h2, rfl⟩
end Go.Proofs.Ytpfgmfiegnkocaa
