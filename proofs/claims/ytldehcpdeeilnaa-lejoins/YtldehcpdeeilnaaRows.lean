/-
  No cell of these rows narrows 'for every input' (looked for: loops, veiled, ifaces, maps, wideKeys, modest, calm, conditions, laid).
  DERIVED. THE GIVEN ROWS OF THIS SEAT. 5 by the template 'for every input the law returns true; each argument reads behind the call as it read before'; 0 by the template 'total and deterministic' (their statements: YtldehcpdeeilnaaTotals.lean).
  GIVEN WITH THE SEED: the statements are not yours to turn. If you find one false, say at which input.
  Laid BY PROGRAM, IN A SANDBOX (cutbox-rows.mjs): the forced cells as the released guide's own fill.sh prints them over the translation 1dd556bd97e5f798… (all of the seat's roots in one cut). By AI agents, Wed Nov 11 2026. No macro, syntax, notation, axiom, sorry.
-/
import Derived.Test.YtldehcpdeeilnaaChecked
import GoSem.Claim
import GoSem.ClaimJoined
import GoSem.ClaimMapViews
import Derived.JoinedTies
import Derived.KernelRfl
namespace Go.Proofs.Ytldehcpdeeilnaa
/- THE CELL 'sum', in the pinned program and in every row, IS THE sha256 OF THE DUMP (.gsa) THAT YtldehcpdeeilnaaProg.lean LOADS. Nothing in Lean hashes anything: it is a label: what it is worth is what the hold of that sum in a sandbox is worth. -/
noncomputable def Try.pinned : Pinned := { name := "ytldehcpdeeilnaa", sum := "1dd556bd97e5f7981611090e0ca6bdefc8b5ed5d5b55c7ed1e4d9bddf39d1c7b", checked := Try.checked }
namespace Rows
def none {H : Type} : Left H := { results := [], args := [] }

/-- 'rivetlaw07.LeAll': WHATEVER THE INPUT: true; the input reads as it did. -/
def leAllSpec : ChangeSpec := { name := "leAll", fn := fun _ => fun
  | [d1, d2, d3] => { results := [.lit (.bool true)], args := [d1, d2, d3] }
  | _ => none }
def leAllRow : OpenClaim := { program := "ytldehcpdeeilnaa", sum := "1dd556bd97e5f7981611090e0ca6bdefc8b5ed5d5b55c7ed1e4d9bddf39d1c7b", func := "rivet/rivetlaw07.LeAll", spec := "leAll", apart := false }
def LeAllSaid : Prop := leAllRow.holds Try.pinned (OpenSpec.ofChange leAllSpec)

/-- ITS FALSE NEIGHBOUR: 'it returns false'. Refute it at one input. -/
def leAllWrong : ChangeSpec := { name := "leAll", fn := fun _ => fun
  | [d1, d2, d3] => { results := [.lit (.bool false)], args := [d1, d2, d3] }
  | _ => none }
def LeAllWrongFalsely : Prop := leAllRow.holds Try.pinned (OpenSpec.ofChange leAllWrong)

/-- 'rivetlaw07.LeNames': WHATEVER THE INPUT: true; the input reads as it did. -/
def leNamesSpec : ChangeSpec := { name := "leNames", fn := fun _ => fun
  | [d1, d2] => { results := [.lit (.bool true)], args := [d1, d2] }
  | _ => none }
def leNamesRow : OpenClaim := { program := "ytldehcpdeeilnaa", sum := "1dd556bd97e5f7981611090e0ca6bdefc8b5ed5d5b55c7ed1e4d9bddf39d1c7b", func := "rivet/rivetlaw07.LeNames", spec := "leNames", apart := false }
def LeNamesSaid : Prop := leNamesRow.holds Try.pinned (OpenSpec.ofChange leNamesSpec)

/-- ITS FALSE NEIGHBOUR: 'it returns false'. Refute it at one input. -/
def leNamesWrong : ChangeSpec := { name := "leNames", fn := fun _ => fun
  | [d1, d2] => { results := [.lit (.bool false)], args := [d1, d2] }
  | _ => none }
def LeNamesWrongFalsely : Prop := leNamesRow.holds Try.pinned (OpenSpec.ofChange leNamesWrong)

/-- 'rivetlaw07.LeBack': WHATEVER THE INPUT: true; the input reads as it did. -/
def leBackSpec : ChangeSpec := { name := "leBack", fn := fun _ => fun
  | [d1, d2, d3] => { results := [.lit (.bool true)], args := [d1, d2, d3] }
  | _ => none }
def leBackRow : OpenClaim := { program := "ytldehcpdeeilnaa", sum := "1dd556bd97e5f7981611090e0ca6bdefc8b5ed5d5b55c7ed1e4d9bddf39d1c7b", func := "rivet/rivetlaw07.LeBack", spec := "leBack", apart := false }
def LeBackSaid : Prop := leBackRow.holds Try.pinned (OpenSpec.ofChange leBackSpec)

/-- ITS FALSE NEIGHBOUR: 'it returns false'. Refute it at one input. -/
def leBackWrong : ChangeSpec := { name := "leBack", fn := fun _ => fun
  | [d1, d2, d3] => { results := [.lit (.bool false)], args := [d1, d2, d3] }
  | _ => none }
def LeBackWrongFalsely : Prop := leBackRow.holds Try.pinned (OpenSpec.ofChange leBackWrong)

/-- 'rivetlaw07.LeTaken': WHATEVER THE INPUT: true; the input reads as it did. -/
def leTakenSpec : ChangeSpec := { name := "leTaken", fn := fun _ => fun
  | [d1, d2] => { results := [.lit (.bool true)], args := [d1, d2] }
  | _ => none }
def leTakenRow : OpenClaim := { program := "ytldehcpdeeilnaa", sum := "1dd556bd97e5f7981611090e0ca6bdefc8b5ed5d5b55c7ed1e4d9bddf39d1c7b", func := "rivet/rivetlaw07.LeTaken", spec := "leTaken", apart := false }
def LeTakenSaid : Prop := leTakenRow.holds Try.pinned (OpenSpec.ofChange leTakenSpec)

/-- ITS FALSE NEIGHBOUR: 'it returns false'. Refute it at one input. -/
def leTakenWrong : ChangeSpec := { name := "leTaken", fn := fun _ => fun
  | [d1, d2] => { results := [.lit (.bool false)], args := [d1, d2] }
  | _ => none }
def LeTakenWrongFalsely : Prop := leTakenRow.holds Try.pinned (OpenSpec.ofChange leTakenWrong)

/-- 'rivetlaw07.LeJoins': WHATEVER THE INPUT: true; the input reads as it did. -/
def leJoinsSpec : ChangeSpec := { name := "leJoins", fn := fun _ => fun
  | [d1, d2, d3] => { results := [.lit (.bool true)], args := [d1, d2, d3] }
  | _ => none }
def leJoinsRow : OpenClaim := { program := "ytldehcpdeeilnaa", sum := "1dd556bd97e5f7981611090e0ca6bdefc8b5ed5d5b55c7ed1e4d9bddf39d1c7b", func := "rivet/rivetlaw07.LeJoins", spec := "leJoins", apart := false }
def LeJoinsSaid : Prop := leJoinsRow.holds Try.pinned (OpenSpec.ofChange leJoinsSpec)

/-- ITS FALSE NEIGHBOUR: 'it returns false'. Refute it at one input. -/
def leJoinsWrong : ChangeSpec := { name := "leJoins", fn := fun _ => fun
  | [d1, d2, d3] => { results := [.lit (.bool false)], args := [d1, d2, d3] }
  | _ => none }
def LeJoinsWrongFalsely : Prop := leJoinsRow.holds Try.pinned (OpenSpec.ofChange leJoinsWrong)

/- THE SECOND FORM. 'bulk': how many values and letters a reading holds, each counted each time it is reached (what is shared counts as often as it is met; a slice's spare places count too). A statement '..UptoSaid' is the law's where the arguments, and the package variables that the reading takes, are together of bulk at most 1048576: NARROWER than '..Said'. Prove '..Said' where nothing that the law and all that it calls make is longer than what came in: it says more and counts as full. Else prove '..UptoSaid'. A law counts once. -/
mutual
def uptoBulk {H : Type} : DataW H → Nat
  | .lit (.string bytes) => bytes.length + 1
  | .lit _ => 1
  | .nil => 1
  | .ptr d => uptoBulk d + 1
  | .slice elems spare => uptoBulkAll elems + uptoBulkAll spare + 1
  | .agg parts => uptoBulkAll parts + 1
  | .iface _ d => uptoBulk d + 1
  | .map entries => uptoBulkEntries entries + 1
  | .held _ => 1
def uptoBulkAll {H : Type} : List (DataW H) → Nat
  | [] => 0
  | d :: r => uptoBulk d + uptoBulkAll r
def uptoBulkEntries {H : Type} : List (Lit × DataW H) → Nat
  | [] => 0
  | x :: r => uptoBulkEntry x + uptoBulkEntries r
def uptoBulkEntry {H : Type} : Lit × DataW H → Nat
  | (.string bytes, d) => bytes.length + uptoBulk d + 1
  | (_, d) => uptoBulk d + 1
 end
def uptoSmall : (H : Type) → List (DataW H) → Bool := fun _ ds => decide (uptoBulkAll ds ≤ 1048576)
def OpenSpec.upto (s : _root_.Go.ChangeSpec) : _root_.Go.OpenSpec := { _root_.Go.OpenSpec.ofChange s with cond := some uptoSmall }

/-- 'rivetlaw07.LeAll', WHERE WHAT IT READS IS OF BULK AT MOST 1048576: true; the input reads as it did. -/
def leAllUptoRow : OpenClaim := { program := "ytldehcpdeeilnaa", sum := "1dd556bd97e5f7981611090e0ca6bdefc8b5ed5d5b55c7ed1e4d9bddf39d1c7b", func := "rivet/rivetlaw07.LeAll", spec := "leAll", apart := false, narrowed := true }
def LeAllUptoSaid : Prop := leAllUptoRow.holds Try.pinned (OpenSpec.upto leAllSpec)

/-- 'rivetlaw07.LeNames', WHERE WHAT IT READS IS OF BULK AT MOST 1048576: true; the input reads as it did. -/
def leNamesUptoRow : OpenClaim := { program := "ytldehcpdeeilnaa", sum := "1dd556bd97e5f7981611090e0ca6bdefc8b5ed5d5b55c7ed1e4d9bddf39d1c7b", func := "rivet/rivetlaw07.LeNames", spec := "leNames", apart := false, narrowed := true }
def LeNamesUptoSaid : Prop := leNamesUptoRow.holds Try.pinned (OpenSpec.upto leNamesSpec)

/-- 'rivetlaw07.LeBack', WHERE WHAT IT READS IS OF BULK AT MOST 1048576: true; the input reads as it did. -/
def leBackUptoRow : OpenClaim := { program := "ytldehcpdeeilnaa", sum := "1dd556bd97e5f7981611090e0ca6bdefc8b5ed5d5b55c7ed1e4d9bddf39d1c7b", func := "rivet/rivetlaw07.LeBack", spec := "leBack", apart := false, narrowed := true }
def LeBackUptoSaid : Prop := leBackUptoRow.holds Try.pinned (OpenSpec.upto leBackSpec)

/-- 'rivetlaw07.LeTaken', WHERE WHAT IT READS IS OF BULK AT MOST 1048576: true; the input reads as it did. -/
def leTakenUptoRow : OpenClaim := { program := "ytldehcpdeeilnaa", sum := "1dd556bd97e5f7981611090e0ca6bdefc8b5ed5d5b55c7ed1e4d9bddf39d1c7b", func := "rivet/rivetlaw07.LeTaken", spec := "leTaken", apart := false, narrowed := true }
def LeTakenUptoSaid : Prop := leTakenUptoRow.holds Try.pinned (OpenSpec.upto leTakenSpec)

/-- 'rivetlaw07.LeJoins', WHERE WHAT IT READS IS OF BULK AT MOST 1048576: true; the input reads as it did. -/
def leJoinsUptoRow : OpenClaim := { program := "ytldehcpdeeilnaa", sum := "1dd556bd97e5f7981611090e0ca6bdefc8b5ed5d5b55c7ed1e4d9bddf39d1c7b", func := "rivet/rivetlaw07.LeJoins", spec := "leJoins", apart := false, narrowed := true }
def LeJoinsUptoSaid : Prop := leJoinsUptoRow.holds Try.pinned (OpenSpec.upto leJoinsSpec)

end Rows
end Go.Proofs.Ytldehcpdeeilnaa
