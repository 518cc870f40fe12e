/-
  No cell of these rows narrows 'for every input' (looked for: loops, veiled, ifaces, maps, wideKeys, modest, calm, conditions, laid).
  DERIVED. THE GIVEN ROWS OF THIS SEAT. 5 by the template 'for every input the law returns true; each argument reads behind the call as it read before'; 0 by the template 'total and deterministic' (their statements: YtgmiicincdmjdaaTotals.lean).
  GIVEN WITH THE SEED: the statements are not yours to turn. If you find one false, say at which input.
  Laid BY PROGRAM, IN A SANDBOX (cutbox-rows.mjs): the forced cells as the released guide's own fill.sh prints them over the translation 10955de464de4a7c… (all of the seat's roots in one cut). By AI agents, Wed Nov 11 2026. No macro, syntax, notation, axiom, sorry.
-/
import Derived.Test.YtgmiicincdmjdaaChecked
import GoSem.Claim
import GoSem.ClaimJoined
import GoSem.ClaimMapViews
import Derived.JoinedTies
import Derived.KernelRfl
namespace Go.Proofs.Ytgmiicincdmjdaa
/- THE CELL 'sum', in the pinned program and in every row, IS THE sha256 OF THE DUMP (.gsa) THAT YtgmiicincdmjdaaProg.lean LOADS. Nothing in Lean hashes anything: it is a label: what it is worth is what the hold of that sum in a sandbox is worth. -/
noncomputable def Try.pinned : Pinned := { name := "ytgmiicincdmjdaa", sum := "10955de464de4a7c12b43aee8d9892d8fc81db9b211602af1f2d1c597d4ad206", checked := Try.checked }
namespace Rows
def none {H : Type} : Left H := { results := [], args := [] }

/-- 'rivetlaw08.ChainAll': WHATEVER THE INPUT: true; the input reads as it did. -/
def chainAllSpec : ChangeSpec := { name := "chainAll", fn := fun _ => fun
  | [d1, d2, d3] => { results := [.lit (.bool true)], args := [d1, d2, d3] }
  | _ => none }
def chainAllRow : OpenClaim := { program := "ytgmiicincdmjdaa", sum := "10955de464de4a7c12b43aee8d9892d8fc81db9b211602af1f2d1c597d4ad206", func := "rivet/rivetlaw08.ChainAll", spec := "chainAll", apart := false }
def ChainAllSaid : Prop := chainAllRow.holds Try.pinned (OpenSpec.ofChange chainAllSpec)

/-- ITS FALSE NEIGHBOUR: 'it returns false'. Refute it at one input. -/
def chainAllWrong : ChangeSpec := { name := "chainAll", fn := fun _ => fun
  | [d1, d2, d3] => { results := [.lit (.bool false)], args := [d1, d2, d3] }
  | _ => none }
def ChainAllWrongFalsely : Prop := chainAllRow.holds Try.pinned (OpenSpec.ofChange chainAllWrong)

/-- 'rivetlaw08.ChainBack': WHATEVER THE INPUT: true; the input reads as it did. -/
def chainBackSpec : ChangeSpec := { name := "chainBack", fn := fun _ => fun
  | [d1, d2] => { results := [.lit (.bool true)], args := [d1, d2] }
  | _ => none }
def chainBackRow : OpenClaim := { program := "ytgmiicincdmjdaa", sum := "10955de464de4a7c12b43aee8d9892d8fc81db9b211602af1f2d1c597d4ad206", func := "rivet/rivetlaw08.ChainBack", spec := "chainBack", apart := false }
def ChainBackSaid : Prop := chainBackRow.holds Try.pinned (OpenSpec.ofChange chainBackSpec)

/-- ITS FALSE NEIGHBOUR: 'it returns false'. Refute it at one input. -/
def chainBackWrong : ChangeSpec := { name := "chainBack", fn := fun _ => fun
  | [d1, d2] => { results := [.lit (.bool false)], args := [d1, d2] }
  | _ => none }
def ChainBackWrongFalsely : Prop := chainBackRow.holds Try.pinned (OpenSpec.ofChange chainBackWrong)

/-- 'rivetlaw08.ChainTaken': WHATEVER THE INPUT: true; the input reads as it did. -/
def chainTakenSpec : ChangeSpec := { name := "chainTaken", fn := fun _ => fun
  | [d1, d2, d3] => { results := [.lit (.bool true)], args := [d1, d2, d3] }
  | _ => none }
def chainTakenRow : OpenClaim := { program := "ytgmiicincdmjdaa", sum := "10955de464de4a7c12b43aee8d9892d8fc81db9b211602af1f2d1c597d4ad206", func := "rivet/rivetlaw08.ChainTaken", spec := "chainTaken", apart := false }
def ChainTakenSaid : Prop := chainTakenRow.holds Try.pinned (OpenSpec.ofChange chainTakenSpec)

/-- ITS FALSE NEIGHBOUR: 'it returns false'. Refute it at one input. -/
def chainTakenWrong : ChangeSpec := { name := "chainTaken", fn := fun _ => fun
  | [d1, d2, d3] => { results := [.lit (.bool false)], args := [d1, d2, d3] }
  | _ => none }
def ChainTakenWrongFalsely : Prop := chainTakenRow.holds Try.pinned (OpenSpec.ofChange chainTakenWrong)

/-- 'rivetlaw08.ChainEmpty': WHATEVER THE INPUT: true; the input reads as it did. -/
def chainEmptySpec : ChangeSpec := { name := "chainEmpty", fn := fun _ => fun
  | [d1, d2] => { results := [.lit (.bool true)], args := [d1, d2] }
  | _ => none }
def chainEmptyRow : OpenClaim := { program := "ytgmiicincdmjdaa", sum := "10955de464de4a7c12b43aee8d9892d8fc81db9b211602af1f2d1c597d4ad206", func := "rivet/rivetlaw08.ChainEmpty", spec := "chainEmpty", apart := false }
def ChainEmptySaid : Prop := chainEmptyRow.holds Try.pinned (OpenSpec.ofChange chainEmptySpec)

/-- ITS FALSE NEIGHBOUR: 'it returns false'. Refute it at one input. -/
def chainEmptyWrong : ChangeSpec := { name := "chainEmpty", fn := fun _ => fun
  | [d1, d2] => { results := [.lit (.bool false)], args := [d1, d2] }
  | _ => none }
def ChainEmptyWrongFalsely : Prop := chainEmptyRow.holds Try.pinned (OpenSpec.ofChange chainEmptyWrong)

/-- 'rivetlaw08.ChainOne': WHATEVER THE INPUT: true; the input reads as it did. -/
def chainOneSpec : ChangeSpec := { name := "chainOne", fn := fun _ => fun
  | [d1, d2, d3] => { results := [.lit (.bool true)], args := [d1, d2, d3] }
  | _ => none }
def chainOneRow : OpenClaim := { program := "ytgmiicincdmjdaa", sum := "10955de464de4a7c12b43aee8d9892d8fc81db9b211602af1f2d1c597d4ad206", func := "rivet/rivetlaw08.ChainOne", spec := "chainOne", apart := false }
def ChainOneSaid : Prop := chainOneRow.holds Try.pinned (OpenSpec.ofChange chainOneSpec)

/-- ITS FALSE NEIGHBOUR: 'it returns false'. Refute it at one input. -/
def chainOneWrong : ChangeSpec := { name := "chainOne", fn := fun _ => fun
  | [d1, d2, d3] => { results := [.lit (.bool false)], args := [d1, d2, d3] }
  | _ => none }
def ChainOneWrongFalsely : Prop := chainOneRow.holds Try.pinned (OpenSpec.ofChange chainOneWrong)

/- THE SECOND FORM. 'bulk': how many values and letters a reading holds, each counted each time it is reached (what is shared counts as often as it is met; a slice's spare places count too). A statement '..UptoSaid' is the law's where the arguments, and the package variables that the reading takes, are together of bulk at most 1048576: NARROWER than '..Said'. Prove '..Said' where nothing that the law and all that it calls make is longer than what came in: it says more and counts as full. Else prove '..UptoSaid'. A law counts once. -/
mutual
def uptoBulk {H : Type} : DataW H → Nat
  | .lit (.string bytes) => bytes.length + 1
  | .lit _ => 1
  | .nil => 1
  | .ptr d => uptoBulk d + 1
  | .slice elems spare => uptoBulkAll elems + uptoBulkAll spare + 1
  | .agg parts => uptoBulkAll parts + 1
  | .iface _ d => uptoBulk d + 1
  | .map entries => uptoBulkEntries entries + 1
  | .held _ => 1
def uptoBulkAll {H : Type} : List (DataW H) → Nat
  | [] => 0
  | d :: r => uptoBulk d + uptoBulkAll r
def uptoBulkEntries {H : Type} : List (Lit × DataW H) → Nat
  | [] => 0
  | x :: r => uptoBulkEntry x + uptoBulkEntries r
def uptoBulkEntry {H : Type} : Lit × DataW H → Nat
  | (.string bytes, d) => bytes.length + uptoBulk d + 1
  | (_, d) => uptoBulk d + 1
 end
def uptoSmall : (H : Type) → List (DataW H) → Bool := fun _ ds => decide (uptoBulkAll ds ≤ 1048576)
def OpenSpec.upto (s : _root_.Go.ChangeSpec) : _root_.Go.OpenSpec := { _root_.Go.OpenSpec.ofChange s with cond := some uptoSmall }

/-- 'rivetlaw08.ChainAll', WHERE WHAT IT READS IS OF BULK AT MOST 1048576: true; the input reads as it did. -/
def chainAllUptoRow : OpenClaim := { program := "ytgmiicincdmjdaa", sum := "10955de464de4a7c12b43aee8d9892d8fc81db9b211602af1f2d1c597d4ad206", func := "rivet/rivetlaw08.ChainAll", spec := "chainAll", apart := false, narrowed := true }
def ChainAllUptoSaid : Prop := chainAllUptoRow.holds Try.pinned (OpenSpec.upto chainAllSpec)

/-- 'rivetlaw08.ChainBack', WHERE WHAT IT READS IS OF BULK AT MOST 1048576: true; the input reads as it did. -/
def chainBackUptoRow : OpenClaim := { program := "ytgmiicincdmjdaa", sum := "10955de464de4a7c12b43aee8d9892d8fc81db9b211602af1f2d1c597d4ad206", func := "rivet/rivetlaw08.ChainBack", spec := "chainBack", apart := false, narrowed := true }
def ChainBackUptoSaid : Prop := chainBackUptoRow.holds Try.pinned (OpenSpec.upto chainBackSpec)

/-- 'rivetlaw08.ChainTaken', WHERE WHAT IT READS IS OF BULK AT MOST 1048576: true; the input reads as it did. -/
def chainTakenUptoRow : OpenClaim := { program := "ytgmiicincdmjdaa", sum := "10955de464de4a7c12b43aee8d9892d8fc81db9b211602af1f2d1c597d4ad206", func := "rivet/rivetlaw08.ChainTaken", spec := "chainTaken", apart := false, narrowed := true }
def ChainTakenUptoSaid : Prop := chainTakenUptoRow.holds Try.pinned (OpenSpec.upto chainTakenSpec)

/-- 'rivetlaw08.ChainEmpty', WHERE WHAT IT READS IS OF BULK AT MOST 1048576: true; the input reads as it did. -/
def chainEmptyUptoRow : OpenClaim := { program := "ytgmiicincdmjdaa", sum := "10955de464de4a7c12b43aee8d9892d8fc81db9b211602af1f2d1c597d4ad206", func := "rivet/rivetlaw08.ChainEmpty", spec := "chainEmpty", apart := false, narrowed := true }
def ChainEmptyUptoSaid : Prop := chainEmptyUptoRow.holds Try.pinned (OpenSpec.upto chainEmptySpec)

/-- 'rivetlaw08.ChainOne', WHERE WHAT IT READS IS OF BULK AT MOST 1048576: true; the input reads as it did. -/
def chainOneUptoRow : OpenClaim := { program := "ytgmiicincdmjdaa", sum := "10955de464de4a7c12b43aee8d9892d8fc81db9b211602af1f2d1c597d4ad206", func := "rivet/rivetlaw08.ChainOne", spec := "chainOne", apart := false, narrowed := true }
def ChainOneUptoSaid : Prop := chainOneUptoRow.holds Try.pinned (OpenSpec.upto chainOneSpec)

end Rows
end Go.Proofs.Ytgmiicincdmjdaa
