/-
  No cell of these rows narrows 'for every input' (looked for: loops, veiled, ifaces, maps, wideKeys, modest, calm, conditions, laid).
  DERIVED. THE GIVEN ROWS OF THIS SEAT. 4 by the template 'for every input the law returns true; each argument reads behind the call as it read before'; 0 by the template 'total and deterministic' (their statements: YthnpdlejgpcgoaaTotals.lean).
  GIVEN WITH THE SEED: the statements are not yours to turn. If you find one false, say at which input.
  Laid BY PROGRAM, IN A SANDBOX (cutbox-rows.mjs): the forced cells as the released guide's own fill.sh prints them over the translation ab13e288ddfc6c00… (all of the seat's roots in one cut). By AI agents, Wed Nov 11 2026. No macro, syntax, notation, axiom, sorry.
-/
import Derived.Test.YthnpdlejgpcgoaaChecked
import GoSem.Claim
import GoSem.ClaimJoined
import GoSem.ClaimMapViews
import Derived.JoinedTies
import Derived.KernelRfl
namespace Go.Proofs.Ythnpdlejgpcgoaa
/- THE CELL 'sum', in the pinned program and in every row, IS THE sha256 OF THE DUMP (.gsa) THAT YthnpdlejgpcgoaaProg.lean LOADS. Nothing in Lean hashes anything: it is a label: what it is worth is what the hold of that sum in a sandbox is worth. -/
noncomputable def Try.pinned : Pinned := { name := "ythnpdlejgpcgoaa", sum := "ab13e288ddfc6c003d0c693fb1ee7ed5e528efcea561dbed5819a09ec04cccb2", checked := Try.checked }
namespace Rows
def none {H : Type} : Left H := { results := [], args := [] }

/-- 'rivetlaw09.ObjectAll': WHATEVER THE INPUT: true; the input reads as it did. -/
def objectAllSpec : ChangeSpec := { name := "objectAll", fn := fun _ => fun
  | [d1, d2] => { results := [.lit (.bool true)], args := [d1, d2] }
  | _ => none }
def objectAllRow : OpenClaim := { program := "ythnpdlejgpcgoaa", sum := "ab13e288ddfc6c003d0c693fb1ee7ed5e528efcea561dbed5819a09ec04cccb2", func := "rivet/rivetlaw09.ObjectAll", spec := "objectAll", unfollowed := true, recurses := true, apart := false }
def ObjectAllSaid : Prop := objectAllRow.holds Try.pinned (OpenSpec.ofChange objectAllSpec)

/-- ITS FALSE NEIGHBOUR: 'it returns false'. Refute it at one input. -/
def objectAllWrong : ChangeSpec := { name := "objectAll", fn := fun _ => fun
  | [d1, d2] => { results := [.lit (.bool false)], args := [d1, d2] }
  | _ => none }
def ObjectAllWrongFalsely : Prop := objectAllRow.holds Try.pinned (OpenSpec.ofChange objectAllWrong)

/-- 'rivetlaw09.ObjectSpoilt': WHATEVER THE INPUT: true; the input reads as it did. -/
def objectSpoiltSpec : ChangeSpec := { name := "objectSpoilt", fn := fun _ => fun
  | [d1, d2, d3] => { results := [.lit (.bool true)], args := [d1, d2, d3] }
  | _ => none }
def objectSpoiltRow : OpenClaim := { program := "ythnpdlejgpcgoaa", sum := "ab13e288ddfc6c003d0c693fb1ee7ed5e528efcea561dbed5819a09ec04cccb2", func := "rivet/rivetlaw09.ObjectSpoilt", spec := "objectSpoilt", unfollowed := true, recurses := true, apart := false }
def ObjectSpoiltSaid : Prop := objectSpoiltRow.holds Try.pinned (OpenSpec.ofChange objectSpoiltSpec)

/-- ITS FALSE NEIGHBOUR: 'it returns false'. Refute it at one input. -/
def objectSpoiltWrong : ChangeSpec := { name := "objectSpoilt", fn := fun _ => fun
  | [d1, d2, d3] => { results := [.lit (.bool false)], args := [d1, d2, d3] }
  | _ => none }
def ObjectSpoiltWrongFalsely : Prop := objectSpoiltRow.holds Try.pinned (OpenSpec.ofChange objectSpoiltWrong)

/-- 'rivetlaw09.ObjectParts': WHATEVER THE INPUT: true; the input reads as it did. -/
def objectPartsSpec : ChangeSpec := { name := "objectParts", fn := fun _ => fun
  | [d1, d2] => { results := [.lit (.bool true)], args := [d1, d2] }
  | _ => none }
def objectPartsRow : OpenClaim := { program := "ythnpdlejgpcgoaa", sum := "ab13e288ddfc6c003d0c693fb1ee7ed5e528efcea561dbed5819a09ec04cccb2", func := "rivet/rivetlaw09.ObjectParts", spec := "objectParts", unfollowed := true, recurses := true, apart := false }
def ObjectPartsSaid : Prop := objectPartsRow.holds Try.pinned (OpenSpec.ofChange objectPartsSpec)

/-- ITS FALSE NEIGHBOUR: 'it returns false'. Refute it at one input. -/
def objectPartsWrong : ChangeSpec := { name := "objectParts", fn := fun _ => fun
  | [d1, d2] => { results := [.lit (.bool false)], args := [d1, d2] }
  | _ => none }
def ObjectPartsWrongFalsely : Prop := objectPartsRow.holds Try.pinned (OpenSpec.ofChange objectPartsWrong)

/-- 'rivetlaw09.ObjectUnlike': WHATEVER THE INPUT: true; the input reads as it did. -/
def objectUnlikeSpec : ChangeSpec := { name := "objectUnlike", fn := fun _ => fun
  | [d1, d2, d3] => { results := [.lit (.bool true)], args := [d1, d2, d3] }
  | _ => none }
def objectUnlikeRow : OpenClaim := { program := "ythnpdlejgpcgoaa", sum := "ab13e288ddfc6c003d0c693fb1ee7ed5e528efcea561dbed5819a09ec04cccb2", func := "rivet/rivetlaw09.ObjectUnlike", spec := "objectUnlike", unfollowed := true, recurses := true, apart := false }
def ObjectUnlikeSaid : Prop := objectUnlikeRow.holds Try.pinned (OpenSpec.ofChange objectUnlikeSpec)

/-- ITS FALSE NEIGHBOUR: 'it returns false'. Refute it at one input. -/
def objectUnlikeWrong : ChangeSpec := { name := "objectUnlike", fn := fun _ => fun
  | [d1, d2, d3] => { results := [.lit (.bool false)], args := [d1, d2, d3] }
  | _ => none }
def ObjectUnlikeWrongFalsely : Prop := objectUnlikeRow.holds Try.pinned (OpenSpec.ofChange objectUnlikeWrong)

/- THE SECOND FORM. 'bulk': how many values and letters a reading holds, each counted each time it is reached (what is shared counts as often as it is met; a slice's spare places count too). A statement '..UptoSaid' is the law's where the arguments, and the package variables that the reading takes, are together of bulk at most 1048576: NARROWER than '..Said'. Prove '..Said' where nothing that the law and all that it calls make is longer than what came in: it says more and counts as full. Else prove '..UptoSaid'. A law counts once. -/
mutual
def uptoBulk {H : Type} : DataW H → Nat
  | .lit (.string bytes) => bytes.length + 1
  | .lit _ => 1
  | .nil => 1
  | .ptr d => uptoBulk d + 1
  | .slice elems spare => uptoBulkAll elems + uptoBulkAll spare + 1
  | .agg parts => uptoBulkAll parts + 1
  | .iface _ d => uptoBulk d + 1
  | .map entries => uptoBulkEntries entries + 1
  | .held _ => 1
def uptoBulkAll {H : Type} : List (DataW H) → Nat
  | [] => 0
  | d :: r => uptoBulk d + uptoBulkAll r
def uptoBulkEntries {H : Type} : List (Lit × DataW H) → Nat
  | [] => 0
  | x :: r => uptoBulkEntry x + uptoBulkEntries r
def uptoBulkEntry {H : Type} : Lit × DataW H → Nat
  | (.string bytes, d) => bytes.length + uptoBulk d + 1
  | (_, d) => uptoBulk d + 1
 end
def uptoSmall : (H : Type) → List (DataW H) → Bool := fun _ ds => decide (uptoBulkAll ds ≤ 1048576)
def OpenSpec.upto (s : _root_.Go.ChangeSpec) : _root_.Go.OpenSpec := { _root_.Go.OpenSpec.ofChange s with cond := some uptoSmall }

/-- 'rivetlaw09.ObjectAll', WHERE WHAT IT READS IS OF BULK AT MOST 1048576: true; the input reads as it did. -/
def objectAllUptoRow : OpenClaim := { program := "ythnpdlejgpcgoaa", sum := "ab13e288ddfc6c003d0c693fb1ee7ed5e528efcea561dbed5819a09ec04cccb2", func := "rivet/rivetlaw09.ObjectAll", spec := "objectAll", unfollowed := true, recurses := true, apart := false, narrowed := true }
def ObjectAllUptoSaid : Prop := objectAllUptoRow.holds Try.pinned (OpenSpec.upto objectAllSpec)

/-- 'rivetlaw09.ObjectSpoilt', WHERE WHAT IT READS IS OF BULK AT MOST 1048576: true; the input reads as it did. -/
def objectSpoiltUptoRow : OpenClaim := { program := "ythnpdlejgpcgoaa", sum := "ab13e288ddfc6c003d0c693fb1ee7ed5e528efcea561dbed5819a09ec04cccb2", func := "rivet/rivetlaw09.ObjectSpoilt", spec := "objectSpoilt", unfollowed := true, recurses := true, apart := false, narrowed := true }
def ObjectSpoiltUptoSaid : Prop := objectSpoiltUptoRow.holds Try.pinned (OpenSpec.upto objectSpoiltSpec)

/-- 'rivetlaw09.ObjectParts', WHERE WHAT IT READS IS OF BULK AT MOST 1048576: true; the input reads as it did. -/
def objectPartsUptoRow : OpenClaim := { program := "ythnpdlejgpcgoaa", sum := "ab13e288ddfc6c003d0c693fb1ee7ed5e528efcea561dbed5819a09ec04cccb2", func := "rivet/rivetlaw09.ObjectParts", spec := "objectParts", unfollowed := true, recurses := true, apart := false, narrowed := true }
def ObjectPartsUptoSaid : Prop := objectPartsUptoRow.holds Try.pinned (OpenSpec.upto objectPartsSpec)

/-- 'rivetlaw09.ObjectUnlike', WHERE WHAT IT READS IS OF BULK AT MOST 1048576: true; the input reads as it did. -/
def objectUnlikeUptoRow : OpenClaim := { program := "ythnpdlejgpcgoaa", sum := "ab13e288ddfc6c003d0c693fb1ee7ed5e528efcea561dbed5819a09ec04cccb2", func := "rivet/rivetlaw09.ObjectUnlike", spec := "objectUnlike", unfollowed := true, recurses := true, apart := false, narrowed := true }
def ObjectUnlikeUptoSaid : Prop := objectUnlikeUptoRow.holds Try.pinned (OpenSpec.upto objectUnlikeSpec)

end Rows
end Go.Proofs.Ythnpdlejgpcgoaa
