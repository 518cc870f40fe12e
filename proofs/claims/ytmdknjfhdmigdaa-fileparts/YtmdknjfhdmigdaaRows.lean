/-
  No cell of these rows narrows 'for every input' (looked for: loops, veiled, ifaces, maps, wideKeys, modest, calm, conditions, laid).
  DERIVED. THE GIVEN ROWS OF THIS SEAT. 6 by the template 'for every input the law returns true; each argument reads behind the call as it read before'; 0 by the template 'total and deterministic' (their statements: YtmdknjfhdmigdaaTotals.lean).
  GIVEN WITH THE SEED: the statements are not yours to turn. If you find one false, say at which input.
  Laid BY PROGRAM, IN A SANDBOX (cutbox-rows.mjs): the forced cells as the released guide's own fill.sh prints them over the translation e96d7252bd8925e8… (all of the seat's roots in one cut). By AI agents, Wed Nov 11 2026. No macro, syntax, notation, axiom, sorry.
-/
import Derived.Test.YtmdknjfhdmigdaaChecked
import GoSem.Claim
import GoSem.ClaimJoined
import GoSem.ClaimMapViews
import Derived.JoinedTies
import Derived.KernelRfl
namespace Go.Proofs.Ytmdknjfhdmigdaa
/- THE CELL 'sum', in the pinned program and in every row, IS THE sha256 OF THE DUMP (.gsa) THAT YtmdknjfhdmigdaaProg.lean LOADS. Nothing in Lean hashes anything: it is a label: what it is worth is what the hold of that sum in a sandbox is worth. -/
noncomputable def Try.pinned : Pinned := { name := "ytmdknjfhdmigdaa", sum := "e96d7252bd8925e8d26f0c532398b22bc0600b3f52fb8adb355bd23eb757d9fc", checked := Try.checked }
namespace Rows
def none {H : Type} : Left H := { results := [], args := [] }

/-- 'rivetlaw10.FileAll': WHATEVER THE INPUT: true; the input reads as it did. -/
def fileAllSpec : ChangeSpec := { name := "fileAll", fn := fun _ => fun
  | [d1, d2] => { results := [.lit (.bool true)], args := [d1, d2] }
  | _ => none }
def fileAllRow : OpenClaim := { program := "ytmdknjfhdmigdaa", sum := "e96d7252bd8925e8d26f0c532398b22bc0600b3f52fb8adb355bd23eb757d9fc", func := "rivet/rivetlaw10.FileAll", spec := "fileAll", unfollowed := true, recurses := true, apart := false }
def FileAllSaid : Prop := fileAllRow.holds Try.pinned (OpenSpec.ofChange fileAllSpec)

/-- ITS FALSE NEIGHBOUR: 'it returns false'. Refute it at one input. -/
def fileAllWrong : ChangeSpec := { name := "fileAll", fn := fun _ => fun
  | [d1, d2] => { results := [.lit (.bool false)], args := [d1, d2] }
  | _ => none }
def FileAllWrongFalsely : Prop := fileAllRow.holds Try.pinned (OpenSpec.ofChange fileAllWrong)

/-- 'rivetlaw10.FileBack': WHATEVER THE INPUT: true; the input reads as it did. -/
def fileBackSpec : ChangeSpec := { name := "fileBack", fn := fun _ => fun
  | [d1, d2] => { results := [.lit (.bool true)], args := [d1, d2] }
  | _ => none }
def fileBackRow : OpenClaim := { program := "ytmdknjfhdmigdaa", sum := "e96d7252bd8925e8d26f0c532398b22bc0600b3f52fb8adb355bd23eb757d9fc", func := "rivet/rivetlaw10.FileBack", spec := "fileBack", unfollowed := true, recurses := true, apart := false }
def FileBackSaid : Prop := fileBackRow.holds Try.pinned (OpenSpec.ofChange fileBackSpec)

/-- ITS FALSE NEIGHBOUR: 'it returns false'. Refute it at one input. -/
def fileBackWrong : ChangeSpec := { name := "fileBack", fn := fun _ => fun
  | [d1, d2] => { results := [.lit (.bool false)], args := [d1, d2] }
  | _ => none }
def FileBackWrongFalsely : Prop := fileBackRow.holds Try.pinned (OpenSpec.ofChange fileBackWrong)

/-- 'rivetlaw10.FileTaken': WHATEVER THE INPUT: true; the input reads as it did. -/
def fileTakenSpec : ChangeSpec := { name := "fileTaken", fn := fun _ => fun
  | [d] => { results := [.lit (.bool true)], args := [d] }
  | _ => none }
def fileTakenRow : OpenClaim := { program := "ytmdknjfhdmigdaa", sum := "e96d7252bd8925e8d26f0c532398b22bc0600b3f52fb8adb355bd23eb757d9fc", func := "rivet/rivetlaw10.FileTaken", spec := "fileTaken", unfollowed := true, recurses := true, apart := false }
def FileTakenSaid : Prop := fileTakenRow.holds Try.pinned (OpenSpec.ofChange fileTakenSpec)

/-- ITS FALSE NEIGHBOUR: 'it returns false'. Refute it at one input. -/
def fileTakenWrong : ChangeSpec := { name := "fileTaken", fn := fun _ => fun
  | [d] => { results := [.lit (.bool false)], args := [d] }
  | _ => none }
def FileTakenWrongFalsely : Prop := fileTakenRow.holds Try.pinned (OpenSpec.ofChange fileTakenWrong)

/-- 'rivetlaw10.FileWords': WHATEVER THE INPUT: true; the input reads as it did. -/
def fileWordsSpec : ChangeSpec := { name := "fileWords", fn := fun _ => fun
  | [d1, d2, d3] => { results := [.lit (.bool true)], args := [d1, d2, d3] }
  | _ => none }
def fileWordsRow : OpenClaim := { program := "ytmdknjfhdmigdaa", sum := "e96d7252bd8925e8d26f0c532398b22bc0600b3f52fb8adb355bd23eb757d9fc", func := "rivet/rivetlaw10.FileWords", spec := "fileWords", unfollowed := true, recurses := true, apart := false }
def FileWordsSaid : Prop := fileWordsRow.holds Try.pinned (OpenSpec.ofChange fileWordsSpec)

/-- ITS FALSE NEIGHBOUR: 'it returns false'. Refute it at one input. -/
def fileWordsWrong : ChangeSpec := { name := "fileWords", fn := fun _ => fun
  | [d1, d2, d3] => { results := [.lit (.bool false)], args := [d1, d2, d3] }
  | _ => none }
def FileWordsWrongFalsely : Prop := fileWordsRow.holds Try.pinned (OpenSpec.ofChange fileWordsWrong)

/-- 'rivetlaw10.FileParts': WHATEVER THE INPUT: true; the input reads as it did. -/
def filePartsSpec : ChangeSpec := { name := "fileParts", fn := fun _ => fun
  | [d] => { results := [.lit (.bool true)], args := [d] }
  | _ => none }
def filePartsRow : OpenClaim := { program := "ytmdknjfhdmigdaa", sum := "e96d7252bd8925e8d26f0c532398b22bc0600b3f52fb8adb355bd23eb757d9fc", func := "rivet/rivetlaw10.FileParts", spec := "fileParts", unfollowed := true, recurses := true, apart := false }
def FilePartsSaid : Prop := filePartsRow.holds Try.pinned (OpenSpec.ofChange filePartsSpec)

/-- ITS FALSE NEIGHBOUR: 'it returns false'. Refute it at one input. -/
def filePartsWrong : ChangeSpec := { name := "fileParts", fn := fun _ => fun
  | [d] => { results := [.lit (.bool false)], args := [d] }
  | _ => none }
def FilePartsWrongFalsely : Prop := filePartsRow.holds Try.pinned (OpenSpec.ofChange filePartsWrong)

/-- 'rivetlaw10.FileNames': WHATEVER THE INPUT: true; the input reads as it did. -/
def fileNamesSpec : ChangeSpec := { name := "fileNames", fn := fun _ => fun
  | [d1, d2] => { results := [.lit (.bool true)], args := [d1, d2] }
  | _ => none }
def fileNamesRow : OpenClaim := { program := "ytmdknjfhdmigdaa", sum := "e96d7252bd8925e8d26f0c532398b22bc0600b3f52fb8adb355bd23eb757d9fc", func := "rivet/rivetlaw10.FileNames", spec := "fileNames", unfollowed := true, recurses := true, apart := false }
def FileNamesSaid : Prop := fileNamesRow.holds Try.pinned (OpenSpec.ofChange fileNamesSpec)

/-- ITS FALSE NEIGHBOUR: 'it returns false'. Refute it at one input. -/
def fileNamesWrong : ChangeSpec := { name := "fileNames", fn := fun _ => fun
  | [d1, d2] => { results := [.lit (.bool false)], args := [d1, d2] }
  | _ => none }
def FileNamesWrongFalsely : Prop := fileNamesRow.holds Try.pinned (OpenSpec.ofChange fileNamesWrong)

/- THE SECOND FORM. 'bulk': how many values and letters a reading holds, each counted each time it is reached (what is shared counts as often as it is met; a slice's spare places count too). A statement '..UptoSaid' is the law's where the arguments, and the package variables that the reading takes, are together of bulk at most 1048576: NARROWER than '..Said'. Prove '..Said' where nothing that the law and all that it calls make is longer than what came in: it says more and counts as full. Else prove '..UptoSaid'. A law counts once. -/
mutual
def uptoBulk {H : Type} : DataW H → Nat
  | .lit (.string bytes) => bytes.length + 1
  | .lit _ => 1
  | .nil => 1
  | .ptr d => uptoBulk d + 1
  | .slice elems spare => uptoBulkAll elems + uptoBulkAll spare + 1
  | .agg parts => uptoBulkAll parts + 1
  | .iface _ d => uptoBulk d + 1
  | .map entries => uptoBulkEntries entries + 1
  | .held _ => 1
def uptoBulkAll {H : Type} : List (DataW H) → Nat
  | [] => 0
  | d :: r => uptoBulk d + uptoBulkAll r
def uptoBulkEntries {H : Type} : List (Lit × DataW H) → Nat
  | [] => 0
  | x :: r => uptoBulkEntry x + uptoBulkEntries r
def uptoBulkEntry {H : Type} : Lit × DataW H → Nat
  | (.string bytes, d) => bytes.length + uptoBulk d + 1
  | (_, d) => uptoBulk d + 1
 end
def uptoSmall : (H : Type) → List (DataW H) → Bool := fun _ ds => decide (uptoBulkAll ds ≤ 1048576)
def OpenSpec.upto (s : _root_.Go.ChangeSpec) : _root_.Go.OpenSpec := { _root_.Go.OpenSpec.ofChange s with cond := some uptoSmall }

/-- 'rivetlaw10.FileAll', WHERE WHAT IT READS IS OF BULK AT MOST 1048576: true; the input reads as it did. -/
def fileAllUptoRow : OpenClaim := { program := "ytmdknjfhdmigdaa", sum := "e96d7252bd8925e8d26f0c532398b22bc0600b3f52fb8adb355bd23eb757d9fc", func := "rivet/rivetlaw10.FileAll", spec := "fileAll", unfollowed := true, recurses := true, apart := false, narrowed := true }
def FileAllUptoSaid : Prop := fileAllUptoRow.holds Try.pinned (OpenSpec.upto fileAllSpec)

/-- 'rivetlaw10.FileBack', WHERE WHAT IT READS IS OF BULK AT MOST 1048576: true; the input reads as it did. -/
def fileBackUptoRow : OpenClaim := { program := "ytmdknjfhdmigdaa", sum := "e96d7252bd8925e8d26f0c532398b22bc0600b3f52fb8adb355bd23eb757d9fc", func := "rivet/rivetlaw10.FileBack", spec := "fileBack", unfollowed := true, recurses := true, apart := false, narrowed := true }
def FileBackUptoSaid : Prop := fileBackUptoRow.holds Try.pinned (OpenSpec.upto fileBackSpec)

/-- 'rivetlaw10.FileTaken', WHERE WHAT IT READS IS OF BULK AT MOST 1048576: true; the input reads as it did. -/
def fileTakenUptoRow : OpenClaim := { program := "ytmdknjfhdmigdaa", sum := "e96d7252bd8925e8d26f0c532398b22bc0600b3f52fb8adb355bd23eb757d9fc", func := "rivet/rivetlaw10.FileTaken", spec := "fileTaken", unfollowed := true, recurses := true, apart := false, narrowed := true }
def FileTakenUptoSaid : Prop := fileTakenUptoRow.holds Try.pinned (OpenSpec.upto fileTakenSpec)

/-- 'rivetlaw10.FileWords', WHERE WHAT IT READS IS OF BULK AT MOST 1048576: true; the input reads as it did. -/
def fileWordsUptoRow : OpenClaim := { program := "ytmdknjfhdmigdaa", sum := "e96d7252bd8925e8d26f0c532398b22bc0600b3f52fb8adb355bd23eb757d9fc", func := "rivet/rivetlaw10.FileWords", spec := "fileWords", unfollowed := true, recurses := true, apart := false, narrowed := true }
def FileWordsUptoSaid : Prop := fileWordsUptoRow.holds Try.pinned (OpenSpec.upto fileWordsSpec)

/-- 'rivetlaw10.FileParts', WHERE WHAT IT READS IS OF BULK AT MOST 1048576: true; the input reads as it did. -/
def filePartsUptoRow : OpenClaim := { program := "ytmdknjfhdmigdaa", sum := "e96d7252bd8925e8d26f0c532398b22bc0600b3f52fb8adb355bd23eb757d9fc", func := "rivet/rivetlaw10.FileParts", spec := "fileParts", unfollowed := true, recurses := true, apart := false, narrowed := true }
def FilePartsUptoSaid : Prop := filePartsUptoRow.holds Try.pinned (OpenSpec.upto filePartsSpec)

/-- 'rivetlaw10.FileNames', WHERE WHAT IT READS IS OF BULK AT MOST 1048576: true; the input reads as it did. -/
def fileNamesUptoRow : OpenClaim := { program := "ytmdknjfhdmigdaa", sum := "e96d7252bd8925e8d26f0c532398b22bc0600b3f52fb8adb355bd23eb757d9fc", func := "rivet/rivetlaw10.FileNames", spec := "fileNames", unfollowed := true, recurses := true, apart := false, narrowed := true }
def FileNamesUptoSaid : Prop := fileNamesUptoRow.holds Try.pinned (OpenSpec.upto fileNamesSpec)

end Rows
end Go.Proofs.Ytmdknjfhdmigdaa
