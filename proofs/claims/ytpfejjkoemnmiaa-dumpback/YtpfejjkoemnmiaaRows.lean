/-
  No cell of these rows narrows 'for every input' (looked for: loops, veiled, ifaces, maps, wideKeys, modest, calm, conditions, laid).
  DERIVED. THE GIVEN ROWS OF THIS SEAT. 5 by the template 'for every input the law returns true; each argument reads behind the call as it read before'; 0 by the template 'total and deterministic' (their statements: YtpfejjkoemnmiaaTotals.lean).
  GIVEN WITH THE SEED: the statements are not yours to turn. If you find one false, say at which input.
  Laid BY PROGRAM, IN A SANDBOX (cutbox-rows.mjs): the forced cells as the released guide's own fill.sh prints them over the translation d24a4f364abb34c2… (all of the seat's roots in one cut). By AI agents, Wed Nov 11 2026. No macro, syntax, notation, axiom, sorry.
-/
import Derived.Test.YtpfejjkoemnmiaaChecked
import GoSem.Claim
import GoSem.ClaimJoined
import GoSem.ClaimMapViews
import Derived.JoinedTies
import Derived.KernelRfl
namespace Go.Proofs.Ytpfejjkoemnmiaa
/- THE CELL 'sum', in the pinned program and in every row, IS THE sha256 OF THE DUMP (.gsa) THAT YtpfejjkoemnmiaaProg.lean LOADS. Nothing in Lean hashes anything: it is a label: what it is worth is what the hold of that sum in a sandbox is worth. -/
noncomputable def Try.pinned : Pinned := { name := "ytpfejjkoemnmiaa", sum := "d24a4f364abb34c2e7c861ef9f123972ff508925bbf61fa8ac867b3d81db0737", checked := Try.checked }
namespace Rows
def none {H : Type} : Left H := { results := [], args := [] }

/-- 'rivetlaw11.DumpAll': WHATEVER THE INPUT: true; the input reads as it did. -/
def dumpAllSpec : ChangeSpec := { name := "dumpAll", fn := fun _ => fun
  | [d1, d2] => { results := [.lit (.bool true)], args := [d1, d2] }
  | _ => none }
def dumpAllRow : OpenClaim := { program := "ytpfejjkoemnmiaa", sum := "d24a4f364abb34c2e7c861ef9f123972ff508925bbf61fa8ac867b3d81db0737", func := "rivet/rivetlaw11.DumpAll", spec := "dumpAll", inPlace := ["internal/abi.NoEscape", "internal/bytealg.IndexByteString", "internal/bytealg.IndexString"], unfollowed := true, recurses := true, named := ["internal/bytealg.MaxLen"], apart := false }
def DumpAllSaid : Prop := dumpAllRow.holds Try.pinned (OpenSpec.ofChange dumpAllSpec)

/-- ITS FALSE NEIGHBOUR: 'it returns false'. Refute it at one input. -/
def dumpAllWrong : ChangeSpec := { name := "dumpAll", fn := fun _ => fun
  | [d1, d2] => { results := [.lit (.bool false)], args := [d1, d2] }
  | _ => none }
def DumpAllWrongFalsely : Prop := dumpAllRow.holds Try.pinned (OpenSpec.ofChange dumpAllWrong)

/-- 'rivetlaw11.DumpHex': WHATEVER THE INPUT: true; the input reads as it did. -/
def dumpHexSpec : ChangeSpec := { name := "dumpHex", fn := fun _ => fun
  | [d1, d2] => { results := [.lit (.bool true)], args := [d1, d2] }
  | _ => none }
def dumpHexRow : OpenClaim := { program := "ytpfejjkoemnmiaa", sum := "d24a4f364abb34c2e7c861ef9f123972ff508925bbf61fa8ac867b3d81db0737", func := "rivet/rivetlaw11.DumpHex", spec := "dumpHex", inPlace := ["internal/abi.NoEscape"], unfollowed := true, recurses := true, apart := false }
def DumpHexSaid : Prop := dumpHexRow.holds Try.pinned (OpenSpec.ofChange dumpHexSpec)

/-- ITS FALSE NEIGHBOUR: 'it returns false'. Refute it at one input. -/
def dumpHexWrong : ChangeSpec := { name := "dumpHex", fn := fun _ => fun
  | [d1, d2] => { results := [.lit (.bool false)], args := [d1, d2] }
  | _ => none }
def DumpHexWrongFalsely : Prop := dumpHexRow.holds Try.pinned (OpenSpec.ofChange dumpHexWrong)

/-- 'rivetlaw11.DumpBack': WHATEVER THE INPUT: true; the input reads as it did. -/
def dumpBackSpec : ChangeSpec := { name := "dumpBack", fn := fun _ => fun
  | [d] => { results := [.lit (.bool true)], args := [d] }
  | _ => none }
def dumpBackRow : OpenClaim := { program := "ytpfejjkoemnmiaa", sum := "d24a4f364abb34c2e7c861ef9f123972ff508925bbf61fa8ac867b3d81db0737", func := "rivet/rivetlaw11.DumpBack", spec := "dumpBack", inPlace := ["internal/abi.NoEscape", "internal/bytealg.IndexByteString", "internal/bytealg.IndexString"], unfollowed := true, recurses := true, named := ["internal/bytealg.MaxLen"], apart := false }
def DumpBackSaid : Prop := dumpBackRow.holds Try.pinned (OpenSpec.ofChange dumpBackSpec)

/-- ITS FALSE NEIGHBOUR: 'it returns false'. Refute it at one input. -/
def dumpBackWrong : ChangeSpec := { name := "dumpBack", fn := fun _ => fun
  | [d] => { results := [.lit (.bool false)], args := [d] }
  | _ => none }
def DumpBackWrongFalsely : Prop := dumpBackRow.holds Try.pinned (OpenSpec.ofChange dumpBackWrong)

/-- 'rivetlaw11.DumpTaken': WHATEVER THE INPUT: true; the input reads as it did. -/
def dumpTakenSpec : ChangeSpec := { name := "dumpTaken", fn := fun _ => fun
  | [d] => { results := [.lit (.bool true)], args := [d] }
  | _ => none }
def dumpTakenRow : OpenClaim := { program := "ytpfejjkoemnmiaa", sum := "d24a4f364abb34c2e7c861ef9f123972ff508925bbf61fa8ac867b3d81db0737", func := "rivet/rivetlaw11.DumpTaken", spec := "dumpTaken", inPlace := ["internal/abi.NoEscape", "internal/bytealg.IndexByteString", "internal/bytealg.IndexString"], unfollowed := true, recurses := true, named := ["internal/bytealg.MaxLen"], apart := false }
def DumpTakenSaid : Prop := dumpTakenRow.holds Try.pinned (OpenSpec.ofChange dumpTakenSpec)

/-- ITS FALSE NEIGHBOUR: 'it returns false'. Refute it at one input. -/
def dumpTakenWrong : ChangeSpec := { name := "dumpTaken", fn := fun _ => fun
  | [d] => { results := [.lit (.bool false)], args := [d] }
  | _ => none }
def DumpTakenWrongFalsely : Prop := dumpTakenRow.holds Try.pinned (OpenSpec.ofChange dumpTakenWrong)

/-- 'rivetlaw11.DumpLines': WHATEVER THE INPUT: true; the input reads as it did. -/
def dumpLinesSpec : ChangeSpec := { name := "dumpLines", fn := fun _ => fun
  | [d] => { results := [.lit (.bool true)], args := [d] }
  | _ => none }
def dumpLinesRow : OpenClaim := { program := "ytpfejjkoemnmiaa", sum := "d24a4f364abb34c2e7c861ef9f123972ff508925bbf61fa8ac867b3d81db0737", func := "rivet/rivetlaw11.DumpLines", spec := "dumpLines", inPlace := ["internal/abi.NoEscape", "internal/bytealg.IndexByteString", "internal/bytealg.IndexString"], unfollowed := true, recurses := true, named := ["internal/bytealg.MaxLen"], apart := false }
def DumpLinesSaid : Prop := dumpLinesRow.holds Try.pinned (OpenSpec.ofChange dumpLinesSpec)

/-- ITS FALSE NEIGHBOUR: 'it returns false'. Refute it at one input. -/
def dumpLinesWrong : ChangeSpec := { name := "dumpLines", fn := fun _ => fun
  | [d] => { results := [.lit (.bool false)], args := [d] }
  | _ => none }
def DumpLinesWrongFalsely : Prop := dumpLinesRow.holds Try.pinned (OpenSpec.ofChange dumpLinesWrong)

/- THE SECOND FORM. 'bulk': how many values and letters a reading holds, each counted each time it is reached (what is shared counts as often as it is met; a slice's spare places count too). A statement '..UptoSaid' is the law's where the arguments, and the package variables that the reading takes, are together of bulk at most 1048576: NARROWER than '..Said'. Prove '..Said' where nothing that the law and all that it calls make is longer than what came in: it says more and counts as full. Else prove '..UptoSaid'. A law counts once. -/
mutual
def uptoBulk {H : Type} : DataW H → Nat
  | .lit (.string bytes) => bytes.length + 1
  | .lit _ => 1
  | .nil => 1
  | .ptr d => uptoBulk d + 1
  | .slice elems spare => uptoBulkAll elems + uptoBulkAll spare + 1
  | .agg parts => uptoBulkAll parts + 1
  | .iface _ d => uptoBulk d + 1
  | .map entries => uptoBulkEntries entries + 1
  | .held _ => 1
def uptoBulkAll {H : Type} : List (DataW H) → Nat
  | [] => 0
  | d :: r => uptoBulk d + uptoBulkAll r
def uptoBulkEntries {H : Type} : List (Lit × DataW H) → Nat
  | [] => 0
  | x :: r => uptoBulkEntry x + uptoBulkEntries r
def uptoBulkEntry {H : Type} : Lit × DataW H → Nat
  | (.string bytes, d) => bytes.length + uptoBulk d + 1
  | (_, d) => uptoBulk d + 1
 end
def uptoSmall : (H : Type) → List (DataW H) → Bool := fun _ ds => decide (uptoBulkAll ds ≤ 1048576)
def OpenSpec.upto (s : _root_.Go.ChangeSpec) : _root_.Go.OpenSpec := { _root_.Go.OpenSpec.ofChange s with cond := some uptoSmall }

/-- 'rivetlaw11.DumpAll', WHERE WHAT IT READS IS OF BULK AT MOST 1048576: true; the input reads as it did. -/
def dumpAllUptoRow : OpenClaim := { program := "ytpfejjkoemnmiaa", sum := "d24a4f364abb34c2e7c861ef9f123972ff508925bbf61fa8ac867b3d81db0737", func := "rivet/rivetlaw11.DumpAll", spec := "dumpAll", inPlace := ["internal/abi.NoEscape", "internal/bytealg.IndexByteString", "internal/bytealg.IndexString"], unfollowed := true, recurses := true, named := ["internal/bytealg.MaxLen"], apart := false, narrowed := true }
def DumpAllUptoSaid : Prop := dumpAllUptoRow.holds Try.pinned (OpenSpec.upto dumpAllSpec)

/-- 'rivetlaw11.DumpHex', WHERE WHAT IT READS IS OF BULK AT MOST 1048576: true; the input reads as it did. -/
def dumpHexUptoRow : OpenClaim := { program := "ytpfejjkoemnmiaa", sum := "d24a4f364abb34c2e7c861ef9f123972ff508925bbf61fa8ac867b3d81db0737", func := "rivet/rivetlaw11.DumpHex", spec := "dumpHex", inPlace := ["internal/abi.NoEscape"], unfollowed := true, recurses := true, apart := false, narrowed := true }
def DumpHexUptoSaid : Prop := dumpHexUptoRow.holds Try.pinned (OpenSpec.upto dumpHexSpec)

/-- 'rivetlaw11.DumpBack', WHERE WHAT IT READS IS OF BULK AT MOST 1048576: true; the input reads as it did. -/
def dumpBackUptoRow : OpenClaim := { program := "ytpfejjkoemnmiaa", sum := "d24a4f364abb34c2e7c861ef9f123972ff508925bbf61fa8ac867b3d81db0737", func := "rivet/rivetlaw11.DumpBack", spec := "dumpBack", inPlace := ["internal/abi.NoEscape", "internal/bytealg.IndexByteString", "internal/bytealg.IndexString"], unfollowed := true, recurses := true, named := ["internal/bytealg.MaxLen"], apart := false, narrowed := true }
def DumpBackUptoSaid : Prop := dumpBackUptoRow.holds Try.pinned (OpenSpec.upto dumpBackSpec)

/-- 'rivetlaw11.DumpTaken', WHERE WHAT IT READS IS OF BULK AT MOST 1048576: true; the input reads as it did. -/
def dumpTakenUptoRow : OpenClaim := { program := "ytpfejjkoemnmiaa", sum := "d24a4f364abb34c2e7c861ef9f123972ff508925bbf61fa8ac867b3d81db0737", func := "rivet/rivetlaw11.DumpTaken", spec := "dumpTaken", inPlace := ["internal/abi.NoEscape", "internal/bytealg.IndexByteString", "internal/bytealg.IndexString"], unfollowed := true, recurses := true, named := ["internal/bytealg.MaxLen"], apart := false, narrowed := true }
def DumpTakenUptoSaid : Prop := dumpTakenUptoRow.holds Try.pinned (OpenSpec.upto dumpTakenSpec)

/-- 'rivetlaw11.DumpLines', WHERE WHAT IT READS IS OF BULK AT MOST 1048576: true; the input reads as it did. -/
def dumpLinesUptoRow : OpenClaim := { program := "ytpfejjkoemnmiaa", sum := "d24a4f364abb34c2e7c861ef9f123972ff508925bbf61fa8ac867b3d81db0737", func := "rivet/rivetlaw11.DumpLines", spec := "dumpLines", inPlace := ["internal/abi.NoEscape", "internal/bytealg.IndexByteString", "internal/bytealg.IndexString"], unfollowed := true, recurses := true, named := ["internal/bytealg.MaxLen"], apart := false, narrowed := true }
def DumpLinesUptoSaid : Prop := dumpLinesUptoRow.holds Try.pinned (OpenSpec.upto dumpLinesSpec)

end Rows
end Go.Proofs.Ytpfejjkoemnmiaa
