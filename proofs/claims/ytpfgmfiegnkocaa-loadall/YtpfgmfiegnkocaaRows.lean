/-
  No cell of these rows narrows 'for every input' (looked for: loops, veiled, ifaces, maps, wideKeys, modest, calm, conditions, laid).
  DERIVED. THE GIVEN ROWS OF THIS SEAT. 4 by the template 'for every input the law returns true; each argument reads behind the call as it read before'; 0 by the template 'total and deterministic' (their statements: YtpfgmfiegnkocaaTotals.lean).
  GIVEN WITH THE SEED: the statements are not yours to turn. If you find one false, say at which input.
  Laid BY PROGRAM, IN A SANDBOX (cutbox-rows.mjs): the forced cells as the released guide's own fill.sh prints them over the translation fa4cb636994606af… (all of the seat's roots in one cut). By AI agents, Wed Nov 11 2026. No macro, syntax, notation, axiom, sorry.
-/
import Derived.Test.YtpfgmfiegnkocaaChecked
import GoSem.Claim
import GoSem.ClaimJoined
import GoSem.ClaimMapViews
import Derived.JoinedTies
import Derived.KernelRfl
namespace Go.Proofs.Ytpfgmfiegnkocaa
/- THE CELL 'sum', in the pinned program and in every row, IS THE sha256 OF THE DUMP (.gsa) THAT YtpfgmfiegnkocaaProg.lean LOADS. Nothing in Lean hashes anything: it is a label: what it is worth is what the hold of that sum in a sandbox is worth. -/
noncomputable def Try.pinned : Pinned := { name := "ytpfgmfiegnkocaa", sum := "fa4cb636994606afa8487b489d4034a7bcc378c924b1a24f8910c43c5b30dbe9", checked := Try.checked }
namespace Rows
def none {H : Type} : Left H := { results := [], args := [] }

/-- 'rivetlaw12.LoadAll': WHATEVER THE INPUT: true; the input reads as it did. -/
def loadAllSpec : ChangeSpec := { name := "loadAll", fn := fun _ => fun
  | [d1, d2, d3] => { results := [.lit (.bool true)], args := [d1, d2, d3] }
  | _ => none }
def loadAllRow : OpenClaim := { program := "ytpfgmfiegnkocaa", sum := "fa4cb636994606afa8487b489d4034a7bcc378c924b1a24f8910c43c5b30dbe9", func := "rivet/rivetlaw12.LoadAll", spec := "loadAll", unfollowed := true, recurses := true, apart := false }
def LoadAllSaid : Prop := loadAllRow.holds Try.pinned (OpenSpec.ofChange loadAllSpec)

/-- ITS FALSE NEIGHBOUR: 'it returns false'. Refute it at one input. -/
def loadAllWrong : ChangeSpec := { name := "loadAll", fn := fun _ => fun
  | [d1, d2, d3] => { results := [.lit (.bool false)], args := [d1, d2, d3] }
  | _ => none }
def LoadAllWrongFalsely : Prop := loadAllRow.holds Try.pinned (OpenSpec.ofChange loadAllWrong)

/-- 'rivetlaw12.LoadShifts': WHATEVER THE INPUT: true; the input reads as it did. -/
def loadShiftsSpec : ChangeSpec := { name := "loadShifts", fn := fun _ => fun
  | [d1, d2, d3] => { results := [.lit (.bool true)], args := [d1, d2, d3] }
  | _ => none }
def loadShiftsRow : OpenClaim := { program := "ytpfgmfiegnkocaa", sum := "fa4cb636994606afa8487b489d4034a7bcc378c924b1a24f8910c43c5b30dbe9", func := "rivet/rivetlaw12.LoadShifts", spec := "loadShifts", unfollowed := true, recurses := true, apart := false }
def LoadShiftsSaid : Prop := loadShiftsRow.holds Try.pinned (OpenSpec.ofChange loadShiftsSpec)

/-- ITS FALSE NEIGHBOUR: 'it returns false'. Refute it at one input. -/
def loadShiftsWrong : ChangeSpec := { name := "loadShifts", fn := fun _ => fun
  | [d1, d2, d3] => { results := [.lit (.bool false)], args := [d1, d2, d3] }
  | _ => none }
def LoadShiftsWrongFalsely : Prop := loadShiftsRow.holds Try.pinned (OpenSpec.ofChange loadShiftsWrong)

/-- 'rivetlaw12.LoadStarts': WHATEVER THE INPUT: true; the input reads as it did. -/
def loadStartsSpec : ChangeSpec := { name := "loadStarts", fn := fun _ => fun
  | [d1, d2] => { results := [.lit (.bool true)], args := [d1, d2] }
  | _ => none }
def loadStartsRow : OpenClaim := { program := "ytpfgmfiegnkocaa", sum := "fa4cb636994606afa8487b489d4034a7bcc378c924b1a24f8910c43c5b30dbe9", func := "rivet/rivetlaw12.LoadStarts", spec := "loadStarts", unfollowed := true, recurses := true, apart := false }
def LoadStartsSaid : Prop := loadStartsRow.holds Try.pinned (OpenSpec.ofChange loadStartsSpec)

/-- ITS FALSE NEIGHBOUR: 'it returns false'. Refute it at one input. -/
def loadStartsWrong : ChangeSpec := { name := "loadStarts", fn := fun _ => fun
  | [d1, d2] => { results := [.lit (.bool false)], args := [d1, d2] }
  | _ => none }
def LoadStartsWrongFalsely : Prop := loadStartsRow.holds Try.pinned (OpenSpec.ofChange loadStartsWrong)

/-- 'rivetlaw12.LoadTwice': WHATEVER THE INPUT: true; the input reads as it did. -/
def loadTwiceSpec : ChangeSpec := { name := "loadTwice", fn := fun _ => fun
  | [d1, d2] => { results := [.lit (.bool true)], args := [d1, d2] }
  | _ => none }
def loadTwiceRow : OpenClaim := { program := "ytpfgmfiegnkocaa", sum := "fa4cb636994606afa8487b489d4034a7bcc378c924b1a24f8910c43c5b30dbe9", func := "rivet/rivetlaw12.LoadTwice", spec := "loadTwice", unfollowed := true, recurses := true, apart := false }
def LoadTwiceSaid : Prop := loadTwiceRow.holds Try.pinned (OpenSpec.ofChange loadTwiceSpec)

/-- ITS FALSE NEIGHBOUR: 'it returns false'. Refute it at one input. -/
def loadTwiceWrong : ChangeSpec := { name := "loadTwice", fn := fun _ => fun
  | [d1, d2] => { results := [.lit (.bool false)], args := [d1, d2] }
  | _ => none }
def LoadTwiceWrongFalsely : Prop := loadTwiceRow.holds Try.pinned (OpenSpec.ofChange loadTwiceWrong)

/- THE SECOND FORM. 'bulk': how many values and letters a reading holds, each counted each time it is reached (what is shared counts as often as it is met; a slice's spare places count too). A statement '..UptoSaid' is the law's where the arguments, and the package variables that the reading takes, are together of bulk at most 1048576: NARROWER than '..Said'. Prove '..Said' where nothing that the law and all that it calls make is longer than what came in: it says more and counts as full. Else prove '..UptoSaid'. A law counts once. -/
mutual
def uptoBulk {H : Type} : DataW H → Nat
  | .lit (.string bytes) => bytes.length + 1
  | .lit _ => 1
  | .nil => 1
  | .ptr d => uptoBulk d + 1
  | .slice elems spare => uptoBulkAll elems + uptoBulkAll spare + 1
  | .agg parts => uptoBulkAll parts + 1
  | .iface _ d => uptoBulk d + 1
  | .map entries => uptoBulkEntries entries + 1
  | .held _ => 1
def uptoBulkAll {H : Type} : List (DataW H) → Nat
  | [] => 0
  | d :: r => uptoBulk d + uptoBulkAll r
def uptoBulkEntries {H : Type} : List (Lit × DataW H) → Nat
  | [] => 0
  | x :: r => uptoBulkEntry x + uptoBulkEntries r
def uptoBulkEntry {H : Type} : Lit × DataW H → Nat
  | (.string bytes, d) => bytes.length + uptoBulk d + 1
  | (_, d) => uptoBulk d + 1
 end
def uptoSmall : (H : Type) → List (DataW H) → Bool := fun _ ds => decide (uptoBulkAll ds ≤ 1048576)
def OpenSpec.upto (s : _root_.Go.ChangeSpec) : _root_.Go.OpenSpec := { _root_.Go.OpenSpec.ofChange s with cond := some uptoSmall }

/-- 'rivetlaw12.LoadAll', WHERE WHAT IT READS IS OF BULK AT MOST 1048576: true; the input reads as it did. -/
def loadAllUptoRow : OpenClaim := { program := "ytpfgmfiegnkocaa", sum := "fa4cb636994606afa8487b489d4034a7bcc378c924b1a24f8910c43c5b30dbe9", func := "rivet/rivetlaw12.LoadAll", spec := "loadAll", unfollowed := true, recurses := true, apart := false, narrowed := true }
def LoadAllUptoSaid : Prop := loadAllUptoRow.holds Try.pinned (OpenSpec.upto loadAllSpec)

/-- 'rivetlaw12.LoadShifts', WHERE WHAT IT READS IS OF BULK AT MOST 1048576: true; the input reads as it did. -/
def loadShiftsUptoRow : OpenClaim := { program := "ytpfgmfiegnkocaa", sum := "fa4cb636994606afa8487b489d4034a7bcc378c924b1a24f8910c43c5b30dbe9", func := "rivet/rivetlaw12.LoadShifts", spec := "loadShifts", unfollowed := true, recurses := true, apart := false, narrowed := true }
def LoadShiftsUptoSaid : Prop := loadShiftsUptoRow.holds Try.pinned (OpenSpec.upto loadShiftsSpec)

/-- 'rivetlaw12.LoadStarts', WHERE WHAT IT READS IS OF BULK AT MOST 1048576: true; the input reads as it did. -/
def loadStartsUptoRow : OpenClaim := { program := "ytpfgmfiegnkocaa", sum := "fa4cb636994606afa8487b489d4034a7bcc378c924b1a24f8910c43c5b30dbe9", func := "rivet/rivetlaw12.LoadStarts", spec := "loadStarts", unfollowed := true, recurses := true, apart := false, narrowed := true }
def LoadStartsUptoSaid : Prop := loadStartsUptoRow.holds Try.pinned (OpenSpec.upto loadStartsSpec)

/-- 'rivetlaw12.LoadTwice', WHERE WHAT IT READS IS OF BULK AT MOST 1048576: true; the input reads as it did. -/
def loadTwiceUptoRow : OpenClaim := { program := "ytpfgmfiegnkocaa", sum := "fa4cb636994606afa8487b489d4034a7bcc378c924b1a24f8910c43c5b30dbe9", func := "rivet/rivetlaw12.LoadTwice", spec := "loadTwice", unfollowed := true, recurses := true, apart := false, narrowed := true }
def LoadTwiceUptoSaid : Prop := loadTwiceUptoRow.holds Try.pinned (OpenSpec.upto loadTwiceSpec)

end Rows
end Go.Proofs.Ytpfgmfiegnkocaa
