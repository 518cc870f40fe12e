/-
  DERIVED. GIVEN WITH THE SEED: THE CARDS: each row of YtkkoihhkfophnaaDoorRows.lean that lists a variable, with what it lists TIED to the program's text (the seventh form; the later family's looks); each row that meets fmt, with fmt's text TOLD by the authors' own Lean function (tested against real Go, not proved from fmt's source: count such statements apart). THE CARD IS WHAT COUNTS. Prove the row's statement (the work); the ties are given (YtkkoihhkfophnaaDoorTie.lean); close each card by the builder's one call (the guide's Derived/Test/ToyasCard.lean, 'card_holds'). Laid BY PROGRAM, IN A SANDBOX (cutbox-door.mjs). By AI agents, Wed Nov 11 2026. No macro, syntax, notation, axiom, sorry.
-/
import Derived.Test.YtkkoihhkfophnaaDoorRows
import GoSem.ClaimSeven
namespace Go.Proofs.YtkkoihhkfophnaaDoor
namespace Rows

/-- THE TIED CARD OF 'rivetlaw13.NameAll'. -/
def nameAllCard : Claim7 := { stood := { row := nameAllRow, standIns := [], harness := (true, "eec968e0688111727dade05b30a112dbc47c90420ba11906d6407ce152aeb931"), looks := false }, kinds := [], alts := [], laidByText := true, laidKinds := [.data, .data, .data, .data], laidTests := true, laidLooks := .later }
def NameAllCardSaid : Prop := Claim7.holds Tryd.pinned (.plain (OpenSpec.ofChange nameAllSpec)) nameAllCard

/-- THE TIED CARD OF 'rivetlaw13.NameBack'. -/
def nameBackCard : Claim7 := { stood := { row := nameBackRow, standIns := [], harness := (true, "eec968e0688111727dade05b30a112dbc47c90420ba11906d6407ce152aeb931"), looks := false }, kinds := [], alts := [], laidByText := true, laidKinds := [.data, .data, .data, .data], laidTests := true, laidLooks := .later }
def NameBackCardSaid : Prop := Claim7.holds Tryd.pinned (.plain (OpenSpec.ofChange nameBackSpec)) nameBackCard

/-- THE TIED CARD OF 'rivetlaw13.NameLabels'. -/
def nameLabelsCard : Claim7 := { stood := { row := nameLabelsRow, standIns := [], harness := (true, "eec968e0688111727dade05b30a112dbc47c90420ba11906d6407ce152aeb931"), looks := false }, kinds := [], alts := [], laidByText := true, laidKinds := [.data], laidTests := true, laidLooks := .later }
def NameLabelsCardSaid : Prop := Claim7.holds Tryd.pinned (.plain (OpenSpec.ofChange nameLabelsSpec)) nameLabelsCard

/-- THE TIED CARD OF 'rivetlaw13.NameInstr'. -/
def nameInstrCard : Claim7 := { stood := { row := nameInstrRow, standIns := [], harness := (true, "eec968e0688111727dade05b30a112dbc47c90420ba11906d6407ce152aeb931"), looks := false }, kinds := [], alts := [], laidByText := true, laidKinds := [.data], laidTests := true, laidLooks := .later }
def NameInstrCardSaid : Prop := Claim7.holds Tryd.pinned (.plain (OpenSpec.ofChange nameInstrSpec)) nameInstrCard

/-- THE TIED CARD OF 'rivetlaw13.NameRegs'. -/
def nameRegsCard : Claim7 := { stood := { row := nameRegsRow, standIns := [], harness := (true, "eec968e0688111727dade05b30a112dbc47c90420ba11906d6407ce152aeb931"), looks := false }, kinds := [], alts := [], laidByText := true, laidKinds := [.data, .data, .data, .data], laidTests := true, laidLooks := .later }
def NameRegsCardSaid : Prop := Claim7.holds Tryd.pinned (.plain (OpenSpec.ofChange nameRegsSpec)) nameRegsCard

/-- THE SECOND FORM's CARD OF 'rivetlaw13.NameAll'. -/
def nameAllUptoCard : Claim7 := { stood := { row := nameAllUptoRow, standIns := [], harness := (true, "eec968e0688111727dade05b30a112dbc47c90420ba11906d6407ce152aeb931"), looks := false }, kinds := [], alts := [], laidByText := true, laidKinds := [.data, .data, .data, .data], laidTests := true, laidLooks := .later }
def NameAllUptoCardSaid : Prop := Claim7.holds Tryd.pinned (.plain (OpenSpec.upto nameAllSpec)) nameAllUptoCard

/-- THE SECOND FORM's CARD OF 'rivetlaw13.NameBack'. -/
def nameBackUptoCard : Claim7 := { stood := { row := nameBackUptoRow, standIns := [], harness := (true, "eec968e0688111727dade05b30a112dbc47c90420ba11906d6407ce152aeb931"), looks := false }, kinds := [], alts := [], laidByText := true, laidKinds := [.data, .data, .data, .data], laidTests := true, laidLooks := .later }
def NameBackUptoCardSaid : Prop := Claim7.holds Tryd.pinned (.plain (OpenSpec.upto nameBackSpec)) nameBackUptoCard

/-- THE SECOND FORM's CARD OF 'rivetlaw13.NameLabels'. -/
def nameLabelsUptoCard : Claim7 := { stood := { row := nameLabelsUptoRow, standIns := [], harness := (true, "eec968e0688111727dade05b30a112dbc47c90420ba11906d6407ce152aeb931"), looks := false }, kinds := [], alts := [], laidByText := true, laidKinds := [.data], laidTests := true, laidLooks := .later }
def NameLabelsUptoCardSaid : Prop := Claim7.holds Tryd.pinned (.plain (OpenSpec.upto nameLabelsSpec)) nameLabelsUptoCard

/-- THE SECOND FORM's CARD OF 'rivetlaw13.NameInstr'. -/
def nameInstrUptoCard : Claim7 := { stood := { row := nameInstrUptoRow, standIns := [], harness := (true, "eec968e0688111727dade05b30a112dbc47c90420ba11906d6407ce152aeb931"), looks := false }, kinds := [], alts := [], laidByText := true, laidKinds := [.data], laidTests := true, laidLooks := .later }
def NameInstrUptoCardSaid : Prop := Claim7.holds Tryd.pinned (.plain (OpenSpec.upto nameInstrSpec)) nameInstrUptoCard

/-- THE SECOND FORM's CARD OF 'rivetlaw13.NameRegs'. -/
def nameRegsUptoCard : Claim7 := { stood := { row := nameRegsUptoRow, standIns := [], harness := (true, "eec968e0688111727dade05b30a112dbc47c90420ba11906d6407ce152aeb931"), looks := false }, kinds := [], alts := [], laidByText := true, laidKinds := [.data, .data, .data, .data], laidTests := true, laidLooks := .later }
def NameRegsUptoCardSaid : Prop := Claim7.holds Tryd.pinned (.plain (OpenSpec.upto nameRegsSpec)) nameRegsUptoCard
end Rows
end Go.Proofs.YtkkoihhkfophnaaDoor
