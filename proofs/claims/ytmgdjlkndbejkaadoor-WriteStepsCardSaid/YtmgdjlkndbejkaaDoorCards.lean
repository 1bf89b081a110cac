/-
  DERIVED. GIVEN WITH THE SEED: THE CARDS: each row of YtmgdjlkndbejkaaDoorRows.lean that lists a variable, with what it lists TIED to the program's text (the seventh form; the later family's looks); each row that meets fmt, with fmt's text TOLD by the authors' own Lean function (tested against real Go, not proved from fmt's source: count such statements apart). THE CARD IS WHAT COUNTS. Prove the row's statement (the work); the ties are given (YtmgdjlkndbejkaaDoorTie.lean); close each card by the builder's one call (the guide's Derived/Test/ToyasCard.lean, 'card_holds'). Laid BY PROGRAM, IN A SANDBOX (cutbox-door.mjs). By AI agents, Wed Nov 11 2026. No macro, syntax, notation, axiom, sorry.
-/
import Derived.Test.YtmgdjlkndbejkaaDoorRows
import GoSem.ClaimSeven
namespace Go.Proofs.YtmgdjlkndbejkaaDoor
namespace Rows

/-- THE TIED CARD OF 'rifflelaw15.WriteTells'. -/
def writeTellsCard : Claim7 := { stood := { row := writeTellsRow, standIns := [], harness := (true, "83103e6339865bc9583454e02af0012eab5ad5789f1c01cb433404357dc07caf"), looks := false }, kinds := [], alts := [], laidByText := true, laidKinds := [.data, .data, .data], laidTests := true, laidLooks := .later }
def WriteTellsCardSaid : Prop := Claim7.holds Tryd.pinned (.plain (OpenSpec.ofChange writeTellsSpec)) writeTellsCard

/-- THE TIED CARD OF 'rifflelaw15.WriteSteps'. -/
def writeStepsCard : Claim7 := { stood := { row := writeStepsRow, standIns := [], harness := (true, "83103e6339865bc9583454e02af0012eab5ad5789f1c01cb433404357dc07caf"), looks := false }, kinds := [], alts := [], laidByText := true, laidKinds := [.data, .data, .data], laidTests := true, laidLooks := .later }
def WriteStepsCardSaid : Prop := Claim7.holds Tryd.pinned (.plain (OpenSpec.ofChange writeStepsSpec)) writeStepsCard

/-- THE SECOND FORM's CARD OF 'rifflelaw15.WriteTells'. -/
def writeTellsUptoCard : Claim7 := { stood := { row := writeTellsUptoRow, standIns := [], harness := (true, "83103e6339865bc9583454e02af0012eab5ad5789f1c01cb433404357dc07caf"), looks := false }, kinds := [], alts := [], laidByText := true, laidKinds := [.data, .data, .data], laidTests := true, laidLooks := .later }
def WriteTellsUptoCardSaid : Prop := Claim7.holds Tryd.pinned (.plain (OpenSpec.upto writeTellsSpec)) writeTellsUptoCard

/-- THE SECOND FORM's CARD OF 'rifflelaw15.WriteSteps'. -/
def writeStepsUptoCard : Claim7 := { stood := { row := writeStepsUptoRow, standIns := [], harness := (true, "83103e6339865bc9583454e02af0012eab5ad5789f1c01cb433404357dc07caf"), looks := false }, kinds := [], alts := [], laidByText := true, laidKinds := [.data, .data, .data], laidTests := true, laidLooks := .later }
def WriteStepsUptoCardSaid : Prop := Claim7.holds Tryd.pinned (.plain (OpenSpec.upto writeStepsSpec)) writeStepsUptoCard
end Rows
end Go.Proofs.YtmgdjlkndbejkaaDoor
