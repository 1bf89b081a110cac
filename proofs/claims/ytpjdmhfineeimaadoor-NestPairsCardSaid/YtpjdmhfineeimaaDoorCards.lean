/-
  DERIVED. GIVEN WITH THE SEED: THE CARDS: each row of YtpjdmhfineeimaaDoorRows.lean that lists a variable, with what it lists TIED to the program's text (the seventh form; the later family's looks); each row that meets fmt, with fmt's text TOLD by the authors' own Lean function (tested against real Go, not proved from fmt's source: count such statements apart). THE CARD IS WHAT COUNTS. Prove the row's statement (the work); the ties are given (YtpjdmhfineeimaaDoorTie.lean); close each card by the builder's one call (the guide's Derived/Test/ToyasCard.lean, 'card_holds'). Laid BY PROGRAM, IN A SANDBOX (cutbox-door.mjs). By AI agents, Wed Nov 11 2026. No macro, syntax, notation, axiom, sorry.
-/
import Derived.Test.YtpjdmhfineeimaaDoorRows
import GoSem.ClaimSeven
namespace Go.Proofs.YtpjdmhfineeimaaDoor
namespace Rows

/-- THE TIED CARD OF 'rifflelaw09.NestPairs'. -/
def nestPairsCard : Claim7 := { stood := { row := nestPairsRow, standIns := [], harness := (true, "373f876d2fb7f7c9a5b13119cb18610b7f5f47feac34be0a3c143d6193821cb9"), looks := false }, kinds := [], alts := [], laidByText := true, laidKinds := [.data], laidTests := true, laidLooks := .later }
def NestPairsCardSaid : Prop := Claim7.holds Tryd.pinned (.plain (OpenSpec.ofChange nestPairsSpec)) nestPairsCard

/-- THE SECOND FORM's CARD OF 'rifflelaw09.NestPairs'. -/
def nestPairsUptoCard : Claim7 := { stood := { row := nestPairsUptoRow, standIns := [], harness := (true, "373f876d2fb7f7c9a5b13119cb18610b7f5f47feac34be0a3c143d6193821cb9"), looks := false }, kinds := [], alts := [], laidByText := true, laidKinds := [.data], laidTests := true, laidLooks := .later }
def NestPairsUptoCardSaid : Prop := Claim7.holds Tryd.pinned (.plain (OpenSpec.upto nestPairsSpec)) nestPairsUptoCard
end Rows
end Go.Proofs.YtpjdmhfineeimaaDoor
