/-
  DERIVED. GIVEN WITH THE SEED: THE CARDS: each row of YtoahnbjpmbhpfaaDoorRows.lean that lists a variable, with what it lists TIED to the program's text (the seventh form; the later family's looks); each row that meets fmt, with fmt's text TOLD by the authors' own Lean function (tested against real Go, not proved from fmt's source: count such statements apart). THE CARD IS WHAT COUNTS. Prove the row's statement (the work); the ties are given (YtoahnbjpmbhpfaaDoorTie.lean); close each card by the builder's one call (the guide's Derived/Test/ToyasCard.lean, 'card_holds'). Laid BY PROGRAM, IN A SANDBOX (cutbox-door.mjs). By AI agents, Wed Nov 11 2026. No macro, syntax, notation, axiom, sorry.
-/
import Derived.Test.YtoahnbjpmbhpfaaDoorRows
import GoSem.ClaimSeven
namespace Go.Proofs.YtoahnbjpmbhpfaaDoor
namespace Rows

/-- THE TIED CARD OF 'rifflelaw07.LexSpans'. -/
def lexSpansCard : Claim7 := { stood := { row := lexSpansRow, standIns := [], harness := (true, "2aac0a21fc5d5c4592d709f635204bdb5fa7db2be4b1f6afe830e573f0269714"), looks := false }, kinds := [], alts := [], laidByText := true, laidKinds := [.data], laidTests := true, laidLooks := .later }
def LexSpansCardSaid : Prop := Claim7.holds Tryd.pinned (.plain (OpenSpec.ofChange lexSpansSpec)) lexSpansCard

/-- THE SECOND FORM's CARD OF 'rifflelaw07.LexSpans'. -/
def lexSpansUptoCard : Claim7 := { stood := { row := lexSpansUptoRow, standIns := [], harness := (true, "2aac0a21fc5d5c4592d709f635204bdb5fa7db2be4b1f6afe830e573f0269714"), looks := false }, kinds := [], alts := [], laidByText := true, laidKinds := [.data], laidTests := true, laidLooks := .later }
def LexSpansUptoCardSaid : Prop := Claim7.holds Tryd.pinned (.plain (OpenSpec.upto lexSpansSpec)) lexSpansUptoCard
end Rows
end Go.Proofs.YtoahnbjpmbhpfaaDoor
