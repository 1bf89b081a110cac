/-
  DERIVED. GIVEN WITH THE SEED: THE CARDS: each row of YthpkcapooeedeaaDoorRows.lean that lists a variable, with what it lists TIED to the program's text (the seventh form; the later family's looks); each row that meets fmt, with fmt's text TOLD by the authors' own Lean function (tested against real Go, not proved from fmt's source: count such statements apart). THE CARD IS WHAT COUNTS. Prove the row's statement (the work); the ties are given (YthpkcapooeedeaaDoorTie.lean); close each card by the builder's one call (the guide's Derived/Test/ToyasCard.lean, 'card_holds'). Laid BY PROGRAM, IN A SANDBOX (cutbox-door.mjs). By AI agents, Wed Nov 11 2026. No macro, syntax, notation, axiom, sorry.
-/
import Derived.Test.YthpkcapooeedeaaDoorRows
import GoSem.ClaimSeven
namespace Go.Proofs.YthpkcapooeedeaaDoor
namespace Rows

/-- THE TIED CARD OF 'rifflelaw10.TreeLeast'. -/
def treeLeastCard : Claim7 := { stood := { row := treeLeastRow, standIns := [], harness := (true, "3f8be1d2e5fef34509424e29afd3ccdfb76529fd6049a2a7383ee14cb190e64a"), looks := false }, kinds := [], alts := [], laidByText := true, laidKinds := [.data], laidTests := true, laidLooks := .later }
def TreeLeastCardSaid : Prop := Claim7.holds Tryd.pinned (.plain (OpenSpec.ofChange treeLeastSpec)) treeLeastCard

/-- THE TIED CARD OF 'rifflelaw10.TreeSpans'. -/
def treeSpansCard : Claim7 := { stood := { row := treeSpansRow, standIns := [], harness := (true, "3f8be1d2e5fef34509424e29afd3ccdfb76529fd6049a2a7383ee14cb190e64a"), looks := false }, kinds := [], alts := [], laidByText := true, laidKinds := [.data], laidTests := true, laidLooks := .later }
def TreeSpansCardSaid : Prop := Claim7.holds Tryd.pinned (.plain (OpenSpec.ofChange treeSpansSpec)) treeSpansCard

/-- THE SECOND FORM's CARD OF 'rifflelaw10.TreeLeast'. -/
def treeLeastUptoCard : Claim7 := { stood := { row := treeLeastUptoRow, standIns := [], harness := (true, "3f8be1d2e5fef34509424e29afd3ccdfb76529fd6049a2a7383ee14cb190e64a"), looks := false }, kinds := [], alts := [], laidByText := true, laidKinds := [.data], laidTests := true, laidLooks := .later }
def TreeLeastUptoCardSaid : Prop := Claim7.holds Tryd.pinned (.plain (OpenSpec.upto treeLeastSpec)) treeLeastUptoCard

/-- THE SECOND FORM's CARD OF 'rifflelaw10.TreeSpans'. -/
def treeSpansUptoCard : Claim7 := { stood := { row := treeSpansUptoRow, standIns := [], harness := (true, "3f8be1d2e5fef34509424e29afd3ccdfb76529fd6049a2a7383ee14cb190e64a"), looks := false }, kinds := [], alts := [], laidByText := true, laidKinds := [.data], laidTests := true, laidLooks := .later }
def TreeSpansUptoCardSaid : Prop := Claim7.holds Tryd.pinned (.plain (OpenSpec.upto treeSpansSpec)) treeSpansUptoCard
end Rows
end Go.Proofs.YthpkcapooeedeaaDoor
