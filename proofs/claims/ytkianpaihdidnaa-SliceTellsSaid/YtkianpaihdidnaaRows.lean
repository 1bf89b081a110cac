/-
  No cell of these rows narrows 'for every input' (looked for: loops, veiled, ifaces, maps, wideKeys, modest, calm, conditions, laid).
  DERIVED. THE GIVEN ROWS OF THIS SEAT. 3 by the template 'for every input the law returns true; each argument reads behind the call as it read before'; 0 by the template 'total and deterministic' (their statements: YtkianpaihdidnaaTotals.lean).
  GIVEN WITH THE SEED: the statements are not yours to turn. If you find one false, say at which input.
  Laid BY PROGRAM, IN A SANDBOX (cutbox-rows.mjs): the forced cells as the released guide's own fill.sh prints them over the translation 6496ab549a8d11b4… (all of the seat's roots in one cut). By AI agents, Wed Nov 11 2026. No macro, syntax, notation, axiom, sorry.
-/
import Derived.Test.YtkianpaihdidnaaChecked
import GoSem.Claim
import GoSem.ClaimJoined
import GoSem.ClaimMapViews
import Derived.JoinedTies
import Derived.KernelRfl
namespace Go.Proofs.Ytkianpaihdidnaa
/- THE CELL 'sum', in the pinned program and in every row, IS THE sha256 OF THE DUMP (.gsa) THAT YtkianpaihdidnaaProg.lean LOADS. Nothing in Lean hashes anything: it is a label: what it is worth is what the hold of that sum in a sandbox is worth. -/
noncomputable def Try.pinned : Pinned := { name := "ytkianpaihdidnaa", sum := "6496ab549a8d11b467d843c74cadc89d0254fab5f878b41ba9418d2e4ea54a43", checked := Try.checked }
namespace Rows
def none {H : Type} : Left H := { results := [], args := [] }

/-- 'rifflelaw12.SliceTells': WHATEVER THE INPUT: true; the input reads as it did. -/
def sliceTellsSpec : ChangeSpec := { name := "sliceTells", fn := fun _ => fun
  | [d1, d2, d3] => { results := [.lit (.bool true)], args := [d1, d2, d3] }
  | _ => none }
def sliceTellsRow : OpenClaim := { program := "ytkianpaihdidnaa", sum := "6496ab549a8d11b467d843c74cadc89d0254fab5f878b41ba9418d2e4ea54a43", func := "riffle/rifflelaw12.SliceTells", spec := "sliceTells", apart := false }
def SliceTellsSaid : Prop := sliceTellsRow.holds Try.pinned (OpenSpec.ofChange sliceTellsSpec)

/-- ITS FALSE NEIGHBOUR: 'it returns false'. Refute it at one input. -/
def sliceTellsWrong : ChangeSpec := { name := "sliceTells", fn := fun _ => fun
  | [d1, d2, d3] => { results := [.lit (.bool false)], args := [d1, d2, d3] }
  | _ => none }
def SliceTellsWrongFalsely : Prop := sliceTellsRow.holds Try.pinned (OpenSpec.ofChange sliceTellsWrong)

/-- 'rifflelaw12.SliceAlls': WHATEVER THE INPUT: true; the input reads as it did. -/
def sliceAllsSpec : ChangeSpec := { name := "sliceAlls", fn := fun _ => fun
  | [d1, d2] => { results := [.lit (.bool true)], args := [d1, d2] }
  | _ => none }
def sliceAllsRow : OpenClaim := { program := "ytkianpaihdidnaa", sum := "6496ab549a8d11b467d843c74cadc89d0254fab5f878b41ba9418d2e4ea54a43", func := "riffle/rifflelaw12.SliceAlls", spec := "sliceAlls", apart := false }
def SliceAllsSaid : Prop := sliceAllsRow.holds Try.pinned (OpenSpec.ofChange sliceAllsSpec)

/-- ITS FALSE NEIGHBOUR: 'it returns false'. Refute it at one input. -/
def sliceAllsWrong : ChangeSpec := { name := "sliceAlls", fn := fun _ => fun
  | [d1, d2] => { results := [.lit (.bool false)], args := [d1, d2] }
  | _ => none }
def SliceAllsWrongFalsely : Prop := sliceAllsRow.holds Try.pinned (OpenSpec.ofChange sliceAllsWrong)

/-- 'rifflelaw12.SliceHangs': WHATEVER THE INPUT: true; the input reads as it did. -/
def sliceHangsSpec : ChangeSpec := { name := "sliceHangs", fn := fun _ => fun
  | [d1, d2, d3] => { results := [.lit (.bool true)], args := [d1, d2, d3] }
  | _ => none }
def sliceHangsRow : OpenClaim := { program := "ytkianpaihdidnaa", sum := "6496ab549a8d11b467d843c74cadc89d0254fab5f878b41ba9418d2e4ea54a43", func := "riffle/rifflelaw12.SliceHangs", spec := "sliceHangs", apart := false }
def SliceHangsSaid : Prop := sliceHangsRow.holds Try.pinned (OpenSpec.ofChange sliceHangsSpec)

/-- ITS FALSE NEIGHBOUR: 'it returns false'. Refute it at one input. -/
def sliceHangsWrong : ChangeSpec := { name := "sliceHangs", fn := fun _ => fun
  | [d1, d2, d3] => { results := [.lit (.bool false)], args := [d1, d2, d3] }
  | _ => none }
def SliceHangsWrongFalsely : Prop := sliceHangsRow.holds Try.pinned (OpenSpec.ofChange sliceHangsWrong)

/- THE SECOND FORM. 'bulk': how many values and letters a reading holds, each counted each time it is reached (what is shared counts as often as it is met; a slice's spare places count too). A statement '..UptoSaid' is the law's where the arguments, and the package variables that the reading takes, are together of bulk at most 1048576: NARROWER than '..Said'. Prove '..Said' where nothing that the law and all that it calls make is longer than what came in: it says more and counts as full. Else prove '..UptoSaid'. A law counts once. -/
mutual
def uptoBulk {H : Type} : DataW H → Nat
  | .lit (.string bytes) => bytes.length + 1
  | .lit _ => 1
  | .nil => 1
  | .ptr d => uptoBulk d + 1
  | .slice elems spare => uptoBulkAll elems + uptoBulkAll spare + 1
  | .agg parts => uptoBulkAll parts + 1
  | .iface _ d => uptoBulk d + 1
  | .map entries => uptoBulkEntries entries + 1
  | .held _ => 1
def uptoBulkAll {H : Type} : List (DataW H) → Nat
  | [] => 0
  | d :: r => uptoBulk d + uptoBulkAll r
def uptoBulkEntries {H : Type} : List (Lit × DataW H) → Nat
  | [] => 0
  | x :: r => uptoBulkEntry x + uptoBulkEntries r
def uptoBulkEntry {H : Type} : Lit × DataW H → Nat
  | (.string bytes, d) => bytes.length + uptoBulk d + 1
  | (_, d) => uptoBulk d + 1
 end
def uptoSmall : (H : Type) → List (DataW H) → Bool := fun _ ds => decide (uptoBulkAll ds ≤ 1048576)
def OpenSpec.upto (s : _root_.Go.ChangeSpec) : _root_.Go.OpenSpec := { _root_.Go.OpenSpec.ofChange s with cond := some uptoSmall }

/-- 'rifflelaw12.SliceTells', WHERE WHAT IT READS IS OF BULK AT MOST 1048576: true; the input reads as it did. -/
def sliceTellsUptoRow : OpenClaim := { program := "ytkianpaihdidnaa", sum := "6496ab549a8d11b467d843c74cadc89d0254fab5f878b41ba9418d2e4ea54a43", func := "riffle/rifflelaw12.SliceTells", spec := "sliceTells", apart := false, narrowed := true }
def SliceTellsUptoSaid : Prop := sliceTellsUptoRow.holds Try.pinned (OpenSpec.upto sliceTellsSpec)

/-- 'rifflelaw12.SliceAlls', WHERE WHAT IT READS IS OF BULK AT MOST 1048576: true; the input reads as it did. -/
def sliceAllsUptoRow : OpenClaim := { program := "ytkianpaihdidnaa", sum := "6496ab549a8d11b467d843c74cadc89d0254fab5f878b41ba9418d2e4ea54a43", func := "riffle/rifflelaw12.SliceAlls", spec := "sliceAlls", apart := false, narrowed := true }
def SliceAllsUptoSaid : Prop := sliceAllsUptoRow.holds Try.pinned (OpenSpec.upto sliceAllsSpec)

/-- 'rifflelaw12.SliceHangs', WHERE WHAT IT READS IS OF BULK AT MOST 1048576: true; the input reads as it did. -/
def sliceHangsUptoRow : OpenClaim := { program := "ytkianpaihdidnaa", sum := "6496ab549a8d11b467d843c74cadc89d0254fab5f878b41ba9418d2e4ea54a43", func := "riffle/rifflelaw12.SliceHangs", spec := "sliceHangs", apart := false, narrowed := true }
def SliceHangsUptoSaid : Prop := sliceHangsUptoRow.holds Try.pinned (OpenSpec.upto sliceHangsSpec)

end Rows
end Go.Proofs.Ytkianpaihdidnaa
