/-
  No cell of these rows narrows 'for every input' (looked for: loops, veiled, ifaces, maps, wideKeys, modest, calm, conditions, laid).
  DERIVED. THE GIVEN ROWS OF THIS SEAT. 2 by the template 'for every input the law returns true; each argument reads behind the call as it read before'; 0 by the template 'total and deterministic' (their statements: YtcphjojfbihapaaTotals.lean).
  GIVEN WITH THE SEED: the statements are not yours to turn. If you find one false, say at which input.
  Laid BY PROGRAM, IN A SANDBOX (cutbox-rows.mjs): the forced cells as the released guide's own fill.sh prints them over the translation fc2606f310bdb438… (all of the seat's roots in one cut). By AI agents, Wed Nov 11 2026. No macro, syntax, notation, axiom, sorry.
-/
import Derived.Test.YtcphjojfbihapaaChecked
import GoSem.Claim
import GoSem.ClaimJoined
import GoSem.ClaimMapViews
import Derived.JoinedTies
import Derived.KernelRfl
namespace Go.Proofs.Ytcphjojfbihapaa
/- THE CELL 'sum', in the pinned program and in every row, IS THE sha256 OF THE DUMP (.gsa) THAT YtcphjojfbihapaaProg.lean LOADS. Nothing in Lean hashes anything: it is a label: what it is worth is what the hold of that sum in a sandbox is worth. -/
noncomputable def Try.pinned : Pinned := { name := "ytcphjojfbihapaa", sum := "fc2606f310bdb43894c171d5665a28c6f2b82c8be54e98f5b211639cf128f045", checked := Try.checked }
namespace Rows
def none {H : Type} : Left H := { results := [], args := [] }

/-- 'rifflelaw03.CursorCuts': WHATEVER THE INPUT: true; the input reads as it did. -/
def cursorCutsSpec : ChangeSpec := { name := "cursorCuts", fn := fun _ => fun
  | [d1, d2] => { results := [.lit (.bool true)], args := [d1, d2] }
  | _ => none }
def cursorCutsRow : OpenClaim := { program := "ytcphjojfbihapaa", sum := "fc2606f310bdb43894c171d5665a28c6f2b82c8be54e98f5b211639cf128f045", func := "riffle/rifflelaw03.CursorCuts", spec := "cursorCuts", inPlace := ["internal/bytealg.MakeNoZero"], apart := false }
def CursorCutsSaid : Prop := cursorCutsRow.holds Try.pinned (OpenSpec.ofChange cursorCutsSpec)

/-- ITS FALSE NEIGHBOUR: 'it returns false'. Refute it at one input. -/
def cursorCutsWrong : ChangeSpec := { name := "cursorCuts", fn := fun _ => fun
  | [d1, d2] => { results := [.lit (.bool false)], args := [d1, d2] }
  | _ => none }
def CursorCutsWrongFalsely : Prop := cursorCutsRow.holds Try.pinned (OpenSpec.ofChange cursorCutsWrong)

/-- 'rifflelaw03.CursorTwice': WHATEVER THE INPUT: true; the input reads as it did. -/
def cursorTwiceSpec : ChangeSpec := { name := "cursorTwice", fn := fun _ => fun
  | [d1, d2, d3] => { results := [.lit (.bool true)], args := [d1, d2, d3] }
  | _ => none }
def cursorTwiceRow : OpenClaim := { program := "ytcphjojfbihapaa", sum := "fc2606f310bdb43894c171d5665a28c6f2b82c8be54e98f5b211639cf128f045", func := "riffle/rifflelaw03.CursorTwice", spec := "cursorTwice", apart := false }
def CursorTwiceSaid : Prop := cursorTwiceRow.holds Try.pinned (OpenSpec.ofChange cursorTwiceSpec)

/-- ITS FALSE NEIGHBOUR: 'it returns false'. Refute it at one input. -/
def cursorTwiceWrong : ChangeSpec := { name := "cursorTwice", fn := fun _ => fun
  | [d1, d2, d3] => { results := [.lit (.bool false)], args := [d1, d2, d3] }
  | _ => none }
def CursorTwiceWrongFalsely : Prop := cursorTwiceRow.holds Try.pinned (OpenSpec.ofChange cursorTwiceWrong)

/- THE SECOND FORM. 'bulk': how many values and letters a reading holds, each counted each time it is reached (what is shared counts as often as it is met; a slice's spare places count too). A statement '..UptoSaid' is the law's where the arguments, and the package variables that the reading takes, are together of bulk at most 1048576: NARROWER than '..Said'. Prove '..Said' where nothing that the law and all that it calls make is longer than what came in: it says more and counts as full. Else prove '..UptoSaid'. A law counts once. -/
mutual
def uptoBulk {H : Type} : DataW H → Nat
  | .lit (.string bytes) => bytes.length + 1
  | .lit _ => 1
  | .nil => 1
  | .ptr d => uptoBulk d + 1
  | .slice elems spare => uptoBulkAll elems + uptoBulkAll spare + 1
  | .agg parts => uptoBulkAll parts + 1
  | .iface _ d => uptoBulk d + 1
  | .map entries => uptoBulkEntries entries + 1
  | .held _ => 1
def uptoBulkAll {H : Type} : List (DataW H) → Nat
  | [] => 0
  | d :: r => uptoBulk d + uptoBulkAll r
def uptoBulkEntries {H : Type} : List (Lit × DataW H) → Nat
  | [] => 0
  | x :: r => uptoBulkEntry x + uptoBulkEntries r
def uptoBulkEntry {H : Type} : Lit × DataW H → Nat
  | (.string bytes, d) => bytes.length + uptoBulk d + 1
  | (_, d) => uptoBulk d + 1
 end
def uptoSmall : (H : Type) → List (DataW H) → Bool := fun _ ds => decide (uptoBulkAll ds ≤ 1048576)
def OpenSpec.upto (s : _root_.Go.ChangeSpec) : _root_.Go.OpenSpec := { _root_.Go.OpenSpec.ofChange s with cond := some uptoSmall }

/-- 'rifflelaw03.CursorCuts', WHERE WHAT IT READS IS OF BULK AT MOST 1048576: true; the input reads as it did. -/
def cursorCutsUptoRow : OpenClaim := { program := "ytcphjojfbihapaa", sum := "fc2606f310bdb43894c171d5665a28c6f2b82c8be54e98f5b211639cf128f045", func := "riffle/rifflelaw03.CursorCuts", spec := "cursorCuts", inPlace := ["internal/bytealg.MakeNoZero"], apart := false, narrowed := true }
def CursorCutsUptoSaid : Prop := cursorCutsUptoRow.holds Try.pinned (OpenSpec.upto cursorCutsSpec)

/-- 'rifflelaw03.CursorTwice', WHERE WHAT IT READS IS OF BULK AT MOST 1048576: true; the input reads as it did. -/
def cursorTwiceUptoRow : OpenClaim := { program := "ytcphjojfbihapaa", sum := "fc2606f310bdb43894c171d5665a28c6f2b82c8be54e98f5b211639cf128f045", func := "riffle/rifflelaw03.CursorTwice", spec := "cursorTwice", apart := false, narrowed := true }
def CursorTwiceUptoSaid : Prop := cursorTwiceUptoRow.holds Try.pinned (OpenSpec.upto cursorTwiceSpec)

end Rows
end Go.Proofs.Ytcphjojfbihapaa
