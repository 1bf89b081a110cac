/- The three walks of layer 12, whole. -/
import Derived.Test.YtkianpaihdidnaaRows
import Derived.Test.YtkianpaihdidnaaRef12E
import Derived.Test.YtkianpaihdidnaaSliB
import Derived.Test.YtkianpaihdidnaaLaw12S
import Derived.Test.YtkianpaihdidnaaSelF
import Derived.WideKeyPair
namespace Go.Proofs.Ytkianpaihdidnaa
open Go.RowKit
set_option linter.unusedVariables false

theorem sliceTells_walk (s : Sel) (i m : Int) (W : World) (hi : (Lit.int .i64 i).wf = true) (hm : (Lit.int .i64 m).wf = true) :
    Calls Try.prog 3 #[.agg (selV s), .int .i64 i, .int .i64 m] W fun e w' => e = .returned (.bool true) ∧ Below W.heap.size W w' :=
  sliceTells_core sliceC (fun w => sliceAlive_walk sliceC w) s i m W hi
theorem sliceAlls_walk (s : Sel) (m : Int) (W : World) (hm : (Lit.int .u8 m).wf = true) :
    Calls Try.prog 4 #[.agg (selV s), .int .u8 m] W fun e w' => e = .returned (.bool true) ∧ Below W.heap.size W w' :=
  sliceAlls_core sliceC (fun w => sliceAlive_walk sliceC w) s m W hm
theorem sliceHangs_walk (s : Sel) (i m k : Int) (W : World) (hi : (Lit.int .i64 i).wf = true) (hm : (Lit.int .i64 m).wf = true) (hk : (Lit.int .i64 k).wf = true) :
    Calls Try.prog 5 #[.agg (selV s), .int .i64 i, .agg #[.int .i64 m, .int .i64 k]] W fun e w' => e = .returned (.bool true) ∧ Below W.heap.size W w' :=
  sliceHangs_core sliceC (fun w => sliceAlive_walk sliceC w) s i m k W hi hm hk

end Go.Proofs.Ytkianpaihdidnaa
