/- Lemmas. -/
import Derived.Test.YtnokhgfifbkflaaGreatProg
import Derived.Test.YtnokhgfifbkflaaGreatJ40
import Derived.Test.YtnokhgfifbkflaaGreatJ49
set_option maxRecDepth 100000
set_option maxHeartbeats 8000000
set_option linter.unusedVariables false
set_option linter.unusedSimpArgs false
namespace Go.Proofs.YtnokhgfifbkflaaGreat
section
open Go.RowKit
theorem evalRows_walk (B:Option Addr) (bl bc:Nat) (zs:List Int) (A:Option Addr) (n c:Nat) (q:List Sgm) (W:World) (h:IsRow .u8 W B bl bc zs) (hq:QRd W A n q) (hs:ReQ q∧n≤maxLen) :
   Calls Tryz.prog 4 #[.slice B bl bc,.slice A n c] W fun e w'=>e=.returned (.bool true)∧Below W.heap.size W w' :=
 evalRows_all (G:=fun _=>True) (X:=FitV) (fun v h=>⟨h.1,h.2.1⟩) (fun _ _ _ _=>trivial) (fun w _=>evalAlive_any w) q A n c B bl bc W trivial hq (given_row h hq hs)
end
end Go.Proofs.YtnokhgfifbkflaaGreat
