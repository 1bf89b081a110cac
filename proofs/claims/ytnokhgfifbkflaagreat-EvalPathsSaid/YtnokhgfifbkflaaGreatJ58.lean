/- Lemmas. -/
import Derived.Test.YtnokhgfifbkflaaGreatProg
import Derived.Test.YtnokhgfifbkflaaGreatJ40
import Derived.Test.YtnokhgfifbkflaaGreatJ57
set_option maxRecDepth 100000
set_option maxHeartbeats 8000000
set_option linter.unusedVariables false
set_option linter.unusedSimpArgs false
namespace Go.Proofs.YtnokhgfifbkflaaGreat
section
open Go.RowKit
theorem evalPaths_walk (B:Option Addr) (bl bc:Nat) (zs:List Int) (A:Option Addr) (n c:Nat) (q:List Sgm) (W:World) (h:IsRow .u8 W B bl bc zs) (hq:QRd W A n q) (hs:ReQ q∧n≤maxLen) :
   Calls Tryz.prog 5 #[.slice B bl bc,.slice A n c] W fun e w'=>e=.returned (.bool true)∧Below W.heap.size W w' :=
 evalPaths_all q A n c B bl bc W hq (given_row h hq hs)
end
end Go.Proofs.YtnokhgfifbkflaaGreat
