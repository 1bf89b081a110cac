/- Lemmas. -/
import Derived.Test.YtnokhgfifbkflaaGreatJ08
import Derived.Lib.AtoiAll
set_option maxRecDepth 100000
set_option maxHeartbeats 8000000
set_option linter.unusedVariables false
namespace Go.Proofs.YtnokhgfifbkflaaGreat
section
open Go.RowKit
def runD:List UInt8→Nat
 | []=>0
 | c :: t=>if digB c then runD t+1 else 0
theorem runD_le:∀ l,runD l≤l.length
 | []=>Nat.le_refl _
 | c :: t=>by
   have:=runD_le t
   unfold runD
   split
   ·simpa using this
   ·simp
theorem valD_mono:∀ (ds:List UInt8) (a:Nat),a≤valD ds a
 | [],a=>Nat.le_refl _
 | c :: t,a=>by
   have:=valD_mono t (a*10+(c.toNat-48))
   show a≤valD t (a*10+(c.toNat-48))
   omega
end
end Go.Proofs.YtnokhgfifbkflaaGreat
