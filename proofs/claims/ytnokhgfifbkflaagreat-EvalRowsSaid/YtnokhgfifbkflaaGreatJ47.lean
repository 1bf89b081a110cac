/- Lemmas. -/
import Derived.Test.YtnokhgfifbkflaaGreatJ10
set_option maxRecDepth 100000
set_option maxHeartbeats 8000000
set_option linter.unusedVariables false
namespace Go.Proofs.YtnokhgfifbkflaaGreat
section
structure Evt where
 kind:Int
 value:Int
 fr:Nat
 to:Nat
 step:Stp
 text:List UInt8
def stepO:List Opn→Stp
 | []=>⟨false,[],0⟩
 | o :: _=>if o.obj then ⟨true,o.name,0⟩ else ⟨false,[],o.many⟩
def beginK (k:Int):Int:=if k=8 then 3 else if k=9 then 2 else 0
def May.val:May→Bool
 | .value=>true
 | .item=>true
 | _=>false
end
section
def evP (n:Nst):Option (Int×Nat)→List Evt
 | some (k,f)=>if n.may.val then [⟨1,beginK k,f,0,stepO n.op,[]⟩] else []
 | none=>[]
def May.isNothing:May→Bool
 | .nothing=>true
 | _=>false
def cB (n:Nst)(p:Option (Int×Nat)):Nat:=if (evP n p).isEmpty && !n.may.isNothing then 0 else 1
section
variable {n:Nst} {s:Nat×Option Nat} {p:Option (Int×Nat)}
end
end
end Go.Proofs.YtnokhgfifbkflaaGreat
