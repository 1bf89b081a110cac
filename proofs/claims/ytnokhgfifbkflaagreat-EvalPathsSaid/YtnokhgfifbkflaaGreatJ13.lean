/- Lemmas. -/
import Derived.Test.YtnokhgfifbkflaaGreatProg
import Derived.Test.YtnokhgfifbkflaaGreatJ12
set_option maxRecDepth 100000
set_option maxHeartbeats 8000000
set_option linter.unusedVariables false
namespace Go.Proofs.YtnokhgfifbkflaaGreat
section
open Go.RowKit
section
variable {w w1 w2:World} {b:Nat} {F:Nat→Prop} {l l1 l2:List UInt8}
end
theorem BldS.bound {w:World} {b:Nat} {F:Nat→Prop} {l:List UInt8} (h:BldS w b F l):BldS w b (fun k=>F k∧k<w.heap.size) l:=by
 obtain ⟨p,v,hp,ho,hr,hb,hg⟩:=h
 exact ⟨p,v,hp,ho,hr,⟨hb,ho.inside⟩,fun g e=>⟨⟨(hg g e).1,(hr.lt g e).2⟩,(hg g e).2⟩⟩
end
end Go.Proofs.YtnokhgfifbkflaaGreat
