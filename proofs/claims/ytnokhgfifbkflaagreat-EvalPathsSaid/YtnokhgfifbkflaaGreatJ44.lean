/- Lemmas. -/
import Derived.Test.YtnokhgfifbkflaaGreatProg
import Derived.Test.YtnokhgfifbkflaaGreatJ36
set_option maxRecDepth 100000
set_option maxHeartbeats 8000000
set_option linter.unusedVariables false
set_option linter.unusedSimpArgs false
namespace Go.Proofs.YtnokhgfifbkflaaGreat
section
open Go.RowKit
mutual
theorem all_len:∀ (t:Tree) (p:List Pst) (w:List Nat),(allN t p w).length=cnT t
 | .mk kd fr td tx items names,p,w=>by
   rw[allN,List.length_cons,allL_len _ items 0 p w,cnT]
   omega
theorem allL_len (v:Tree):∀ (ts:List Tree) (i:Nat) (p:List Pst) (w:List Nat),(allL v ts i p w).length=cnL ts
 | [],i,p,w=>by rw[allL,cnL];rfl
 | t :: ts,i,p,w=>by
   rw[allL,List.length_append,all_len t,allL_len v ts,cnL]
end
end
section
open Go.RowKit
theorem nodes_len (v:Tree) (q:List Sgm):(nodesT v q).length≤cnT v:=by
 unfold nodesT
 rw[List.length_map]
 have:=List.length_filter_le (fun x=>ledT x.2 v q) (allN v [] [])
 rw[all_len] at this
 exact this
end
end Go.Proofs.YtnokhgfifbkflaaGreat
