/- Lemmas. -/
import Derived.Test.YtmgdjlkndbejkaaDoorJ33
import Derived.Test.YtmgdjlkndbejkaaDoorJ05
import Derived.Lib.LaidTab
import Derived.SizedLaws
set_option maxRecDepth 100000
set_option maxHeartbeats 8000000
set_option linter.unusedVariables false
namespace Go.Proofs.YtmgdjlkndbejkaaDoor
section
open Go.RowKit Go.ChangeShapes
theorem writeC_prog:WriteC Pow13 where
 stay:=fun w w' h hb=>h.stay hb
 right:=fun xs A n c w _ hx hs=>wright15_any xs A n c w hx hs
 text:=fun xs A n c w h hx hs=>wtext15_any xs A n c w h hx hs
 selector:=fun y w h hz=>wselector15_any y w h hz
 same:=fun xs ys A A' n n' c c' w _ hx hy hs hs'=>wsameC xs ys A A' n n' c c' w hx hy hs hs'
 clone:=fun xs A n c w _ hx hs=>wclone15_any xs A n c w hx hs
theorem laidOut13:laidOutB Tryd.prog=true:=by kernel_rfl
theorem pow_of {W : World} {laid : List (String × DataW Unit)} (hn : (laid.all fun x => x.2.handleName?.isNone) = true) (h : laidMetH Tryd.prog laid W) (hm : ("internal/strconv.uint64pow10", Rows.laid_internal_strconv_uint64pow10) ∈ laid) : Pow13 W := by
 obtain ⟨t,ho⟩:=laid_own laidOut13 hn h hm (l:=Lib.pow10Tab.map fun z=>Value.int .u64 z) (by kernel_rfl) (by simp[Lib.pow10Tab]) pow_global
 unfold Pow13 Lib.TabIs World.var?
 rw[pow_global]
 unfold Own at ho
 simp[ho]
theorem tab_of_tells {W:World}(h:laidMetH Tryd.prog Rows.writeTellsUptoRow.laid W):Pow13 W:=pow_of (by kernel_rfl) h (.tail _ (.tail _ (.head _)))
theorem writeTells_walk (A:Option Addr) (n c:Nat) (xs:List Sgm) (A':Option Addr) (n' c':Nat) (ys:List Sgm) (W:World) (hT:Pow13 W) (hx:QRd W A n xs) (hw:wq xs≤2000000) (hy:QRd W A' n' ys) (hw':wq ys≤2000000) :
   Calls Tryd.prog 3 #[.slice A n c,.slice A' n' c'] W fun e w'=>e=.returned (.bool true)∧Below W.heap.size W w' :=
 writeTells_core writeC_prog xs ys A A' n n' c c' W hT hx hy hw hw'
end
end Go.Proofs.YtmgdjlkndbejkaaDoor
