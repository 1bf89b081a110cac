/- Lemmas. -/
import Derived.Test.YtmgdjlkndbejkaaGreatDoorJ39
import Derived.Test.YtmgdjlkndbejkaaGreatDoorJ31
import Derived.Test.YtmgdjlkndbejkaaGreatDoorJ04
import Derived.Lib.LaidTab
import Derived.SizedLaws
set_option maxRecDepth 100000
set_option maxHeartbeats 8000000
set_option linter.unusedVariables false
namespace Go.Proofs.YtmgdjlkndbejkaaGreatDoor
section
open Go.RowKit Go.ChangeShapes
theorem writeB_prog:WriteB Pow13 where
 stay:=fun w w' h hb=>h.stay hb
 right:=fun xs A n c w _ hx hs=>wright15_any xs A n c w hx hs
 text:=fun xs A n c w h hx hs=>wtext15_any xs A n c w h hx hs
 same:=fun xs ys A A' n n' c c' w _ hx hy hs hs'=>wsameC xs ys A A' n n' c c' w hx hy hs hs'
theorem queC_pow:QueC Pow13 where
 stay:=fun w w' h hb=>h.stay hb
 int:=fun s w _ hs=>queC.int s w trivial hs
 parse:=fun s w _ hs=>queC.parse s w trivial hs
theorem laidOut13:laidOutB Tryz.prog=true:=by kernel_rfl
theorem pow_of {W : World} {laid : List (String × DataW Unit)} (hn : (laid.all fun x => x.2.handleName?.isNone) = true) (h : laidMetH Tryz.prog laid W) (hm : ("internal/strconv.uint64pow10", Rows.laid_internal_strconv_uint64pow10) ∈ laid) : Pow13 W := by
 obtain ⟨t,ho⟩:=laid_own laidOut13 hn h hm (l:=Lib.pow10Tab.map fun z=>Value.int .u64 z) (by kernel_rfl) (by simp[Lib.pow10Tab]) pow_global
 unfold Pow13 Lib.TabIs World.var?
 rw[pow_global]
 unfold Own at ho
 simp[ho]
theorem tab_of_back15 {W:World}(h:laidMetH Tryz.prog Rows.writeBackUptoRow.laid W):Pow13 W:=pow_of (by kernel_rfl) h (.tail _ (.tail _ (.head _)))
theorem writeBack_walk (A:Option Addr) (n c:Nat) (xs:List Sgm) (s:ByteArray) (W:World) (hT:Pow13 W) (hx:QRd W A n xs) (hw:wq xs≤2000000) (hs:s.size≤maxLen) :
   Calls Tryz.prog 3 #[.slice A n c,.string s] W fun e w'=>e=.returned (.bool true)∧Below W.heap.size W w' :=
 writeBack_core writeB_prog queC_pow xs A n c s W hT hx hw hs
end
end Go.Proofs.YtmgdjlkndbejkaaGreatDoor
