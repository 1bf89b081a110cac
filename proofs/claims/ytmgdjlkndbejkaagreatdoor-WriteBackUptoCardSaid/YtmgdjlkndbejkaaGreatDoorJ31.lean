/- Lemmas. -/
import Derived.Test.YtmgdjlkndbejkaaGreatDoorJ30
set_option maxRecDepth 100000
set_option maxHeartbeats 8000000
set_option linter.unusedVariables false
set_option linter.unusedSimpArgs false
namespace Go.Proofs.YtmgdjlkndbejkaaGreatDoor
open Go.Lib (hid)
section
open Go.RowKit
theorem wtext_no (xs:List Sgm) (A:Option Addr) (n c:Nat) (W:World) (hx:QRd W A n xs) (hs:SmQ xs) (hr:rightQ xs=false) :
   Calls Tryz.prog 6 #[.slice A n c] W fun e w'=>e=.returned (.string ⟨(putQ xs).toArray⟩)∧Below W.heap.size W w':=by
 have KR:=wright15_any xs A n c W hx hs
 rw[hr] at KR
 have KR:=hid KR
 have HP:=hid (show putQ xs=[] by unfold putQ;rw[hr];rfl)
 rw[HP.out]
 clear hx hs hr HP
 go_enter Tryz.func6,Tryz.ntmps6
 go_wp2_with (go_at_call 8;refine KR.out.mono ?_;rintro e w1 ⟨rfl,hb1⟩;have HB1:=hid hb1;clear hb1)
 go_ret
 exact ⟨rfl,HB1.out⟩
theorem wtext15_any (xs:List Sgm) (A:Option Addr) (n c:Nat) (W:World) (hT:Pow13 W) (hx:QRd W A n xs) (hs:SmQ xs) :
   Calls Tryz.prog 6 #[.slice A n c] W fun e w'=>e=.returned (.string ⟨(putQ xs).toArray⟩)∧Below W.heap.size W w':=by
 cases hr:rightQ xs with
 | false=>exact wtext_no xs A n c W hx hs hr
 | true=>exact wtext_yes xs A n c W hT hx hs hr
theorem wsameC (xs ys:List Sgm) (A A':Option Addr) (n n' c c':Nat) (w:World) (hx:QRd w A n xs) (hy:QRd w A' n' ys) (hs:SmQ xs) (hs':SmQ ys) :
   Calls Tryz.prog 9 #[.slice A n c,.slice A' n' c'] w (SqEnd xs ys w) :=
 wsame15_any xs ys A A' n n' c c' w hx hy (by have:=hx.1;have:=hs.1;omega) (by have:=hy.1;have:=hs'.1;omega) (fun x h=>Nat.le_trans (hs.2 x h).1 (by omega)) (fun x h=>Nat.le_trans (hs'.2 x h).1 (by omega))
end
end Go.Proofs.YtmgdjlkndbejkaaGreatDoor
