/- Lemmas. -/
import Derived.Test.YtmgdjlkndbejkaaDoorJ32
import Derived.Test.YtmgdjlkndbejkaaDoorJ26
set_option maxRecDepth 100000
set_option maxHeartbeats 8000000
set_option linter.unusedVariables false
set_option linter.unusedSimpArgs false
namespace Go.Proofs.YtmgdjlkndbejkaaDoor
open Go.Lib (hid)
section
open Go.RowKit
theorem wtext_no (xs:List Sgm) (A:Option Addr) (n c:Nat) (W:World) (hx:QRd W A n xs) (hs:SmQ xs) (hr:rightQ xs=false) :
   Calls Tryd.prog 11 #[.slice A n c] W fun e w'=>e=.returned (.string ⟨(putQ xs).toArray⟩)∧Below W.heap.size W w':=by
 have KR:=wright15_any xs A n c W hx hs
 rw[hr] at KR
 have KR:=hid KR
 have HP:=hid (show putQ xs=[] by unfold putQ;rw[hr];rfl)
 rw[HP.out]
 clear hx hs hr HP
 go_enter Tryd.func11,Tryd.ntmps11
 go_wp2_with (go_at_call 9;refine KR.out.mono ?_;rintro e w1 ⟨rfl,hb1⟩;have HB1:=hid hb1;clear hb1)
 go_ret
 exact ⟨rfl,HB1.out⟩
theorem wtext15_any (xs:List Sgm) (A:Option Addr) (n c:Nat) (W:World) (hT:Pow13 W) (hx:QRd W A n xs) (hs:SmQ xs) :
   Calls Tryd.prog 11 #[.slice A n c] W fun e w'=>e=.returned (.string ⟨(putQ xs).toArray⟩)∧Below W.heap.size W w':=by
 cases hr:rightQ xs with
 | false=>exact wtext_no xs A n c W hx hs hr
 | true=>exact wtext_yes xs A n c W hT hx hs hr
theorem wselector15_any (y:Sel) (w:World) (hT:Pow13 w) (hz:y.name.size≤1000) :
   Calls Tryd.prog 7 #[.agg #[.int .i64 y.kind,.string y.name,.int .i64 y.index,.int .i64 y.start,.int .i64 y.en,.bool y.hs,.bool y.he,.int .i64 y.stride]] w fun e w'=>e=.returned (.string ⟨(selT y).toArray⟩)∧Below w.heap.size w w':=by
 have K:=hid (fun w=>wright_any y w (Nat.le_trans hz (by unfold maxLen;omega)))
 have HT:=hid hT
 cases hg:goodB y
 ·rw[hg] at K
  rw[show selT y=[] from if_pos hg]
  clear hg hz hT HT
  go_enter Tryd.func7,Tryd.ntmps7
  go_wp2_with (go_at_call 21;refine (K.out _).mono ?_;rintro e w1 ⟨rfl,hb⟩;have HB1:=hid ((below1 w _).trans (hb.mono (by simp)));clear hb)
  go_ret
  exact ⟨rfl,HB1.out⟩
 ·rw [hg] at K
  have KX:=hid (fun w h=>selX_any y hg w h hz)
  clear hg hz hT
  generalize (⟨(selT y).toArray⟩:ByteArray)=st at *
  obtain ⟨yk,yn,yi,ys0,ye,yhs,yhe,ysd⟩:=y
  show Calls Tryd.prog 7 #[.agg #[.int .i64 yk,.string yn,.int .i64 yi,.int .i64 ys0,.int .i64 ye,.bool yhs,.bool yhe,.int .i64 ysd]] w _
  go_enter Tryd.func7,Tryd.ntmps7
  go_wp2_with (first
    | (go_at_call 21
       go_must (
         refine (K.out _).mono ?_
         rintro e w1 ⟨rfl,hb⟩
         have HB1:=hid ((below1 w (.cells #[.int .i64 yk,.string yn,.int .i64 yi,.int .i64 ys0,.int .i64 ye,.bool yhs,.bool yhe,.int .i64 ysd] 30)).trans (hb.mono (by simp)))
         have o4:=(Own.fresh w 30 #[.int .i64 yk,.string yn,.int .i64 yi,.int .i64 ys0,.int .i64 ye,.bool yhs,.bool yhe,.int .i64 ysd]).stay hb (by simp)
         have f0:w1.cell? ⟨w.heap.size,0,none⟩=some (.int .i64 yk):=o4.at 0
         have f1:w1.cell? ⟨w.heap.size,1,none⟩=some (.string yn):=o4.at 1
         have f2:w1.cell? ⟨w.heap.size,2,none⟩=some (.int .i64 yi):=o4.at 2
         have f3:w1.cell? ⟨w.heap.size,3,none⟩=some (.int .i64 ys0):=o4.at 3
         have f4:w1.cell? ⟨w.heap.size,4,none⟩=some (.int .i64 ye):=o4.at 4
         have f5:w1.cell? ⟨w.heap.size,5,none⟩=some (.bool yhs):=o4.at 5
         have f6:w1.cell? ⟨w.heap.size,6,none⟩=some (.bool yhe):=o4.at 6
         have f7:w1.cell? ⟨w.heap.size,7,none⟩=some (.int .i64 ysd):=o4.at 7
         clear hb o4))
    | (go_at_call 22;refine (KX.out _ (HT.out.stay HB1.out)).mono ?_;rintro e w2 ⟨rfl,hb2⟩;have HB2:=hid (HB1.out.trans (hb2.mono HB1.out.size));clear hb2))
  go_ret
  exact ⟨rfl,HB2.out⟩
theorem wsameC (xs ys:List Sgm) (A A':Option Addr) (n n' c c':Nat) (w:World) (hx:QRd w A n xs) (hy:QRd w A' n' ys) (hs:SmQ xs) (hs':SmQ ys) :
   Calls Tryd.prog 13 #[.slice A n c,.slice A' n' c'] w (SqEnd xs ys w) :=
 wsame15_any xs ys A A' n n' c c' w hx hy (by have:=hx.1;have:=hs.1;omega) (by have:=hy.1;have:=hs'.1;omega) (fun x h=>Nat.le_trans (hs.2 x h).1 (by omega)) (fun x h=>Nat.le_trans (hs'.2 x h).1 (by omega))
end
end Go.Proofs.YtmgdjlkndbejkaaDoor
