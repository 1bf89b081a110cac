/- Lemmas. -/
import Derived.Test.YtmgdjlkndbejkaaGreatDoorJ14
set_option maxRecDepth 100000
set_option maxHeartbeats 8000000
set_option linter.unusedVariables false
set_option linter.unusedSimpArgs false
namespace Go.Proofs.YtmgdjlkndbejkaaGreatDoor
open Go.Lib (hid)
section
open Go.RowKit
theorem wfit_any (n:Int) (w:World) :
   Calls Tryz.prog 41 #[.int .i64 n] w fun e w'=>e=.returned (.bool (fitsB n))∧w=w':=by
 unfold fitsB
 by_cases h2 : -9007199254740991≤n
 ·by_cases h1:n≤9007199254740991
  ·rw[decide_eq_true ⟨h2,h1⟩]
   go_enter Tryz.func41,Tryz.ntmps41
   go_wp2
   go_ret
   exact ⟨ret_b (by simp<;>omega),rfl⟩
  ·rw[decide_eq_false (fun h=>h1 h.2)]
   go_enter Tryz.func41,Tryz.ntmps41
   go_wp2
   go_ret
   exact ⟨ret_b (by simp<;>omega),rfl⟩
 ·rw[decide_eq_false (fun h=>h2 h.1)]
  go_enter Tryz.func41,Tryz.ntmps41
  go_wp2
  go_ret
  exact ⟨ret_b (by simp),rfl⟩
def partB (n:Int)(has:Bool):Bool:=if has then fitsB n else decide (n=0)
theorem rightPart_any (n:Int) (has:Bool) (w:World) :
   Calls Tryz.prog 42 #[.int .i64 n,.bool has] w fun e w'=>e=.returned (.bool (partB n has))∧w=w':=by
 have F0:=hid (fun w=>wfit_any n w)
 unfold partB
 cases has
 ·rw[if_neg (by decide)]
  clear F0
  go_enter Tryz.func42,Tryz.ntmps42
  go_wp2
  go_ret
  exact ⟨ret_b (by by_cases h:n=0<;>simp[h]),rfl⟩
 ·rw[if_pos rfl]
  generalize fitsB n=f at *
  go_enter Tryz.func42,Tryz.ntmps42
  go_wp2_with (go_at_call 41;refine (F0.out _).mono ?_;rintro e w' ⟨rfl,rfl⟩)
  go_ret
  exact ⟨rfl,rfl⟩
theorem good_0 (nm:ByteArray) (ix st en:Int) (hs he:Bool) (sd:Int):goodB ⟨0,nm,ix,st,en,hs,he,sd⟩=(decide (badU nm.data.toList = -1)&&(decide (ix=0)&&decide (st=0)&&decide (en=0) && !hs && !he&&decide (sd=0))):=by
 unfold goodB
 by_cases h1:ix=0<;>by_cases h2:st=0<;>by_cases h3:en=0<;>by_cases h4:sd=0<;>cases hs<;>cases he<;>simp[h1,h2,h3,h4,fits_zero]
theorem good_1 (nm:ByteArray) (ix st en:Int) (hs he:Bool) (sd:Int):goodB ⟨1,nm,ix,st,en,hs,he,sd⟩=(decide (nm.data.toList=[])&&decide (ix=0)&&decide (st=0)&&decide (en=0) && !hs && !he&&decide (sd=0)):=by
 unfold goodB
 by_cases h0:nm.data.toList=[]<;>by_cases h1:ix=0<;>by_cases h2:st=0<;>by_cases h3:en=0<;>by_cases h4:sd=0<;>cases hs<;>cases he<;>simp[h0,h1,h2,h3,h4,fits_zero,show badU [] = -1 from rfl]
theorem good_2 (nm:ByteArray) (ix st en:Int) (hs he:Bool) (sd:Int):goodB ⟨2,nm,ix,st,en,hs,he,sd⟩=(fitsB ix&&(decide (nm.data.toList=[])&&decide (st=0)&&decide (en=0) && !hs && !he&&decide (sd=0))):=by
 unfold goodB
 by_cases h0:nm.data.toList=[]<;>by_cases h2:st=0<;>by_cases h3:en=0<;>by_cases h4:sd=0<;>cases hs<;>cases he<;>simp[h0,h2,h3,h4,fits_zero,show badU [] = -1 from rfl]
theorem good_3 (nm:ByteArray) (ix st en:Int) (hs he:Bool) (sd:Int):goodB ⟨3,nm,ix,st,en,hs,he,sd⟩=((partB st hs&&partB en he&&fitsB sd)&&(decide (nm.data.toList=[])&&decide (ix=0))):=by
 unfold goodB partB
 by_cases h0:nm.data.toList=[]<;>by_cases h1:ix=0<;>by_cases h2:st=0<;>by_cases h3:en=0<;>cases hs<;>cases he<;>simp[h0,h1,h2,h3,fits_zero,show badU [] = -1 from rfl]
theorem good_out (y:Sel) (h:y.kind<0∨3<y.kind):goodB y=false:=by
 unfold goodB
 rw[if_pos h]
theorem runU_lowW:∀ (l:List UInt8) (sg lf n:Int),0≤n → -1≤runU sg lf l n
 | [],sg,lf,n,h=>by
   unfold runU
   split<;>omega
 | c :: t,sg,lf,n,h=>by
   unfold runU
   split
   ·exact runU_lowW t _ _ (n+1) (by omega)
   ·omega
theorem badU_lowW (l:List UInt8) : -1≤badU l:=runU_lowW l 0 0 0 (by omega)
theorem bad_neg (l:List UInt8):decide (badU l = -1)=decide (badU l<0):=by
 have:=badU_lowW l
 by_cases a:badU l = -1
 ·rw[decide_eq_true a,decide_eq_true (show badU l<0 by omega)]
 ·rw[decide_eq_false a,decide_eq_false (show ¬ badU l<0 by omega)]
theorem nil_list {s:ByteArray}:decide (s.data.toList=[])=s.toList.isEmpty:=by
 rw[ByteArray.toList_eq]
 cases s.data.toList<;>simp
def SelR (k:Int) (nm:ByteArray) (ix st en:Int) (hs he:Bool) (sd:Int):Prop:=∀ (w:World),nm.size≤maxLen →
   Calls Tryz.prog 21 #[.agg #[.int .i64 k,.string nm,.int .i64 ix,.int .i64 st,.int .i64 en,.bool hs,.bool he,.int .i64 sd]] w fun e w'=>e=.returned (.bool (goodB ⟨k,nm,ix,st,en,hs,he,sd⟩))∧Below w.heap.size w w'
theorem wright_out (k:Int) (nm:ByteArray) (ix st en:Int) (hs he:Bool) (sd:Int) (h:k<0∨3<k):SelR k nm ix st en hs he sd:=by
 intro w hz
 rw[good_out _ h]
 have q0:(k==0)=false:=beq_eq_false_iff_ne.2 (by omega)
 have q1:(k==1)=false:=beq_eq_false_iff_ne.2 (by omega)
 have q2:(k==2)=false:=beq_eq_false_iff_ne.2 (by omega)
 have q3:(k==3)=false:=beq_eq_false_iff_ne.2 (by omega)
 clear h hz
 go_enter Tryz.func21,Tryz.ntmps21
 go_wp2
 go_ret
 exact ⟨ret_b (by simp),below1 _ _⟩
theorem wright_1 (nm:ByteArray) (ix st en:Int) (hs he:Bool) (sd:Int):SelR 1 nm ix st en hs he sd:=by
 intro w hz
 rw[good_1,nil_list]
 clear hz
 go_enter Tryz.func21,Tryz.ntmps21
 go_wp2
 all_goals
   go_ret
   exact ⟨ret_b (by simp_all),below1 _ _⟩
theorem wright_0 (nm:ByteArray) (ix st en:Int) (hs he:Bool) (sd:Int):SelR 0 nm ix st en hs he sd:=by
 intro w hz
 rw[good_0,bad_neg]
 have KB:=hid (fun w=>bad_any nm w hz)
 clear hz
 generalize badU nm.data.toList=bu at *
 by_cases hbu:bu<0
 ·rw [decide_eq_true hbu]
  go_enter Tryz.func21,Tryz.ntmps21
  go_wp2_with (go_at_call 14;refine (KB.out _).mono ?_;rintro e w1 ⟨rfl,hb⟩;have HB1:=hid ((below1 w _).trans (hb.mono (by simp)));have o1:=(Own.fresh w 35 #[.int .i64 0,.string nm,.int .i64 ix,.int .i64 st,.int .i64 en,.bool hs,.bool he,.int .i64 sd]).stay hb (by simp);have c0:w1.cell? ⟨w.heap.size,0,none⟩=some (.int .i64 0):=o1.at 0;have c1:w1.cell? ⟨w.heap.size,1,none⟩=some (.string nm):=o1.at 1;have c2:w1.cell? ⟨w.heap.size,2,none⟩=some (.int .i64 ix):=o1.at 2;have c3:w1.cell? ⟨w.heap.size,3,none⟩=some (.int .i64 st):=o1.at 3;have c4:w1.cell? ⟨w.heap.size,4,none⟩=some (.int .i64 en):=o1.at 4;have c5:w1.cell? ⟨w.heap.size,5,none⟩=some (.bool hs):=o1.at 5;have c6:w1.cell? ⟨w.heap.size,6,none⟩=some (.bool he):=o1.at 6;have c7:w1.cell? ⟨w.heap.size,7,none⟩=some (.int .i64 sd):=o1.at 7;have f1:=o1.free 1;clear hb o1)
  all_goals
    go_ret
    exact ⟨ret_b (by simp_all),HB1.out.setCell (by simp) _⟩
 ·rw [decide_eq_false hbu,Bool.false_and]
  go_enter Tryz.func21,Tryz.ntmps21
  go_wp2_with (go_at_call 14;refine (KB.out _).mono ?_;rintro e w1 ⟨rfl,hb⟩;have HB1:=hid ((below1 w _).trans (hb.mono (by simp)));have o1:=(Own.fresh w 35 #[.int .i64 0,.string nm,.int .i64 ix,.int .i64 st,.int .i64 en,.bool hs,.bool he,.int .i64 sd]).stay hb (by simp);have c1:w1.cell? ⟨w.heap.size,1,none⟩=some (.string nm):=o1.at 1;have f1:=o1.free 1;clear hb o1)
  all_goals
    go_ret
    exact ⟨ret_b (by simp_all),HB1.out.setCell (by simp) _⟩
theorem wright_2 (nm:ByteArray) (ix st en:Int) (hs he:Bool) (sd:Int):SelR 2 nm ix st en hs he sd:=by
 intro w hz
 rw[good_2,nil_list]
 have KF:=hid (fun w=>wfit_any ix w)
 clear hz
 generalize fitsB ix=f at *
 cases f
 all_goals
   go_enter Tryz.func21,Tryz.ntmps21
   go_wp2_with (go_at_call 41;refine (KF.out _).mono ?_;rintro e w1 ⟨rfl,rfl⟩)
   all_goals
     go_ret
     exact ⟨ret_b (by simp_all),below1 _ _⟩
theorem wright_3 (nm:ByteArray) (ix st en:Int) (hs he:Bool) (sd:Int):SelR 3 nm ix st en hs he sd:=by
 intro w hz
 rw[good_3,nil_list]
 have K1:=hid (fun w=>rightPart_any st hs w)
 have K2:=hid (fun w=>rightPart_any en he w)
 have K3:=hid (fun w=>wfit_any sd w)
 clear hz
 generalize partB st hs=p1 at *
 generalize partB en he=p2 at *
 generalize fitsB sd=p3 at *
 cases p1<;>cases p2<;>cases p3
 all_goals
   go_enter Tryz.func21,Tryz.ntmps21
   go_wp2_with (first
     | (go_at_call 42;with_reducible refine (K1.out _).mono ?_;rintro e w1 ⟨rfl,rfl⟩)
     | (go_at_call 42;with_reducible refine (K2.out _).mono ?_;rintro e w1 ⟨rfl,rfl⟩)
     | (go_at_call 41;with_reducible refine (K3.out _).mono ?_;rintro e w1 ⟨rfl,rfl⟩))
   all_goals
     go_ret
     exact ⟨ret_b (by simp_all),below1 _ _⟩
theorem wright_any (y:Sel) (w:World) (hz:y.name.size≤maxLen) :
   Calls Tryz.prog 21 #[.agg #[.int .i64 y.kind,.string y.name,.int .i64 y.index,.int .i64 y.start,.int .i64 y.en,.bool y.hs,.bool y.he,.int .i64 y.stride]] w fun e w'=>e=.returned (.bool (goodB y))∧Below w.heap.size w w':=by
 obtain ⟨k,nm,ix,st,en,hs,he,sd⟩:=y
 by_cases h:k<0∨3<k
 ·exact wright_out k nm ix st en hs he sd h w hz
 obtain rfl|rfl|rfl|rfl:k=0∨k=1∨k=2∨k=3:=by omega
 ·exact wright_0 nm ix st en hs he sd w hz
 ·exact wright_1 nm ix st en hs he sd w hz
 ·exact wright_2 nm ix st en hs he sd w hz
 ·exact wright_3 nm ix st en hs he sd w hz
end
end Go.Proofs.YtmgdjlkndbejkaaGreatDoor
