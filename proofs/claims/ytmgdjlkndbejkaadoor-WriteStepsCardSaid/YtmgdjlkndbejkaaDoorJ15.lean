/- Lemmas. -/
import Derived.Test.YtmgdjlkndbejkaaDoorJ14
set_option maxRecDepth 100000
set_option maxHeartbeats 8000000
set_option linter.unusedVariables false
set_option linter.unusedSimpArgs false
namespace Go.Proofs.YtmgdjlkndbejkaaDoor
open Go.Lib (hid)
section
open Go.RowKit
theorem numT_len {v:Int} (h:MaxQ v):(numT v).length≤17:=by
 unfold MaxQ at h
 unfold numT
 split
 ·have:=digN_16 (v:=(-v).toNat) (by omega)
  simp
  omega
 ·have:=digN_16 (v:=v.toNat) (by omega)
  omega
theorem numT_size {v:Int}(h:MaxQ v):(⟨(numT v).toArray⟩:ByteArray).size≤17:=numT_len h
def SelS (y:Sel):Prop:=∀ (w:World),y.name.size≤1000→Calls Tryd.prog 8 #[.agg #[.int .i64 y.kind,.string y.name,.int .i64 y.index,.int .i64 y.start,.int .i64 y.en,.bool y.hs,.bool y.he,.int .i64 y.stride]] w fun e w'=>e=.returned (.string ⟨(selT y).toArray⟩)∧Below w.heap.size w w'
theorem sel15_no (y:Sel) (h:goodB y=false):SelS y:=by
 intro w hz
 have KG:=hid (fun w=>show Calls Tryd.prog 23 #[.agg #[.int .i64 y.kind,.string y.name,.int .i64 y.index,.int .i64 y.start,.int .i64 y.en,.bool y.hs,.bool y.he,.int .i64 y.stride]] w (fun e w'=>e=.returned (.bool false)∧Below w.heap.size w w') from by have hk9:=good15_any y w (Nat.le_trans hz (by unfold maxLen;omega));rw[h] at hk9;exact hk9)
 rw[show selT y=[] from if_pos h]
 show Calls Tryd.prog 8 #[.agg #[.int .i64 y.kind,.string y.name,.int .i64 y.index,.int .i64 y.start,.int .i64 y.en,.bool y.hs,.bool y.he,.int .i64 y.stride]] w _
 go_enter Tryd.func8,Tryd.ntmps8
 go_wp2_with (first
   | (go_at_call 23
      go_must (
        with_reducible refine (KG.out _).mono ?_
        rintro e w1 ⟨rfl,hb1⟩
        have HB1:=hid ((below1 w _).trans (hb1.mono (by simp)))
        have o1:=(Own.fresh w 30 #[.int .i64 y.kind,.string y.name,.int .i64 y.index,.int .i64 y.start,.int .i64 y.en,.bool y.hs,.bool y.he,.int .i64 y.stride]).stay hb1 (by simp)
        have HO1:=hid o1
        clear hb1 o1)))
 go_ret
 exact ⟨rfl,HB1.out⟩
theorem sel15_all  : SelS sqA:=by
 intro w hz
 have KG:=hid (fun w=>show Calls Tryd.prog 23 #[.agg #[.int .i64 1,.string ⟨#[]⟩,.int .i64 0,.int .i64 0,.int .i64 0,.bool false,.bool false,.int .i64 0]] w (fun e w'=>e=.returned (.bool true)∧Below w.heap.size w w') from by have hk9:=good15_any sqA w (Nat.le_trans hz (by unfold maxLen;omega));rw[good_any] at hk9;exact hk9)
 rw[show selT sqA=[42] by decide +kernel]
 show Calls Tryd.prog 8 #[.agg #[.int .i64 1,.string ⟨#[]⟩,.int .i64 0,.int .i64 0,.int .i64 0,.bool false,.bool false,.int .i64 0]] w _
 go_enter Tryd.func8,Tryd.ntmps8
 go_wp2_with (first
   | (go_at_call 23
      go_must (
        with_reducible refine (KG.out _).mono ?_
        rintro e w1 ⟨rfl,hb1⟩
        have HB1:=hid ((below1 w _).trans (hb1.mono (by simp)))
        have o1:=(Own.fresh w 30 #[.int .i64 1,.string ⟨#[]⟩,.int .i64 0,.int .i64 0,.int .i64 0,.bool false,.bool false,.int .i64 0]).stay hb1 (by simp)
        have c0:w1.cell? ⟨w.heap.size,0,none⟩=some (.int .i64 1):=o1.at 0
        have HO1:=hid o1
        clear hb1 o1)))
 go_ret
 exact ⟨rfl,HB1.out⟩
theorem sel15_name (m:List UInt8) (h:badU m = -1):SelS (sqN m):=by
 intro w hz
 have KG:=hid (fun w=>show Calls Tryd.prog 23 #[.agg #[.int .i64 0,.string ⟨m.toArray⟩,.int .i64 0,.int .i64 0,.int .i64 0,.bool false,.bool false,.int .i64 0]] w (fun e w'=>e=.returned (.bool true)∧Below w.heap.size w w') from by have hk9:=good15_any (sqN m) w (Nat.le_trans hz (by unfold maxLen;omega));rw[good_name h] at hk9;exact hk9)
 have KN:=hid (fun w=>name13_any ⟨m.toArray⟩ w hz)
 rw[show (⟨m.toArray⟩:ByteArray).data.toList=m from rfl] at KN
 rw[show selT (sqN m)=nameT m by unfold selT;rw[good_name h,if_neg (by decide),if_pos (show (sqN m).kind=0 from rfl)];rfl]
 clear h
 show Calls Tryd.prog 8 #[.agg #[.int .i64 0,.string ⟨m.toArray⟩,.int .i64 0,.int .i64 0,.int .i64 0,.bool false,.bool false,.int .i64 0]] w _
 go_enter Tryd.func8,Tryd.ntmps8
 go_wp2_with (first
   | (go_at_call 23
      go_must (
        with_reducible refine (KG.out _).mono ?_
        rintro e w1 ⟨rfl,hb1⟩
        have HB1:=hid ((below1 w _).trans (hb1.mono (by simp)))
        have o1:=(Own.fresh w 30 #[.int .i64 0,.string ⟨m.toArray⟩,.int .i64 0,.int .i64 0,.int .i64 0,.bool false,.bool false,.int .i64 0]).stay hb1 (by simp)
        have c0:w1.cell? ⟨w.heap.size,0,none⟩=some (.int .i64 0):=o1.at 0
        have c1:w1.cell? ⟨w.heap.size,1,none⟩=some (.string ⟨m.toArray⟩):=o1.at 1
        have HO1:=hid o1
        clear hb1 o1))
   | (go_at_call 24
      go_must (
        refine (KN.out w1).mono ?_
        rintro e w2 ⟨rfl,hb2⟩
        have HB2:=hid (HB1.out.trans (hb2.mono HB1.out.size))
        clear hb2)))
 go_ret
 exact ⟨rfl,HB2.out⟩
theorem sel15_index (v:Int) (h:MaxQ v):SelS (sqI v):=by
 intro w hz
 have KG:=hid (fun w=>show Calls Tryd.prog 23 #[.agg #[.int .i64 2,.string ⟨#[]⟩,.int .i64 v,.int .i64 0,.int .i64 0,.bool false,.bool false,.int .i64 0]] w (fun e w'=>e=.returned (.bool true)∧Below w.heap.size w w') from by have hk9:=good15_any (sqI v) w (Nat.le_trans hz (by unfold maxLen;omega));rw[good_index h] at hk9;exact hk9)
 have Kv:=hid (fun w=>num15_any v h w)
 rw[show selT (sqI v)=numT v by unfold selT;rw[good_index h,if_neg (by decide),if_neg (by simp[sqI]),if_neg (by simp[sqI]),if_pos (show (sqI v).kind=2 from rfl)];rfl]
 clear h
 show Calls Tryd.prog 8 #[.agg #[.int .i64 2,.string ⟨#[]⟩,.int .i64 v,.int .i64 0,.int .i64 0,.bool false,.bool false,.int .i64 0]] w _
 go_enter Tryd.func8,Tryd.ntmps8
 go_wp2_with (first
   | (go_at_call 23
      go_must (
        with_reducible refine (KG.out _).mono ?_
        rintro e w1 ⟨rfl,hb1⟩
        have HB1:=hid ((below1 w _).trans (hb1.mono (by simp)))
        have o1:=(Own.fresh w 30 #[.int .i64 2,.string ⟨#[]⟩,.int .i64 v,.int .i64 0,.int .i64 0,.bool false,.bool false,.int .i64 0]).stay hb1 (by simp)
        have c0:w1.cell? ⟨w.heap.size,0,none⟩=some (.int .i64 2):=o1.at 0
        have c2:w1.cell? ⟨w.heap.size,2,none⟩=some (.int .i64 v):=o1.at 2
        have HO1:=hid o1
        clear hb1 o1))
   | (go_at_call 25;with_reducible refine (Kv.out w1).mono ?_
      go_must (
        rintro e w2 ⟨rfl,hb2⟩
        have HB2:=hid (HB1.out.trans (hb2.mono HB1.out.size))
        have o2:=HO1.out.stay hb2 HO1.out.inside
        have HO2:=hid o2
        clear hb2 o2)))
 go_ret
 exact ⟨rfl,HB2.out⟩
theorem sel15_s000 (vc:Int) (hc:MaxQ vc) (h1:vc≠1):SelS (sqS none none vc):=by
 intro w hz
 have KG:=hid (fun w=>show Calls Tryd.prog 23 #[.agg #[.int .i64 3,.string ⟨#[]⟩,.int .i64 0,.int .i64 0,.int .i64 0,.bool false,.bool false,.int .i64 vc]] w (fun e w'=>e=.returned (.bool true)∧Below w.heap.size w w') from by have hk9:=good15_any (sqS none none vc) w (Nat.le_trans hz (by unfold maxLen;omega));rw[good_slice (a:=none) (b:=none) (c:=vc) (show MaxQ 0 by unfold MaxQ;omega) (show MaxQ 0 by unfold MaxQ;omega) hc] at hk9;exact hk9)
 have Kvc:=hid (fun w=>num15_any vc hc w)
 have zc:=numT_size hc
 have q1:(vc != 1)=true:=bne_iff_ne.2 h1
 have HJ:=hid (show selT (sqS none none vc)=[]++(58:UInt8) :: ([]++((58:UInt8) :: numT vc)) by unfold selT;rw[good_slice (a:=none) (b:=none) (c:=vc) (show MaxQ 0 by unfold MaxQ;omega) (show MaxQ 0 by unfold MaxQ;omega) hc,if_neg (by decide),if_neg (by simp[sqS]),if_neg (by simp[sqS]),if_neg (by simp[sqS])];rw[if_neg (show ¬ (sqS none none vc).stride=1 from h1)];simp[sqS])
 rw[HJ.out]
 have HX:=hid (show (((⟨#[]⟩:ByteArray)++⟨#[58]⟩)++(⟨#[]⟩:ByteArray))++((⟨#[58]⟩:ByteArray)++(⟨(numT vc).toArray⟩:ByteArray))=⟨([]++(58:UInt8) :: ([]++((58:UInt8) :: numT vc))).toArray⟩ by apply ByteArray.ext;simp)
 rw[← HX.out]
 clear HJ HX
 generalize (⟨(numT vc).toArray⟩:ByteArray)=Avc at *
 clear hc h1
 show Calls Tryd.prog 8 #[.agg #[.int .i64 3,.string ⟨#[]⟩,.int .i64 0,.int .i64 0,.int .i64 0,.bool false,.bool false,.int .i64 vc]] w _
 go_enter Tryd.func8,Tryd.ntmps8
 go_wp2_with (first
   | (go_at_call 23
      go_must (
        with_reducible refine (KG.out _).mono ?_
        rintro e w1 ⟨rfl,hb1⟩
        have HB1:=hid ((below1 w _).trans (hb1.mono (by simp)))
        have o1:=(Own.fresh w 30 #[.int .i64 3,.string ⟨#[]⟩,.int .i64 0,.int .i64 0,.int .i64 0,.bool false,.bool false,.int .i64 vc]).stay hb1 (by simp)
        have c0:w1.cell? ⟨w.heap.size,0,none⟩=some (.int .i64 3):=o1.at 0
        have c2:w1.cell? ⟨w.heap.size,2,none⟩=some (.int .i64 0):=o1.at 2
        have c3:w1.cell? ⟨w.heap.size,3,none⟩=some (.int .i64 0):=o1.at 3
        have c4:w1.cell? ⟨w.heap.size,4,none⟩=some (.int .i64 0):=o1.at 4
        have c5:w1.cell? ⟨w.heap.size,5,none⟩=some (.bool false):=o1.at 5
        have c6:w1.cell? ⟨w.heap.size,6,none⟩=some (.bool false):=o1.at 6
        have c7:w1.cell? ⟨w.heap.size,7,none⟩=some (.int .i64 vc):=o1.at 7
        have HO1:=hid o1
        clear hb1 o1))
   | (go_at_call 25;with_reducible refine (Kvc.out w1).mono ?_
      go_must (
        rintro e w2 ⟨rfl,hb2⟩
        have HB2:=hid (HB1.out.trans (hb2.mono HB1.out.size))
        have o2:=HO1.out.stay hb2 HO1.out.inside
        have HO2:=hid o2
        clear hb2 o2)))
 go_ret
 exact ⟨rfl,HB2.out⟩
theorem sel15_s001  : SelS (sqS none none 1):=by
 intro w hz
 have KG:=hid (fun w=>show Calls Tryd.prog 23 #[.agg #[.int .i64 3,.string ⟨#[]⟩,.int .i64 0,.int .i64 0,.int .i64 0,.bool false,.bool false,.int .i64 1]] w (fun e w'=>e=.returned (.bool true)∧Below w.heap.size w w') from by have hk9:=good15_any (sqS none none 1) w (Nat.le_trans hz (by unfold maxLen;omega));rw[good_slice (a:=none) (b:=none) (c:=1) (show MaxQ 0 by unfold MaxQ;omega) (show MaxQ 0 by unfold MaxQ;omega) (show MaxQ 1 by unfold MaxQ;omega)] at hk9;exact hk9)
 have HJ:=hid (show selT (sqS none none 1)=[]++(58:UInt8) :: ([]++[]) by unfold selT;rw[good_slice (a:=none) (b:=none) (c:=1) (show MaxQ 0 by unfold MaxQ;omega) (show MaxQ 0 by unfold MaxQ;omega) (show MaxQ 1 by unfold MaxQ;omega),if_neg (by decide),if_neg (by simp[sqS]),if_neg (by simp[sqS]),if_neg (by simp[sqS])];simp[sqS])
 rw[HJ.out]
 have HX:=hid (show (((⟨#[]⟩:ByteArray)++⟨#[58]⟩)++(⟨#[]⟩:ByteArray))++(⟨#[]⟩:ByteArray)=⟨([]++(58:UInt8) :: ([]++[])).toArray⟩ by apply ByteArray.ext;simp)
 rw[← HX.out]
 clear HJ HX
 show Calls Tryd.prog 8 #[.agg #[.int .i64 3,.string ⟨#[]⟩,.int .i64 0,.int .i64 0,.int .i64 0,.bool false,.bool false,.int .i64 1]] w _
 go_enter Tryd.func8,Tryd.ntmps8
 go_wp2_with (first
   | (go_at_call 23
      go_must (
        with_reducible refine (KG.out _).mono ?_
        rintro e w1 ⟨rfl,hb1⟩
        have HB1:=hid ((below1 w _).trans (hb1.mono (by simp)))
        have o1:=(Own.fresh w 30 #[.int .i64 3,.string ⟨#[]⟩,.int .i64 0,.int .i64 0,.int .i64 0,.bool false,.bool false,.int .i64 1]).stay hb1 (by simp)
        have c0:w1.cell? ⟨w.heap.size,0,none⟩=some (.int .i64 3):=o1.at 0
        have c2:w1.cell? ⟨w.heap.size,2,none⟩=some (.int .i64 0):=o1.at 2
        have c3:w1.cell? ⟨w.heap.size,3,none⟩=some (.int .i64 0):=o1.at 3
        have c4:w1.cell? ⟨w.heap.size,4,none⟩=some (.int .i64 0):=o1.at 4
        have c5:w1.cell? ⟨w.heap.size,5,none⟩=some (.bool false):=o1.at 5
        have c6:w1.cell? ⟨w.heap.size,6,none⟩=some (.bool false):=o1.at 6
        have c7:w1.cell? ⟨w.heap.size,7,none⟩=some (.int .i64 1):=o1.at 7
        have HO1:=hid o1
        clear hb1 o1)))
 go_ret
 exact ⟨rfl,HB1.out⟩
theorem sel15_s010 (vb:Int) (hb:MaxQ vb) (vc:Int) (hc:MaxQ vc) (h1:vc≠1):SelS (sqS none (some vb) vc):=by
 intro w hz
 have KG:=hid (fun w=>show Calls Tryd.prog 23 #[.agg #[.int .i64 3,.string ⟨#[]⟩,.int .i64 0,.int .i64 0,.int .i64 vb,.bool false,.bool true,.int .i64 vc]] w (fun e w'=>e=.returned (.bool true)∧Below w.heap.size w w') from by have hk9:=good15_any (sqS none (some vb) vc) w (Nat.le_trans hz (by unfold maxLen;omega));rw[good_slice (a:=none) (b:=(some vb)) (c:=vc) (show MaxQ 0 by unfold MaxQ;omega) hb hc] at hk9;exact hk9)
 have Kvb:=hid (fun w=>num15_any vb hb w)
 have zb:=numT_size hb
 have Kvc:=hid (fun w=>num15_any vc hc w)
 have zc:=numT_size hc
 have q1:(vc != 1)=true:=bne_iff_ne.2 h1
 have HJ:=hid (show selT (sqS none (some vb) vc)=[]++(58:UInt8) :: ((numT vb)++((58:UInt8) :: numT vc)) by unfold selT;rw[good_slice (a:=none) (b:=(some vb)) (c:=vc) (show MaxQ 0 by unfold MaxQ;omega) hb hc,if_neg (by decide),if_neg (by simp[sqS]),if_neg (by simp[sqS]),if_neg (by simp[sqS])];rw[if_neg (show ¬ (sqS none (some vb) vc).stride=1 from h1)];simp[sqS])
 rw[HJ.out]
 have HX:=hid (show (((⟨#[]⟩:ByteArray)++⟨#[58]⟩)++(⟨(numT vb).toArray⟩:ByteArray))++((⟨#[58]⟩:ByteArray)++(⟨(numT vc).toArray⟩:ByteArray))=⟨([]++(58:UInt8) :: ((numT vb)++((58:UInt8) :: numT vc))).toArray⟩ by apply ByteArray.ext;simp)
 rw[← HX.out]
 clear HJ HX
 generalize (⟨(numT vb).toArray⟩:ByteArray)=Avb at *
 generalize (⟨(numT vc).toArray⟩:ByteArray)=Avc at *
 clear hb hc h1
 show Calls Tryd.prog 8 #[.agg #[.int .i64 3,.string ⟨#[]⟩,.int .i64 0,.int .i64 0,.int .i64 vb,.bool false,.bool true,.int .i64 vc]] w _
 go_enter Tryd.func8,Tryd.ntmps8
 go_wp2_with (first
   | (go_at_call 23
      go_must (
        with_reducible refine (KG.out _).mono ?_
        rintro e w1 ⟨rfl,hb1⟩
        have HB1:=hid ((below1 w _).trans (hb1.mono (by simp)))
        have o1:=(Own.fresh w 30 #[.int .i64 3,.string ⟨#[]⟩,.int .i64 0,.int .i64 0,.int .i64 vb,.bool false,.bool true,.int .i64 vc]).stay hb1 (by simp)
        have c0:w1.cell? ⟨w.heap.size,0,none⟩=some (.int .i64 3):=o1.at 0
        have c2:w1.cell? ⟨w.heap.size,2,none⟩=some (.int .i64 0):=o1.at 2
        have c3:w1.cell? ⟨w.heap.size,3,none⟩=some (.int .i64 0):=o1.at 3
        have c4:w1.cell? ⟨w.heap.size,4,none⟩=some (.int .i64 vb):=o1.at 4
        have c5:w1.cell? ⟨w.heap.size,5,none⟩=some (.bool false):=o1.at 5
        have c6:w1.cell? ⟨w.heap.size,6,none⟩=some (.bool true):=o1.at 6
        have c7:w1.cell? ⟨w.heap.size,7,none⟩=some (.int .i64 vc):=o1.at 7
        have HO1:=hid o1
        clear hb1 o1))
   | (go_at_call 25;with_reducible refine (Kvb.out w1).mono ?_
      go_must (
        rintro e w2 ⟨rfl,hb2⟩
        have HB2:=hid (HB1.out.trans (hb2.mono HB1.out.size))
        have o2:=HO1.out.stay hb2 HO1.out.inside
        have c7_2:w2.cell? ⟨w.heap.size,7,none⟩=some (.int .i64 vc):=o2.at 7
        have HO2:=hid o2
        clear hb2 o2))
   | (go_at_call 25;with_reducible refine (Kvc.out w2).mono ?_
      go_must (
        rintro e w3 ⟨rfl,hb3⟩
        have HB3:=hid (HB2.out.trans (hb3.mono HB2.out.size))
        have o3:=HO2.out.stay hb3 HO2.out.inside
        have HO3:=hid o3
        clear hb3 o3)))
 go_ret
 exact ⟨rfl,HB3.out⟩
theorem sel15_s011 (vb:Int) (hb:MaxQ vb)  : SelS (sqS none (some vb) 1):=by
 intro w hz
 have KG:=hid (fun w=>show Calls Tryd.prog 23 #[.agg #[.int .i64 3,.string ⟨#[]⟩,.int .i64 0,.int .i64 0,.int .i64 vb,.bool false,.bool true,.int .i64 1]] w (fun e w'=>e=.returned (.bool true)∧Below w.heap.size w w') from by have hk9:=good15_any (sqS none (some vb) 1) w (Nat.le_trans hz (by unfold maxLen;omega));rw[good_slice (a:=none) (b:=(some vb)) (c:=1) (show MaxQ 0 by unfold MaxQ;omega) hb (show MaxQ 1 by unfold MaxQ;omega)] at hk9;exact hk9)
 have Kvb:=hid (fun w=>num15_any vb hb w)
 have zb:=numT_size hb
 have HJ:=hid (show selT (sqS none (some vb) 1)=[]++(58:UInt8) :: ((numT vb)++[]) by unfold selT;rw[good_slice (a:=none) (b:=(some vb)) (c:=1) (show MaxQ 0 by unfold MaxQ;omega) hb (show MaxQ 1 by unfold MaxQ;omega),if_neg (by decide),if_neg (by simp[sqS]),if_neg (by simp[sqS]),if_neg (by simp[sqS])];simp[sqS])
 rw[HJ.out]
 have HX:=hid (show (((⟨#[]⟩:ByteArray)++⟨#[58]⟩)++(⟨(numT vb).toArray⟩:ByteArray))++(⟨#[]⟩:ByteArray)=⟨([]++(58:UInt8) :: ((numT vb)++[])).toArray⟩ by apply ByteArray.ext;simp)
 rw[← HX.out]
 clear HJ HX
 generalize (⟨(numT vb).toArray⟩:ByteArray)=Avb at *
 clear hb
 show Calls Tryd.prog 8 #[.agg #[.int .i64 3,.string ⟨#[]⟩,.int .i64 0,.int .i64 0,.int .i64 vb,.bool false,.bool true,.int .i64 1]] w _
 go_enter Tryd.func8,Tryd.ntmps8
 go_wp2_with (first
   | (go_at_call 23
      go_must (
        with_reducible refine (KG.out _).mono ?_
        rintro e w1 ⟨rfl,hb1⟩
        have HB1:=hid ((below1 w _).trans (hb1.mono (by simp)))
        have o1:=(Own.fresh w 30 #[.int .i64 3,.string ⟨#[]⟩,.int .i64 0,.int .i64 0,.int .i64 vb,.bool false,.bool true,.int .i64 1]).stay hb1 (by simp)
        have c0:w1.cell? ⟨w.heap.size,0,none⟩=some (.int .i64 3):=o1.at 0
        have c2:w1.cell? ⟨w.heap.size,2,none⟩=some (.int .i64 0):=o1.at 2
        have c3:w1.cell? ⟨w.heap.size,3,none⟩=some (.int .i64 0):=o1.at 3
        have c4:w1.cell? ⟨w.heap.size,4,none⟩=some (.int .i64 vb):=o1.at 4
        have c5:w1.cell? ⟨w.heap.size,5,none⟩=some (.bool false):=o1.at 5
        have c6:w1.cell? ⟨w.heap.size,6,none⟩=some (.bool true):=o1.at 6
        have c7:w1.cell? ⟨w.heap.size,7,none⟩=some (.int .i64 1):=o1.at 7
        have HO1:=hid o1
        clear hb1 o1))
   | (go_at_call 25;with_reducible refine (Kvb.out w1).mono ?_
      go_must (
        rintro e w2 ⟨rfl,hb2⟩
        have HB2:=hid (HB1.out.trans (hb2.mono HB1.out.size))
        have o2:=HO1.out.stay hb2 HO1.out.inside
        have c7_2:w2.cell? ⟨w.heap.size,7,none⟩=some (.int .i64 1):=o2.at 7
        have HO2:=hid o2
        clear hb2 o2)))
 go_ret
 exact ⟨rfl,HB2.out⟩
theorem sel15_s100 (va:Int) (ha:MaxQ va) (vc:Int) (hc:MaxQ vc) (h1:vc≠1):SelS (sqS (some va) none vc):=by
 intro w hz
 have KG:=hid (fun w=>show Calls Tryd.prog 23 #[.agg #[.int .i64 3,.string ⟨#[]⟩,.int .i64 0,.int .i64 va,.int .i64 0,.bool true,.bool false,.int .i64 vc]] w (fun e w'=>e=.returned (.bool true)∧Below w.heap.size w w') from by have hk9:=good15_any (sqS (some va) none vc) w (Nat.le_trans hz (by unfold maxLen;omega));rw[good_slice (a:=(some va)) (b:=none) (c:=vc) ha (show MaxQ 0 by unfold MaxQ;omega) hc] at hk9;exact hk9)
 have Kva:=hid (fun w=>num15_any va ha w)
 have za:=numT_size ha
 have Kvc:=hid (fun w=>num15_any vc hc w)
 have zc:=numT_size hc
 have q1:(vc != 1)=true:=bne_iff_ne.2 h1
 have HJ:=hid (show selT (sqS (some va) none vc)=(numT va)++(58:UInt8) :: ([]++((58:UInt8) :: numT vc)) by unfold selT;rw[good_slice (a:=(some va)) (b:=none) (c:=vc) ha (show MaxQ 0 by unfold MaxQ;omega) hc,if_neg (by decide),if_neg (by simp[sqS]),if_neg (by simp[sqS]),if_neg (by simp[sqS])];rw[if_neg (show ¬ (sqS (some va) none vc).stride=1 from h1)];simp[sqS])
 rw[HJ.out]
 have HX:=hid (show (((⟨(numT va).toArray⟩:ByteArray)++⟨#[58]⟩)++(⟨#[]⟩:ByteArray))++((⟨#[58]⟩:ByteArray)++(⟨(numT vc).toArray⟩:ByteArray))=⟨((numT va)++(58:UInt8) :: ([]++((58:UInt8) :: numT vc))).toArray⟩ by apply ByteArray.ext;simp)
 rw[← HX.out]
 clear HJ HX
 generalize (⟨(numT va).toArray⟩:ByteArray)=Ava at *
 generalize (⟨(numT vc).toArray⟩:ByteArray)=Avc at *
 clear ha hc h1
 show Calls Tryd.prog 8 #[.agg #[.int .i64 3,.string ⟨#[]⟩,.int .i64 0,.int .i64 va,.int .i64 0,.bool true,.bool false,.int .i64 vc]] w _
 go_enter Tryd.func8,Tryd.ntmps8
 go_wp2_with (first
   | (go_at_call 23
      go_must (
        with_reducible refine (KG.out _).mono ?_
        rintro e w1 ⟨rfl,hb1⟩
        have HB1:=hid ((below1 w _).trans (hb1.mono (by simp)))
        have o1:=(Own.fresh w 30 #[.int .i64 3,.string ⟨#[]⟩,.int .i64 0,.int .i64 va,.int .i64 0,.bool true,.bool false,.int .i64 vc]).stay hb1 (by simp)
        have c0:w1.cell? ⟨w.heap.size,0,none⟩=some (.int .i64 3):=o1.at 0
        have c2:w1.cell? ⟨w.heap.size,2,none⟩=some (.int .i64 0):=o1.at 2
        have c3:w1.cell? ⟨w.heap.size,3,none⟩=some (.int .i64 va):=o1.at 3
        have c4:w1.cell? ⟨w.heap.size,4,none⟩=some (.int .i64 0):=o1.at 4
        have c5:w1.cell? ⟨w.heap.size,5,none⟩=some (.bool true):=o1.at 5
        have c6:w1.cell? ⟨w.heap.size,6,none⟩=some (.bool false):=o1.at 6
        have c7:w1.cell? ⟨w.heap.size,7,none⟩=some (.int .i64 vc):=o1.at 7
        have HO1:=hid o1
        clear hb1 o1))
   | (go_at_call 25;with_reducible refine (Kva.out w1).mono ?_
      go_must (
        rintro e w2 ⟨rfl,hb2⟩
        have HB2:=hid (HB1.out.trans (hb2.mono HB1.out.size))
        have o2:=HO1.out.stay hb2 HO1.out.inside
        have c4_2:w2.cell? ⟨w.heap.size,4,none⟩=some (.int .i64 0):=o2.at 4
        have c6_2:w2.cell? ⟨w.heap.size,6,none⟩=some (.bool false):=o2.at 6
        have c7_2:w2.cell? ⟨w.heap.size,7,none⟩=some (.int .i64 vc):=o2.at 7
        have HO2:=hid o2
        clear hb2 o2))
   | (go_at_call 25;with_reducible refine (Kvc.out w2).mono ?_
      go_must (
        rintro e w3 ⟨rfl,hb3⟩
        have HB3:=hid (HB2.out.trans (hb3.mono HB2.out.size))
        have o3:=HO2.out.stay hb3 HO2.out.inside
        have HO3:=hid o3
        clear hb3 o3)))
 go_ret
 exact ⟨rfl,HB3.out⟩
theorem sel15_s101 (va:Int) (ha:MaxQ va)  : SelS (sqS (some va) none 1):=by
 intro w hz
 have KG:=hid (fun w=>show Calls Tryd.prog 23 #[.agg #[.int .i64 3,.string ⟨#[]⟩,.int .i64 0,.int .i64 va,.int .i64 0,.bool true,.bool false,.int .i64 1]] w (fun e w'=>e=.returned (.bool true)∧Below w.heap.size w w') from by have hk9:=good15_any (sqS (some va) none 1) w (Nat.le_trans hz (by unfold maxLen;omega));rw[good_slice (a:=(some va)) (b:=none) (c:=1) ha (show MaxQ 0 by unfold MaxQ;omega) (show MaxQ 1 by unfold MaxQ;omega)] at hk9;exact hk9)
 have Kva:=hid (fun w=>num15_any va ha w)
 have za:=numT_size ha
 have HJ:=hid (show selT (sqS (some va) none 1)=(numT va)++(58:UInt8) :: ([]++[]) by unfold selT;rw[good_slice (a:=(some va)) (b:=none) (c:=1) ha (show MaxQ 0 by unfold MaxQ;omega) (show MaxQ 1 by unfold MaxQ;omega),if_neg (by decide),if_neg (by simp[sqS]),if_neg (by simp[sqS]),if_neg (by simp[sqS])];simp[sqS])
 rw[HJ.out]
 have HX:=hid (show (((⟨(numT va).toArray⟩:ByteArray)++⟨#[58]⟩)++(⟨#[]⟩:ByteArray))++(⟨#[]⟩:ByteArray)=⟨((numT va)++(58:UInt8) :: ([]++[])).toArray⟩ by apply ByteArray.ext;simp)
 rw[← HX.out]
 clear HJ HX
 generalize (⟨(numT va).toArray⟩:ByteArray)=Ava at *
 clear ha
 show Calls Tryd.prog 8 #[.agg #[.int .i64 3,.string ⟨#[]⟩,.int .i64 0,.int .i64 va,.int .i64 0,.bool true,.bool false,.int .i64 1]] w _
 go_enter Tryd.func8,Tryd.ntmps8
 go_wp2_with (first
   | (go_at_call 23
      go_must (
        with_reducible refine (KG.out _).mono ?_
        rintro e w1 ⟨rfl,hb1⟩
        have HB1:=hid ((below1 w _).trans (hb1.mono (by simp)))
        have o1:=(Own.fresh w 30 #[.int .i64 3,.string ⟨#[]⟩,.int .i64 0,.int .i64 va,.int .i64 0,.bool true,.bool false,.int .i64 1]).stay hb1 (by simp)
        have c0:w1.cell? ⟨w.heap.size,0,none⟩=some (.int .i64 3):=o1.at 0
        have c2:w1.cell? ⟨w.heap.size,2,none⟩=some (.int .i64 0):=o1.at 2
        have c3:w1.cell? ⟨w.heap.size,3,none⟩=some (.int .i64 va):=o1.at 3
        have c4:w1.cell? ⟨w.heap.size,4,none⟩=some (.int .i64 0):=o1.at 4
        have c5:w1.cell? ⟨w.heap.size,5,none⟩=some (.bool true):=o1.at 5
        have c6:w1.cell? ⟨w.heap.size,6,none⟩=some (.bool false):=o1.at 6
        have c7:w1.cell? ⟨w.heap.size,7,none⟩=some (.int .i64 1):=o1.at 7
        have HO1:=hid o1
        clear hb1 o1))
   | (go_at_call 25;with_reducible refine (Kva.out w1).mono ?_
      go_must (
        rintro e w2 ⟨rfl,hb2⟩
        have HB2:=hid (HB1.out.trans (hb2.mono HB1.out.size))
        have o2:=HO1.out.stay hb2 HO1.out.inside
        have c4_2:w2.cell? ⟨w.heap.size,4,none⟩=some (.int .i64 0):=o2.at 4
        have c6_2:w2.cell? ⟨w.heap.size,6,none⟩=some (.bool false):=o2.at 6
        have c7_2:w2.cell? ⟨w.heap.size,7,none⟩=some (.int .i64 1):=o2.at 7
        have HO2:=hid o2
        clear hb2 o2)))
 go_ret
 exact ⟨rfl,HB2.out⟩
theorem sel15_s110 (va:Int) (ha:MaxQ va) (vb:Int) (hb:MaxQ vb) (vc:Int) (hc:MaxQ vc) (h1:vc≠1):SelS (sqS (some va) (some vb) vc):=by
 intro w hz
 have KG:=hid (fun w=>show Calls Tryd.prog 23 #[.agg #[.int .i64 3,.string ⟨#[]⟩,.int .i64 0,.int .i64 va,.int .i64 vb,.bool true,.bool true,.int .i64 vc]] w (fun e w'=>e=.returned (.bool true)∧Below w.heap.size w w') from by have hk9:=good15_any (sqS (some va) (some vb) vc) w (Nat.le_trans hz (by unfold maxLen;omega));rw[good_slice (a:=(some va)) (b:=(some vb)) (c:=vc) ha hb hc] at hk9;exact hk9)
 have Kva:=hid (fun w=>num15_any va ha w)
 have za:=numT_size ha
 have Kvb:=hid (fun w=>num15_any vb hb w)
 have zb:=numT_size hb
 have Kvc:=hid (fun w=>num15_any vc hc w)
 have zc:=numT_size hc
 have q1:(vc != 1)=true:=bne_iff_ne.2 h1
 have HJ:=hid (show selT (sqS (some va) (some vb) vc)=(numT va)++(58:UInt8) :: ((numT vb)++((58:UInt8) :: numT vc)) by unfold selT;rw[good_slice (a:=(some va)) (b:=(some vb)) (c:=vc) ha hb hc,if_neg (by decide),if_neg (by simp[sqS]),if_neg (by simp[sqS]),if_neg (by simp[sqS])];rw[if_neg (show ¬ (sqS (some va) (some vb) vc).stride=1 from h1)];simp[sqS])
 rw[HJ.out]
 have HX:=hid (show (((⟨(numT va).toArray⟩:ByteArray)++⟨#[58]⟩)++(⟨(numT vb).toArray⟩:ByteArray))++((⟨#[58]⟩:ByteArray)++(⟨(numT vc).toArray⟩:ByteArray))=⟨((numT va)++(58:UInt8) :: ((numT vb)++((58:UInt8) :: numT vc))).toArray⟩ by apply ByteArray.ext;simp)
 rw[← HX.out]
 clear HJ HX
 generalize (⟨(numT va).toArray⟩:ByteArray)=Ava at *
 generalize (⟨(numT vb).toArray⟩:ByteArray)=Avb at *
 generalize (⟨(numT vc).toArray⟩:ByteArray)=Avc at *
 clear ha hb hc h1
 show Calls Tryd.prog 8 #[.agg #[.int .i64 3,.string ⟨#[]⟩,.int .i64 0,.int .i64 va,.int .i64 vb,.bool true,.bool true,.int .i64 vc]] w _
 go_enter Tryd.func8,Tryd.ntmps8
 go_wp2_with (first
   | (go_at_call 23
      go_must (
        with_reducible refine (KG.out _).mono ?_
        rintro e w1 ⟨rfl,hb1⟩
        have HB1:=hid ((below1 w _).trans (hb1.mono (by simp)))
        have o1:=(Own.fresh w 30 #[.int .i64 3,.string ⟨#[]⟩,.int .i64 0,.int .i64 va,.int .i64 vb,.bool true,.bool true,.int .i64 vc]).stay hb1 (by simp)
        have c0:w1.cell? ⟨w.heap.size,0,none⟩=some (.int .i64 3):=o1.at 0
        have c2:w1.cell? ⟨w.heap.size,2,none⟩=some (.int .i64 0):=o1.at 2
        have c3:w1.cell? ⟨w.heap.size,3,none⟩=some (.int .i64 va):=o1.at 3
        have c4:w1.cell? ⟨w.heap.size,4,none⟩=some (.int .i64 vb):=o1.at 4
        have c5:w1.cell? ⟨w.heap.size,5,none⟩=some (.bool true):=o1.at 5
        have c6:w1.cell? ⟨w.heap.size,6,none⟩=some (.bool true):=o1.at 6
        have c7:w1.cell? ⟨w.heap.size,7,none⟩=some (.int .i64 vc):=o1.at 7
        have HO1:=hid o1
        clear hb1 o1))
   | (go_at_call 25;with_reducible refine (Kva.out w1).mono ?_
      go_must (
        rintro e w2 ⟨rfl,hb2⟩
        have HB2:=hid (HB1.out.trans (hb2.mono HB1.out.size))
        have o2:=HO1.out.stay hb2 HO1.out.inside
        have c4_2:w2.cell? ⟨w.heap.size,4,none⟩=some (.int .i64 vb):=o2.at 4
        have c6_2:w2.cell? ⟨w.heap.size,6,none⟩=some (.bool true):=o2.at 6
        have c7_2:w2.cell? ⟨w.heap.size,7,none⟩=some (.int .i64 vc):=o2.at 7
        have HO2:=hid o2
        clear hb2 o2))
   | (go_at_call 25;with_reducible refine (Kvb.out w2).mono ?_
      go_must (
        rintro e w3 ⟨rfl,hb3⟩
        have HB3:=hid (HB2.out.trans (hb3.mono HB2.out.size))
        have o3:=HO2.out.stay hb3 HO2.out.inside
        have c7_3:w3.cell? ⟨w.heap.size,7,none⟩=some (.int .i64 vc):=o3.at 7
        have HO3:=hid o3
        clear hb3 o3))
   | (go_at_call 25;with_reducible refine (Kvc.out w3).mono ?_
      go_must (
        rintro e w4 ⟨rfl,hb4⟩
        have HB4:=hid (HB3.out.trans (hb4.mono HB3.out.size))
        have o4:=HO3.out.stay hb4 HO3.out.inside
        have HO4:=hid o4
        clear hb4 o4)))
 go_ret
 exact ⟨rfl,HB4.out⟩
theorem sel15_s111 (va:Int) (ha:MaxQ va) (vb:Int) (hb:MaxQ vb)  : SelS (sqS (some va) (some vb) 1):=by
 intro w hz
 have KG:=hid (fun w=>show Calls Tryd.prog 23 #[.agg #[.int .i64 3,.string ⟨#[]⟩,.int .i64 0,.int .i64 va,.int .i64 vb,.bool true,.bool true,.int .i64 1]] w (fun e w'=>e=.returned (.bool true)∧Below w.heap.size w w') from by have hk9:=good15_any (sqS (some va) (some vb) 1) w (Nat.le_trans hz (by unfold maxLen;omega));rw[good_slice (a:=(some va)) (b:=(some vb)) (c:=1) ha hb (show MaxQ 1 by unfold MaxQ;omega)] at hk9;exact hk9)
 have Kva:=hid (fun w=>num15_any va ha w)
 have za:=numT_size ha
 have Kvb:=hid (fun w=>num15_any vb hb w)
 have zb:=numT_size hb
 have HJ:=hid (show selT (sqS (some va) (some vb) 1)=(numT va)++(58:UInt8) :: ((numT vb)++[]) by unfold selT;rw[good_slice (a:=(some va)) (b:=(some vb)) (c:=1) ha hb (show MaxQ 1 by unfold MaxQ;omega),if_neg (by decide),if_neg (by simp[sqS]),if_neg (by simp[sqS]),if_neg (by simp[sqS])];simp[sqS])
 rw[HJ.out]
 have HX:=hid (show (((⟨(numT va).toArray⟩:ByteArray)++⟨#[58]⟩)++(⟨(numT vb).toArray⟩:ByteArray))++(⟨#[]⟩:ByteArray)=⟨((numT va)++(58:UInt8) :: ((numT vb)++[])).toArray⟩ by apply ByteArray.ext;simp)
 rw[← HX.out]
 clear HJ HX
 generalize (⟨(numT va).toArray⟩:ByteArray)=Ava at *
 generalize (⟨(numT vb).toArray⟩:ByteArray)=Avb at *
 clear ha hb
 show Calls Tryd.prog 8 #[.agg #[.int .i64 3,.string ⟨#[]⟩,.int .i64 0,.int .i64 va,.int .i64 vb,.bool true,.bool true,.int .i64 1]] w _
 go_enter Tryd.func8,Tryd.ntmps8
 go_wp2_with (first
   | (go_at_call 23
      go_must (
        with_reducible refine (KG.out _).mono ?_
        rintro e w1 ⟨rfl,hb1⟩
        have HB1:=hid ((below1 w _).trans (hb1.mono (by simp)))
        have o1:=(Own.fresh w 30 #[.int .i64 3,.string ⟨#[]⟩,.int .i64 0,.int .i64 va,.int .i64 vb,.bool true,.bool true,.int .i64 1]).stay hb1 (by simp)
        have c0:w1.cell? ⟨w.heap.size,0,none⟩=some (.int .i64 3):=o1.at 0
        have c2:w1.cell? ⟨w.heap.size,2,none⟩=some (.int .i64 0):=o1.at 2
        have c3:w1.cell? ⟨w.heap.size,3,none⟩=some (.int .i64 va):=o1.at 3
        have c4:w1.cell? ⟨w.heap.size,4,none⟩=some (.int .i64 vb):=o1.at 4
        have c5:w1.cell? ⟨w.heap.size,5,none⟩=some (.bool true):=o1.at 5
        have c6:w1.cell? ⟨w.heap.size,6,none⟩=some (.bool true):=o1.at 6
        have c7:w1.cell? ⟨w.heap.size,7,none⟩=some (.int .i64 1):=o1.at 7
        have HO1:=hid o1
        clear hb1 o1))
   | (go_at_call 25;with_reducible refine (Kva.out w1).mono ?_
      go_must (
        rintro e w2 ⟨rfl,hb2⟩
        have HB2:=hid (HB1.out.trans (hb2.mono HB1.out.size))
        have o2:=HO1.out.stay hb2 HO1.out.inside
        have c4_2:w2.cell? ⟨w.heap.size,4,none⟩=some (.int .i64 vb):=o2.at 4
        have c6_2:w2.cell? ⟨w.heap.size,6,none⟩=some (.bool true):=o2.at 6
        have c7_2:w2.cell? ⟨w.heap.size,7,none⟩=some (.int .i64 1):=o2.at 7
        have HO2:=hid o2
        clear hb2 o2))
   | (go_at_call 25;with_reducible refine (Kvb.out w2).mono ?_
      go_must (
        rintro e w3 ⟨rfl,hb3⟩
        have HB3:=hid (HB2.out.trans (hb3.mono HB2.out.size))
        have o3:=HO2.out.stay hb3 HO2.out.inside
        have c7_3:w3.cell? ⟨w.heap.size,7,none⟩=some (.int .i64 1):=o3.at 7
        have HO3:=hid o3
        clear hb3 o3)))
 go_ret
 exact ⟨rfl,HB3.out⟩
theorem sel15_any (y:Sel) (w:World) (hz:y.name.size≤1000):Calls Tryd.prog 8 #[.agg #[.int .i64 y.kind,.string y.name,.int .i64 y.index,.int .i64 y.start,.int .i64 y.en,.bool y.hs,.bool y.he,.int .i64 y.stride]] w fun e w'=>e=.returned (.string ⟨(selT y).toArray⟩)∧Below w.heap.size w w':=by
 revert w
 suffices h:SelS y from fun w=>h w hz
 cases hg:goodB y with
 | false=>exact sel15_no y hg
 | true =>
   rcases good_cases hg with rfl|⟨m,rfl,hm⟩|⟨v,rfl,hv⟩|⟨a,b,c,rfl,ha,hb,hc⟩
   ·exact sel15_all
   ·exact sel15_name m hm
   ·exact sel15_index v hv
   ·by_cases h1:c=1
    ·subst h1
     cases a with
     | none =>
       cases b with
       | none=>exact sel15_s001
       | some vb=>exact sel15_s011 vb hb
     | some va =>
       cases b with
       | none=>exact sel15_s101 va ha
       | some vb=>exact sel15_s111 va ha vb hb
    ·cases a with
     | none =>
       cases b with
       | none=>exact sel15_s000 c hc h1
       | some vb=>exact sel15_s010 vb hb c hc h1
     | some va =>
       cases b with
       | none=>exact sel15_s100 va ha c hc h1
       | some vb=>exact sel15_s110 va ha vb hb c hc h1
end
end Go.Proofs.YtmgdjlkndbejkaaDoor
