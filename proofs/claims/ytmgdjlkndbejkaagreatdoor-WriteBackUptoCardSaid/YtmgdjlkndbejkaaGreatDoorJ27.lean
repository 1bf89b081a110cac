/- Lemmas. -/
import Derived.Test.YtmgdjlkndbejkaaGreatDoorJ25
import Derived.Lib.SmallJoins
import Derived.Lib.ItoaMem
import Derived.Lib.AtoiAllCases
import Derived.Lib.AppendIntMem
import Derived.Lib.AtoiErrMem
import Derived.Test.YtmgdjlkndbejkaaGreatDoorJ15
set_option maxRecDepth 100000
set_option maxHeartbeats 8000000
set_option linter.unusedVariables false
set_option linter.unusedSimpArgs false
namespace Go.Proofs.YtmgdjlkndbejkaaGreatDoor
open Go.Lib (hid)
section
open Go.RowKit
def Pow13 (w : World) : Prop := Lib.TabIs Tryz.prog w "internal/strconv.uint64pow10" .u64 Lib.pow10Tab
theorem pow_global : Tryz.prog.globalNamed "internal/strconv.uint64pow10" = some 0 := by kernel_rfl
theorem Pow13.stay {w w':World}(h:Pow13 w)(hb:Below w.heap.size w w'):Pow13 w':=Joins.tab_stays pow_global h hb (Nat.le_refl _)
theorem dec_is (v:Nat):Lib.decDigits v=digN v:=by
 induction v using Nat.strongRecOn with
 | ind v ih =>
   by_cases h:v<10
   ·rw[Lib.decDigits,dif_pos h,digN_one v h]
   ·rw[Lib.decDigits,dif_neg h,digN_more v h,ih _ (by omega)]
theorem hexB_is (c:UInt8):hexB c=if isHexI c.toNat=true then some (hexI c.toNat) else none:=by
 unfold hexB isHexI hexI
 by_cases h1:48≤c.toNat∧c.toNat≤57
 ·have h1':48≤(c.toNat:Int)∧(c.toNat:Int)≤57:=by omega
  simp[h1,h1']
 ·have h1':¬ (48≤(c.toNat:Int)∧(c.toNat:Int)≤57):=by omega
  rw[if_neg h1,if_neg h1']
  by_cases h2:97≤c.toNat∧c.toNat≤102
  ·have h2':97≤(c.toNat:Int)∧(c.toNat:Int)≤102:=by omega
   simp[h1',h2,h2']
  ·have h2':¬ (97≤(c.toNat:Int)∧(c.toNat:Int)≤102):=by omega
   rw[if_neg h2,if_neg h2']
   by_cases h3:65≤c.toNat∧c.toNat≤70
   ·have h3':65≤(c.toNat:Int)∧(c.toNat:Int)≤70:=by omega
    simp[h1',h2',h3,h3']
   ·have h3':¬ (65≤(c.toNat:Int)∧(c.toNat:Int)≤70):=by omega
    rw[if_neg h3]
    rw[decide_eq_false h1',decide_eq_false h2',decide_eq_false h3']
    rfl
theorem hex_of (c:UInt8) (d:Int) (h:hexB c=some d) (w:World) :
   Calls Tryz.prog 117 #[.int .u8 c.toNat] w fun e w'=>e=.returned (.tuple #[.int .i64 d,.bool true])∧w=w':=by
 have hc:=UInt8.toNat_lt c
 have:=hex_any c.toNat w (by omega) (by omega)
 rw[hexB_is] at h
 split at h
 ·rename_i h1
  rw[h1,Option.some.inj h] at this
  exact this
 ·cases h
theorem hex_not (c:UInt8) (h:hexB c=none) (w:World) :
   Calls Tryz.prog 117 #[.int .u8 c.toNat] w fun e w'=>e=.returned (.tuple #[.int .i64 0,.bool false])∧w=w':=by
 have hc:=UInt8.toNat_lt c
 have:=hex_any c.toNat w (by omega) (by omega)
 rw[hexB_is] at h
 split at h
 ·cases h
 ·rename_i h1
  have h0:hexI c.toNat=0:=by
    unfold isHexI at h1
    unfold hexI
    simp at h1
    rw[if_neg (by omega),if_neg (by omega),if_neg (by omega)]
  rw[show isHexI c.toNat=false by simpa using h1,h0] at this
  exact this
theorem i64_or16 (n d:Int) (h0:0≤n) (h9:n≤1000000) (d0:0≤d) (d9:d≤15):bits .or .i64 (n*16) d=n*16+d:=by
 obtain ⟨a,rfl⟩:=Int.eq_ofNat_of_zero_le h0
 obtain ⟨b,rfl⟩:=Int.eq_ofNat_of_zero_le d0
 have e1:(BitVec.ofInt 64 ((a:Int)*16)).toNat=a*16:=by
   rw[show (a:Int)*16=((a*16:Nat):Int) by simp,BitVec.ofInt_natCast,BitVec.toNat_ofNat]
   exact Nat.mod_eq_of_lt (by omega)
 have e2:(BitVec.ofInt 64 (b:Int)).toNat=b:=by rw[BitVec.ofInt_natCast,BitVec.toNat_ofNat];exact Nat.mod_eq_of_lt (by omega)
 have e3:a*16 ||| b=a*16+b:=by
   have:=Nat.shiftLeft_add_eq_or_of_lt (show b<2 ^ 4 by omega) a
   rw[Nat.shiftLeft_eq] at this
   exact this.symm
 show IntKind.i64.wrap ((BitVec.ofInt 64 ((a:Int)*16) ||| BitVec.ofInt 64 (b:Int)).toNat:Int)=_
 rw[BitVec.toNat_or,e1,e2,e3]
 simp[IntKind.wrap,IntKind.bits,IntKind.signed]
 omega
end
section
open Go.RowKit
theorem itoa_num {v:Int} (hv:MaxQ v):Lib.itoa v=numT v:=by
 unfold MaxQ at hv
 unfold numT
 by_cases hn:v<0
 ·rw[if_pos hn]
  obtain ⟨u,hu⟩:=Int.eq_ofNat_of_zero_le (show 0 ≤ -v by omega)
  obtain rfl:v = -(u:Int):=by omega
  rw[Lib.itoa_neg u (by omega),dec_is]
  simp
 ·rw[if_neg hn]
  obtain ⟨u,rfl⟩:=Int.eq_ofNat_of_zero_le (show 0≤v by omega)
  rw[Lib.itoa_nonneg,dec_is]
  rfl
theorem itoaZ_any (v:Int) (hv:MaxQ v) (w:World) (h:Pow13 w) :
   Calls Tryz.prog 31 #[.int .i64 v] w fun e w'=>e=.returned (.string ⟨(numT v).toArray⟩)∧Below w.heap.size w w':=by
 have hv':=hv
 unfold MaxQ at hv'
 refine (Tryz.strconv_Itoa v (by omega) (by omega) w h).mono ?_
 rintro e w' ⟨rfl,k,os,rfl⟩
 rw[itoa_num hv]
 exact ⟨rfl,Lib.below_grow _ w (Nat.le_refl _) k os⟩
def SliT (y:Sel):Prop:=∀ (w:World),Pow13 w→Calls Tryz.prog 32 #[.agg #[.int .i64 y.kind,.string y.name,.int .i64 y.index,.int .i64 y.start,.int .i64 y.en,.bool y.hs,.bool y.he,.int .i64 y.stride]] w fun e w'=>e=.returned (.string ⟨(selT y).toArray⟩)∧Below w.heap.size w w'
theorem sliT_000 (vc:Int) (hc:MaxQ vc) (h1:vc≠1):SliT (sqS none none vc):=by
 intro w hT
 have HT:=hid hT
 clear hT
 have Kvc:=hid (fun w h=>itoaZ_any vc hc w h)
 have zc:=numT_size hc
 have q1:(vc != 1)=true:=bne_iff_ne.2 h1
 have HJ:=hid (show selT (sqS none none vc)=(58:UInt8) :: (((58:UInt8) :: numT vc)) by unfold selT;rw[good_slice (a:=none) (b:=none) (c:=vc) (show MaxQ 0 by unfold MaxQ;omega) (show MaxQ 0 by unfold MaxQ;omega) hc,if_neg (by decide),if_neg (by simp[sqS]),if_neg (by simp[sqS]),if_neg (by simp[sqS])];rw[if_neg (show ¬ (sqS none none vc).stride=1 from h1)];simp[sqS])
 rw[HJ.out]
 have HX:=hid (show (((⟨#[]⟩:ByteArray)++⟨#[58]⟩)++((⟨#[58]⟩:ByteArray)++(⟨(numT vc).toArray⟩:ByteArray)))=⟨((58:UInt8) :: (((58:UInt8) :: numT vc))).toArray⟩ by apply ByteArray.ext;simp)
 rw[← HX.out]
 clear HJ HX
 generalize (⟨(numT vc).toArray⟩:ByteArray)=Avc at *
 clear hc h1
 show Calls Tryz.prog 32 #[.agg #[.int .i64 3,.string ⟨#[]⟩,.int .i64 0,.int .i64 0,.int .i64 0,.bool false,.bool false,.int .i64 vc]] w _
 have o1:=Own.fresh w 35 #[.int .i64 3,.string ⟨#[]⟩,.int .i64 0,.int .i64 0,.int .i64 0,.bool false,.bool false,.int .i64 vc]
 have HO1:=hid o1
 have HB1:=hid (below1 w (.cells #[.int .i64 3,.string ⟨#[]⟩,.int .i64 0,.int .i64 0,.int .i64 0,.bool false,.bool false,.int .i64 vc] 35))
 go_enter Tryz.func32,Tryz.ntmps32
 go_wp2_with (first
   | (go_at_call 31;with_reducible refine (Kvc.out _ (HT.out.stay HB1.out)).mono ?_
      go_must (
        rintro e w2 ⟨rfl,hb2⟩
        have HB2:=hid (HB1.out.trans (hb2.mono HB1.out.size))
        have o2:=HO1.out.stay hb2 HO1.out.inside
        have HO2:=hid o2
        clear hb2 o2)))
 go_ret
 exact ⟨rfl,HB2.out⟩
theorem sliT_001  : SliT (sqS none none 1):=by
 intro w hT
 have HT:=hid hT
 clear hT
 have HJ:=hid (show selT (sqS none none 1)=(58:UInt8) :: ([]) by unfold selT;rw[good_slice (a:=none) (b:=none) (c:=1) (show MaxQ 0 by unfold MaxQ;omega) (show MaxQ 0 by unfold MaxQ;omega) (show MaxQ 1 by unfold MaxQ;omega),if_neg (by decide),if_neg (by simp[sqS]),if_neg (by simp[sqS]),if_neg (by simp[sqS])];simp[sqS])
 rw[HJ.out]
 have HX:=hid (show ((⟨#[]⟩:ByteArray)++⟨#[58]⟩)=⟨((58:UInt8) :: ([])).toArray⟩ by apply ByteArray.ext;simp)
 rw[← HX.out]
 clear HJ HX
 show Calls Tryz.prog 32 #[.agg #[.int .i64 3,.string ⟨#[]⟩,.int .i64 0,.int .i64 0,.int .i64 0,.bool false,.bool false,.int .i64 1]] w _
 have o1:=Own.fresh w 35 #[.int .i64 3,.string ⟨#[]⟩,.int .i64 0,.int .i64 0,.int .i64 0,.bool false,.bool false,.int .i64 1]
 have HO1:=hid o1
 have HB1:=hid (below1 w (.cells #[.int .i64 3,.string ⟨#[]⟩,.int .i64 0,.int .i64 0,.int .i64 0,.bool false,.bool false,.int .i64 1] 35))
 go_enter Tryz.func32,Tryz.ntmps32
 go_wp2
 go_ret
 exact ⟨rfl,HB1.out⟩
theorem sliT_010 (vb:Int) (hb:MaxQ vb) (vc:Int) (hc:MaxQ vc) (h1:vc≠1):SliT (sqS none (some vb) vc):=by
 intro w hT
 have HT:=hid hT
 clear hT
 have Kvb:=hid (fun w h=>itoaZ_any vb hb w h)
 have zb:=numT_size hb
 have Kvc:=hid (fun w h=>itoaZ_any vc hc w h)
 have zc:=numT_size hc
 have q1:(vc != 1)=true:=bne_iff_ne.2 h1
 have HJ:=hid (show selT (sqS none (some vb) vc)=(58:UInt8) :: ((numT vb)++((58:UInt8) :: numT vc)) by unfold selT;rw[good_slice (a:=none) (b:=(some vb)) (c:=vc) (show MaxQ 0 by unfold MaxQ;omega) hb hc,if_neg (by decide),if_neg (by simp[sqS]),if_neg (by simp[sqS]),if_neg (by simp[sqS])];rw[if_neg (show ¬ (sqS none (some vb) vc).stride=1 from h1)];simp[sqS])
 rw[HJ.out]
 have HX:=hid (show ((((⟨#[]⟩:ByteArray)++⟨#[58]⟩)++(⟨(numT vb).toArray⟩:ByteArray))++((⟨#[58]⟩:ByteArray)++(⟨(numT vc).toArray⟩:ByteArray)))=⟨((58:UInt8) :: ((numT vb)++((58:UInt8) :: numT vc))).toArray⟩ by apply ByteArray.ext;simp)
 rw[← HX.out]
 clear HJ HX
 generalize (⟨(numT vb).toArray⟩:ByteArray)=Avb at *
 generalize (⟨(numT vc).toArray⟩:ByteArray)=Avc at *
 clear hb hc h1
 show Calls Tryz.prog 32 #[.agg #[.int .i64 3,.string ⟨#[]⟩,.int .i64 0,.int .i64 0,.int .i64 vb,.bool false,.bool true,.int .i64 vc]] w _
 have o1:=Own.fresh w 35 #[.int .i64 3,.string ⟨#[]⟩,.int .i64 0,.int .i64 0,.int .i64 vb,.bool false,.bool true,.int .i64 vc]
 have HO1:=hid o1
 have HB1:=hid (below1 w (.cells #[.int .i64 3,.string ⟨#[]⟩,.int .i64 0,.int .i64 0,.int .i64 vb,.bool false,.bool true,.int .i64 vc] 35))
 go_enter Tryz.func32,Tryz.ntmps32
 go_wp2_with (first
   | (go_at_call 31;with_reducible refine (Kvb.out _ (HT.out.stay HB1.out)).mono ?_
      go_must (
        rintro e w2 ⟨rfl,hb2⟩
        have HB2:=hid (HB1.out.trans (hb2.mono HB1.out.size))
        have o2:=HO1.out.stay hb2 HO1.out.inside
        have c7_2:w2.cell? ⟨w.heap.size,7,none⟩=some (.int .i64 vc):=o2.at 7
        have HO2:=hid o2
        clear hb2 o2))
   | (go_at_call 31;with_reducible refine (Kvc.out w2 (HT.out.stay HB2.out)).mono ?_
      go_must (
        rintro e w3 ⟨rfl,hb3⟩
        have HB3:=hid (HB2.out.trans (hb3.mono HB2.out.size))
        have o3:=HO2.out.stay hb3 HO2.out.inside
        have HO3:=hid o3
        clear hb3 o3)))
 go_ret
 exact ⟨rfl,HB3.out⟩
theorem sliT_011 (vb:Int) (hb:MaxQ vb):SliT (sqS none (some vb) 1):=by
 intro w hT
 have HT:=hid hT
 clear hT
 have Kvb:=hid (fun w h=>itoaZ_any vb hb w h)
 have zb:=numT_size hb
 have HJ:=hid (show selT (sqS none (some vb) 1)=(58:UInt8) :: ((numT vb)++[]) by unfold selT;rw[good_slice (a:=none) (b:=(some vb)) (c:=1) (show MaxQ 0 by unfold MaxQ;omega) hb (show MaxQ 1 by unfold MaxQ;omega),if_neg (by decide),if_neg (by simp[sqS]),if_neg (by simp[sqS]),if_neg (by simp[sqS])];simp[sqS])
 rw[HJ.out]
 have HX:=hid (show (((⟨#[]⟩:ByteArray)++⟨#[58]⟩)++(⟨(numT vb).toArray⟩:ByteArray))=⟨((58:UInt8) :: ((numT vb)++[])).toArray⟩ by apply ByteArray.ext;simp)
 rw[← HX.out]
 clear HJ HX
 generalize (⟨(numT vb).toArray⟩:ByteArray)=Avb at *
 clear hb
 show Calls Tryz.prog 32 #[.agg #[.int .i64 3,.string ⟨#[]⟩,.int .i64 0,.int .i64 0,.int .i64 vb,.bool false,.bool true,.int .i64 1]] w _
 have o1:=Own.fresh w 35 #[.int .i64 3,.string ⟨#[]⟩,.int .i64 0,.int .i64 0,.int .i64 vb,.bool false,.bool true,.int .i64 1]
 have HO1:=hid o1
 have HB1:=hid (below1 w (.cells #[.int .i64 3,.string ⟨#[]⟩,.int .i64 0,.int .i64 0,.int .i64 vb,.bool false,.bool true,.int .i64 1] 35))
 go_enter Tryz.func32,Tryz.ntmps32
 go_wp2_with (first
   | (go_at_call 31;with_reducible refine (Kvb.out _ (HT.out.stay HB1.out)).mono ?_
      go_must (
        rintro e w2 ⟨rfl,hb2⟩
        have HB2:=hid (HB1.out.trans (hb2.mono HB1.out.size))
        have o2:=HO1.out.stay hb2 HO1.out.inside
        have c7_2:w2.cell? ⟨w.heap.size,7,none⟩=some (.int .i64 1):=o2.at 7
        have HO2:=hid o2
        clear hb2 o2)))
 go_ret
 exact ⟨rfl,HB2.out⟩
theorem sliT_100 (va:Int) (ha:MaxQ va) (vc:Int) (hc:MaxQ vc) (h1:vc≠1):SliT (sqS (some va) none vc):=by
 intro w hT
 have HT:=hid hT
 clear hT
 have Kva:=hid (fun w h=>itoaZ_any va ha w h)
 have za:=numT_size ha
 have Kvc:=hid (fun w h=>itoaZ_any vc hc w h)
 have zc:=numT_size hc
 have q1:(vc != 1)=true:=bne_iff_ne.2 h1
 have HJ:=hid (show selT (sqS (some va) none vc)=(numT va)++(58:UInt8) :: (((58:UInt8) :: numT vc)) by unfold selT;rw[good_slice (a:=(some va)) (b:=none) (c:=vc) ha (show MaxQ 0 by unfold MaxQ;omega) hc,if_neg (by decide),if_neg (by simp[sqS]),if_neg (by simp[sqS]),if_neg (by simp[sqS])];rw[if_neg (show ¬ (sqS (some va) none vc).stride=1 from h1)];simp[sqS])
 rw[HJ.out]
 have HX:=hid (show (((⟨(numT va).toArray⟩:ByteArray)++⟨#[58]⟩)++((⟨#[58]⟩:ByteArray)++(⟨(numT vc).toArray⟩:ByteArray)))=⟨((numT va)++(58:UInt8) :: (((58:UInt8) :: numT vc))).toArray⟩ by apply ByteArray.ext;simp)
 rw[← HX.out]
 clear HJ HX
 generalize (⟨(numT va).toArray⟩:ByteArray)=Ava at *
 generalize (⟨(numT vc).toArray⟩:ByteArray)=Avc at *
 clear ha hc h1
 show Calls Tryz.prog 32 #[.agg #[.int .i64 3,.string ⟨#[]⟩,.int .i64 0,.int .i64 va,.int .i64 0,.bool true,.bool false,.int .i64 vc]] w _
 have o1:=Own.fresh w 35 #[.int .i64 3,.string ⟨#[]⟩,.int .i64 0,.int .i64 va,.int .i64 0,.bool true,.bool false,.int .i64 vc]
 have HO1:=hid o1
 have HB1:=hid (below1 w (.cells #[.int .i64 3,.string ⟨#[]⟩,.int .i64 0,.int .i64 va,.int .i64 0,.bool true,.bool false,.int .i64 vc] 35))
 go_enter Tryz.func32,Tryz.ntmps32
 go_wp2_with (first
   | (go_at_call 31;with_reducible refine (Kva.out _ (HT.out.stay HB1.out)).mono ?_
      go_must (
        rintro e w2 ⟨rfl,hb2⟩
        have HB2:=hid (HB1.out.trans (hb2.mono HB1.out.size))
        have o2:=HO1.out.stay hb2 HO1.out.inside
        have c4_2:w2.cell? ⟨w.heap.size,4,none⟩=some (.int .i64 0):=o2.at 4
        have c6_2:w2.cell? ⟨w.heap.size,6,none⟩=some (.bool false):=o2.at 6
        have c7_2:w2.cell? ⟨w.heap.size,7,none⟩=some (.int .i64 vc):=o2.at 7
        have HO2:=hid o2
        clear hb2 o2))
   | (go_at_call 31;with_reducible refine (Kvc.out w2 (HT.out.stay HB2.out)).mono ?_
      go_must (
        rintro e w3 ⟨rfl,hb3⟩
        have HB3:=hid (HB2.out.trans (hb3.mono HB2.out.size))
        have o3:=HO2.out.stay hb3 HO2.out.inside
        have HO3:=hid o3
        clear hb3 o3)))
 go_ret
 exact ⟨rfl,HB3.out⟩
theorem sliT_101 (va:Int) (ha:MaxQ va):SliT (sqS (some va) none 1):=by
 intro w hT
 have HT:=hid hT
 clear hT
 have Kva:=hid (fun w h=>itoaZ_any va ha w h)
 have za:=numT_size ha
 have HJ:=hid (show selT (sqS (some va) none 1)=(numT va)++(58:UInt8) :: ([]) by unfold selT;rw[good_slice (a:=(some va)) (b:=none) (c:=1) ha (show MaxQ 0 by unfold MaxQ;omega) (show MaxQ 1 by unfold MaxQ;omega),if_neg (by decide),if_neg (by simp[sqS]),if_neg (by simp[sqS]),if_neg (by simp[sqS])];simp[sqS])
 rw[HJ.out]
 have HX:=hid (show ((⟨(numT va).toArray⟩:ByteArray)++⟨#[58]⟩)=⟨((numT va)++(58:UInt8) :: ([])).toArray⟩ by apply ByteArray.ext;simp)
 rw[← HX.out]
 clear HJ HX
 generalize (⟨(numT va).toArray⟩:ByteArray)=Ava at *
 clear ha
 show Calls Tryz.prog 32 #[.agg #[.int .i64 3,.string ⟨#[]⟩,.int .i64 0,.int .i64 va,.int .i64 0,.bool true,.bool false,.int .i64 1]] w _
 have o1:=Own.fresh w 35 #[.int .i64 3,.string ⟨#[]⟩,.int .i64 0,.int .i64 va,.int .i64 0,.bool true,.bool false,.int .i64 1]
 have HO1:=hid o1
 have HB1:=hid (below1 w (.cells #[.int .i64 3,.string ⟨#[]⟩,.int .i64 0,.int .i64 va,.int .i64 0,.bool true,.bool false,.int .i64 1] 35))
 go_enter Tryz.func32,Tryz.ntmps32
 go_wp2_with (first
   | (go_at_call 31;with_reducible refine (Kva.out _ (HT.out.stay HB1.out)).mono ?_
      go_must (
        rintro e w2 ⟨rfl,hb2⟩
        have HB2:=hid (HB1.out.trans (hb2.mono HB1.out.size))
        have o2:=HO1.out.stay hb2 HO1.out.inside
        have c4_2:w2.cell? ⟨w.heap.size,4,none⟩=some (.int .i64 0):=o2.at 4
        have c6_2:w2.cell? ⟨w.heap.size,6,none⟩=some (.bool false):=o2.at 6
        have c7_2:w2.cell? ⟨w.heap.size,7,none⟩=some (.int .i64 1):=o2.at 7
        have HO2:=hid o2
        clear hb2 o2)))
 go_ret
 exact ⟨rfl,HB2.out⟩
theorem sliT_110 (va:Int) (ha:MaxQ va) (vb:Int) (hb:MaxQ vb) (vc:Int) (hc:MaxQ vc) (h1:vc≠1):SliT (sqS (some va) (some vb) vc):=by
 intro w hT
 have HT:=hid hT
 clear hT
 have Kva:=hid (fun w h=>itoaZ_any va ha w h)
 have za:=numT_size ha
 have Kvb:=hid (fun w h=>itoaZ_any vb hb w h)
 have zb:=numT_size hb
 have Kvc:=hid (fun w h=>itoaZ_any vc hc w h)
 have zc:=numT_size hc
 have q1:(vc != 1)=true:=bne_iff_ne.2 h1
 have HJ:=hid (show selT (sqS (some va) (some vb) vc)=(numT va)++(58:UInt8) :: ((numT vb)++((58:UInt8) :: numT vc)) by unfold selT;rw[good_slice (a:=(some va)) (b:=(some vb)) (c:=vc) ha hb hc,if_neg (by decide),if_neg (by simp[sqS]),if_neg (by simp[sqS]),if_neg (by simp[sqS])];rw[if_neg (show ¬ (sqS (some va) (some vb) vc).stride=1 from h1)];simp[sqS])
 rw[HJ.out]
 have HX:=hid (show ((((⟨(numT va).toArray⟩:ByteArray)++⟨#[58]⟩)++(⟨(numT vb).toArray⟩:ByteArray))++((⟨#[58]⟩:ByteArray)++(⟨(numT vc).toArray⟩:ByteArray)))=⟨((numT va)++(58:UInt8) :: ((numT vb)++((58:UInt8) :: numT vc))).toArray⟩ by apply ByteArray.ext;simp)
 rw[← HX.out]
 clear HJ HX
 generalize (⟨(numT va).toArray⟩:ByteArray)=Ava at *
 generalize (⟨(numT vb).toArray⟩:ByteArray)=Avb at *
 generalize (⟨(numT vc).toArray⟩:ByteArray)=Avc at *
 clear ha hb hc h1
 show Calls Tryz.prog 32 #[.agg #[.int .i64 3,.string ⟨#[]⟩,.int .i64 0,.int .i64 va,.int .i64 vb,.bool true,.bool true,.int .i64 vc]] w _
 have o1:=Own.fresh w 35 #[.int .i64 3,.string ⟨#[]⟩,.int .i64 0,.int .i64 va,.int .i64 vb,.bool true,.bool true,.int .i64 vc]
 have HO1:=hid o1
 have HB1:=hid (below1 w (.cells #[.int .i64 3,.string ⟨#[]⟩,.int .i64 0,.int .i64 va,.int .i64 vb,.bool true,.bool true,.int .i64 vc] 35))
 go_enter Tryz.func32,Tryz.ntmps32
 go_wp2_with (first
   | (go_at_call 31;with_reducible refine (Kva.out _ (HT.out.stay HB1.out)).mono ?_
      go_must (
        rintro e w2 ⟨rfl,hb2⟩
        have HB2:=hid (HB1.out.trans (hb2.mono HB1.out.size))
        have o2:=HO1.out.stay hb2 HO1.out.inside
        have c4_2:w2.cell? ⟨w.heap.size,4,none⟩=some (.int .i64 vb):=o2.at 4
        have c6_2:w2.cell? ⟨w.heap.size,6,none⟩=some (.bool true):=o2.at 6
        have c7_2:w2.cell? ⟨w.heap.size,7,none⟩=some (.int .i64 vc):=o2.at 7
        have HO2:=hid o2
        clear hb2 o2))
   | (go_at_call 31;with_reducible refine (Kvb.out w2 (HT.out.stay HB2.out)).mono ?_
      go_must (
        rintro e w3 ⟨rfl,hb3⟩
        have HB3:=hid (HB2.out.trans (hb3.mono HB2.out.size))
        have o3:=HO2.out.stay hb3 HO2.out.inside
        have c7_3:w3.cell? ⟨w.heap.size,7,none⟩=some (.int .i64 vc):=o3.at 7
        have HO3:=hid o3
        clear hb3 o3))
   | (go_at_call 31;with_reducible refine (Kvc.out w3 (HT.out.stay HB3.out)).mono ?_
      go_must (
        rintro e w4 ⟨rfl,hb4⟩
        have HB4:=hid (HB3.out.trans (hb4.mono HB3.out.size))
        have o4:=HO3.out.stay hb4 HO3.out.inside
        have HO4:=hid o4
        clear hb4 o4)))
 go_ret
 exact ⟨rfl,HB4.out⟩
theorem sliT_111 (va:Int) (ha:MaxQ va) (vb:Int) (hb:MaxQ vb):SliT (sqS (some va) (some vb) 1):=by
 intro w hT
 have HT:=hid hT
 clear hT
 have Kva:=hid (fun w h=>itoaZ_any va ha w h)
 have za:=numT_size ha
 have Kvb:=hid (fun w h=>itoaZ_any vb hb w h)
 have zb:=numT_size hb
 have HJ:=hid (show selT (sqS (some va) (some vb) 1)=(numT va)++(58:UInt8) :: ((numT vb)++[]) by unfold selT;rw[good_slice (a:=(some va)) (b:=(some vb)) (c:=1) ha hb (show MaxQ 1 by unfold MaxQ;omega),if_neg (by decide),if_neg (by simp[sqS]),if_neg (by simp[sqS]),if_neg (by simp[sqS])];simp[sqS])
 rw[HJ.out]
 have HX:=hid (show (((⟨(numT va).toArray⟩:ByteArray)++⟨#[58]⟩)++(⟨(numT vb).toArray⟩:ByteArray))=⟨((numT va)++(58:UInt8) :: ((numT vb)++[])).toArray⟩ by apply ByteArray.ext;simp)
 rw[← HX.out]
 clear HJ HX
 generalize (⟨(numT va).toArray⟩:ByteArray)=Ava at *
 generalize (⟨(numT vb).toArray⟩:ByteArray)=Avb at *
 clear ha hb
 show Calls Tryz.prog 32 #[.agg #[.int .i64 3,.string ⟨#[]⟩,.int .i64 0,.int .i64 va,.int .i64 vb,.bool true,.bool true,.int .i64 1]] w _
 have o1:=Own.fresh w 35 #[.int .i64 3,.string ⟨#[]⟩,.int .i64 0,.int .i64 va,.int .i64 vb,.bool true,.bool true,.int .i64 1]
 have HO1:=hid o1
 have HB1:=hid (below1 w (.cells #[.int .i64 3,.string ⟨#[]⟩,.int .i64 0,.int .i64 va,.int .i64 vb,.bool true,.bool true,.int .i64 1] 35))
 go_enter Tryz.func32,Tryz.ntmps32
 go_wp2_with (first
   | (go_at_call 31;with_reducible refine (Kva.out _ (HT.out.stay HB1.out)).mono ?_
      go_must (
        rintro e w2 ⟨rfl,hb2⟩
        have HB2:=hid (HB1.out.trans (hb2.mono HB1.out.size))
        have o2:=HO1.out.stay hb2 HO1.out.inside
        have c4_2:w2.cell? ⟨w.heap.size,4,none⟩=some (.int .i64 vb):=o2.at 4
        have c6_2:w2.cell? ⟨w.heap.size,6,none⟩=some (.bool true):=o2.at 6
        have c7_2:w2.cell? ⟨w.heap.size,7,none⟩=some (.int .i64 1):=o2.at 7
        have HO2:=hid o2
        clear hb2 o2))
   | (go_at_call 31;with_reducible refine (Kvb.out w2 (HT.out.stay HB2.out)).mono ?_
      go_must (
        rintro e w3 ⟨rfl,hb3⟩
        have HB3:=hid (HB2.out.trans (hb3.mono HB2.out.size))
        have o3:=HO2.out.stay hb3 HO2.out.inside
        have c7_3:w3.cell? ⟨w.heap.size,7,none⟩=some (.int .i64 1):=o3.at 7
        have HO3:=hid o3
        clear hb3 o3)))
 go_ret
 exact ⟨rfl,HB3.out⟩
theorem sliT_any {a b:Option Int} {c:Int} (ha:MaxQ (a.getD 0)) (hb:MaxQ (b.getD 0)) (hc:MaxQ c):SliT (sqS a b c):=by
 by_cases h1:c=1
 ·subst h1
  cases a with
  | none =>
    cases b with
    | none=>exact sliT_001
    | some vb=>exact sliT_011 vb hb
  | some va =>
    cases b with
    | none=>exact sliT_101 va ha
    | some vb=>exact sliT_111 va ha vb hb
 ·cases a with
  | none =>
    cases b with
    | none=>exact sliT_000 c hc h1
    | some vb=>exact sliT_010 vb hb c hc h1
  | some va =>
    cases b with
    | none=>exact sliT_100 va ha c hc h1
    | some vb=>exact sliT_110 va ha vb hb c hc h1
def SelX (y:Sel):Prop:=∀ (w:World),Pow13 w→y.name.size≤1000→Calls Tryz.prog 12 #[.agg #[.int .i64 y.kind,.string y.name,.int .i64 y.index,.int .i64 y.start,.int .i64 y.en,.bool y.hs,.bool y.he,.int .i64 y.stride]] w fun e w'=>e=.returned (.string ⟨(selT y).toArray⟩)∧Below w.heap.size w w'
theorem selX_all:SelX sqA:=by
 intro w hT hz
 rw[show selT sqA=[42] by decide +kernel]
 show Calls Tryz.prog 12 #[.agg #[.int .i64 1,.string ⟨#[]⟩,.int .i64 0,.int .i64 0,.int .i64 0,.bool false,.bool false,.int .i64 0]] w _
 clear hT hz
 go_enter Tryz.func12,Tryz.ntmps12
 go_wp2
 go_ret
 exact ⟨rfl,below1 _ _⟩
theorem selX_name (m:List UInt8) (h:badU m = -1):SelX (sqN m):=by
 intro w hT hz
 have KN:=hid (fun w=>name_any ⟨m.toArray⟩ w (Nat.le_trans hz (by omega)))
 rw[show (⟨m.toArray⟩:ByteArray).data.toList=m from rfl] at KN
 rw[show selT (sqN m)=nameT m by unfold selT;rw[good_name h,if_neg (by decide),if_pos (show (sqN m).kind=0 from rfl)];rfl]
 clear h hT hz
 show Calls Tryz.prog 12 #[.agg #[.int .i64 0,.string ⟨m.toArray⟩,.int .i64 0,.int .i64 0,.int .i64 0,.bool false,.bool false,.int .i64 0]] w _
 generalize (⟨(nameT m).toArray⟩:ByteArray)=nt at *
 generalize (⟨m.toArray⟩:ByteArray)=nm at *
 go_enter Tryz.func12,Tryz.ntmps12
 go_wp2_with (go_at_call 30;refine (KN.out _).mono ?_;rintro e w2 ⟨rfl,hb2⟩;have HB2:=hid ((below1 w _).trans (hb2.mono (by simp)));clear hb2)
 go_ret
 exact ⟨rfl,HB2.out⟩
theorem selX_index (v:Int) (h:MaxQ v):SelX (sqI v):=by
 intro w hT hz
 have Kv:=hid (fun w hw=>itoaZ_any v h w hw)
 rw[show selT (sqI v)=numT v by unfold selT;rw[good_index h,if_neg (by decide),if_neg (by simp[sqI]),if_neg (by simp[sqI]),if_pos (show (sqI v).kind=2 from rfl)];rfl]
 have HT:=hid hT
 clear h hT hz
 show Calls Tryz.prog 12 #[.agg #[.int .i64 2,.string ⟨#[]⟩,.int .i64 v,.int .i64 0,.int .i64 0,.bool false,.bool false,.int .i64 0]] w _
 generalize (⟨(numT v).toArray⟩:ByteArray)=nt at *
 go_enter Tryz.func12,Tryz.ntmps12
 go_wp2_with (go_at_call 31;refine (Kv.out _ (HT.out.stay (below1 w _))).mono ?_;rintro e w2 ⟨rfl,hb2⟩;have HB2:=hid ((below1 w _).trans (hb2.mono (by simp)));clear hb2)
 go_ret
 exact ⟨rfl,HB2.out⟩
theorem selX_slice {a b:Option Int} {c:Int} (ha:MaxQ (a.getD 0)) (hb:MaxQ (b.getD 0)) (hc:MaxQ c):SelX (sqS a b c):=by
 intro w hT hz
 have KS:=hid (fun w hw=>sliT_any ha hb hc w hw)
 have HT:=hid hT
 clear hT hz ha hb hc
 generalize (⟨(selT (sqS a b c)).toArray⟩:ByteArray)=nt at *
 have hk:(sqS a b c).kind=3:=rfl
 generalize sqS a b c=y at *
 obtain ⟨k,nm,ix,st,en,hs,he,sd⟩:=y
 obtain rfl:k=3:=hk
 show Calls Tryz.prog 12 #[.agg #[.int .i64 3,.string nm,.int .i64 ix,.int .i64 st,.int .i64 en,.bool hs,.bool he,.int .i64 sd]] w _
 go_enter Tryz.func12,Tryz.ntmps12
 go_wp2_with (go_at_call 32;refine (KS.out _ (HT.out.stay (below1 w _))).mono ?_;rintro e w2 ⟨rfl,hb2⟩;have HB2:=hid ((below1 w _).trans (hb2.mono (by simp)));clear hb2)
 go_ret
 exact ⟨rfl,HB2.out⟩
theorem selX_any (y:Sel) (hg:goodB y=true):SelX y:=by
 rcases good_cases hg with rfl|⟨m,rfl,hm⟩|⟨v,rfl,hv⟩|⟨a,b,c,rfl,ha,hb,hc⟩
 ·exact selX_all
 ·exact selX_name m hm
 ·exact selX_index v hv
 ·exact selX_slice ha hb hc
end
end Go.Proofs.YtmgdjlkndbejkaaGreatDoor
