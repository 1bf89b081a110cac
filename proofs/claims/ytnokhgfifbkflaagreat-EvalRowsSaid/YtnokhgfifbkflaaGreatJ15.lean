/- Lemmas. -/
import Derived.Test.YtnokhgfifbkflaaGreatJ14
set_option maxRecDepth 100000
set_option maxHeartbeats 8000000
set_option linter.unusedVariables false
set_option linter.unusedSimpArgs false
namespace Go.Proofs.YtnokhgfifbkflaaGreat
open Go.Lib (hid)
section
open Go.RowKit
theorem ba_ne {s:ByteArray} (h:s.data.toList≠[]):(s.toList==(⟨#[]⟩:ByteArray).toList)=false:=by
 rw[beq_eq_false_iff_ne,ByteArray.toList_eq,ByteArray.toList_eq]
 exact h
theorem ba_ne2 {s:ByteArray}(h:s.data.toList≠[]):(s.toList != (⟨#[]⟩:ByteArray).toList)=true:=by unfold bne;rw[ba_ne h];rfl
theorem ba_ne3 {s:ByteArray} (h:s.data.toList≠[]):s.toList.isEmpty=false:=by
 rw[ByteArray.toList_eq]
 cases hc:s.data.toList with
 | nil=>exact absurd hc h
 | cons a b=>rfl
theorem int_ne {v c:Int}(h:v≠c):(v != c)=true:=bne_iff_ne.2 h
theorem int_eqf {v c:Int}(h:v≠c):(v==c)=false:=beq_eq_false_iff_ne.2 h
def SelG (k:Int) (nm:ByteArray) (ix st en:Int) (hs he:Bool) (sd:Int):Prop:=∀ (w:World),nm.size≤maxLen →
   Calls Tryz.prog 40 #[.agg #[.int .i64 k,.string nm,.int .i64 ix,.int .i64 st,.int .i64 en,.bool hs,.bool he,.int .i64 sd]] w fun e w'=>e=.returned (.bool (goodB ⟨k,nm,ix,st,en,hs,he,sd⟩))∧Below w.heap.size w w'
theorem good15_1 (k:Int) (nm:ByteArray) (ix st en:Int) (hs he:Bool) (sd:Int) (h:k<0):SelG k nm ix st en hs he sd:=by
 intro w hz
 have HG:goodB ⟨k,nm,ix,st,en,hs,he,sd⟩=false:=by
   unfold goodB
   dsimp only
   simp[h]
 rw[HG]
 clear HG
 have q:k<0:=h
 clear h
 go_enter Tryz.func40,Tryz.ntmps40
 go_wp2
 go_ret
 exact ⟨ret_b (by simp),below1 _ _⟩
theorem good15_2 (k:Int) (nm:ByteArray) (ix st en:Int) (hs he:Bool) (sd:Int) (h:3<k):SelG k nm ix st en hs he sd:=by
 intro w hz
 have HG:goodB ⟨k,nm,ix,st,en,hs,he,sd⟩=false:=by
   unfold goodB
   dsimp only
   simp[h]
 rw[HG]
 clear HG
 have q:k>3:=h
 have q2:¬ k<0:=by omega
 clear h
 go_enter Tryz.func40,Tryz.ntmps40
 go_wp2
 go_ret
 exact ⟨ret_b (by simp),below1 _ _⟩
theorem good15_3 (nm:ByteArray) (ix st en:Int) (hs he:Bool) (sd:Int) (h:ix≠0):SelG 0 nm ix st en hs he sd:=by
 intro w hz
 have HG:goodB ⟨0,nm,ix,st,en,hs,he,sd⟩=false:=by
   unfold goodB
   dsimp only
   simp[h]
 rw[HG]
 clear HG
 have nix:=int_ne h
 have mix:=int_eqf h
 clear h
 go_enter Tryz.func40,Tryz.ntmps40
 go_wp2
 go_ret
 exact ⟨ret_b (by simp),below1 _ _⟩
theorem good15_4 (nm:ByteArray) (st en:Int) (hs he:Bool) (sd:Int) (h:st≠0):SelG 0 nm 0 st en hs he sd:=by
 intro w hz
 have HG:goodB ⟨0,nm,0,st,en,hs,he,sd⟩=false:=by
   unfold goodB
   dsimp only
   simp[h]
 rw[HG]
 clear HG
 have nst:=int_ne h
 have mst:=int_eqf h
 clear h
 go_enter Tryz.func40,Tryz.ntmps40
 go_wp2
 go_ret
 exact ⟨ret_b (by simp),below1 _ _⟩
theorem good15_5 (nm:ByteArray) (en:Int) (hs he:Bool) (sd:Int) (h:en≠0):SelG 0 nm 0 0 en hs he sd:=by
 intro w hz
 have HG:goodB ⟨0,nm,0,0,en,hs,he,sd⟩=false:=by
   unfold goodB
   dsimp only
   simp[h]
 rw[HG]
 clear HG
 have nen:=int_ne h
 have men:=int_eqf h
 clear h
 go_enter Tryz.func40,Tryz.ntmps40
 go_wp2
 go_ret
 exact ⟨ret_b (by simp),below1 _ _⟩
theorem good15_6 (nm:ByteArray) (hs he:Bool) (sd:Int) (h:sd≠0):SelG 0 nm 0 0 0 hs he sd:=by
 intro w hz
 have HG:goodB ⟨0,nm,0,0,0,hs,he,sd⟩=false:=by
   unfold goodB
   dsimp only
   simp[h]
 rw[HG]
 clear HG
 have nsd:=int_ne h
 have msd:=int_eqf h
 clear h
 go_enter Tryz.func40,Tryz.ntmps40
 go_wp2
 go_ret
 exact ⟨ret_b (by simp),below1 _ _⟩
theorem good15_7 (nm:ByteArray) (he:Bool):SelG 0 nm 0 0 0 true he 0:=by
 intro w hz
 have HG:goodB ⟨0,nm,0,0,0,true,he,0⟩=false:=by
   unfold goodB
   dsimp only
   simp[]
 rw[HG]
 clear HG
 go_enter Tryz.func40,Tryz.ntmps40
 go_wp2
 go_ret
 exact ⟨ret_b (by simp),below1 _ _⟩
theorem good15_8 (nm:ByteArray)  : SelG 0 nm 0 0 0 false true 0:=by
 intro w hz
 have HG:goodB ⟨0,nm,0,0,0,false,true,0⟩=false:=by
   unfold goodB
   dsimp only
   simp[]
 rw[HG]
 clear HG
 go_enter Tryz.func40,Tryz.ntmps40
 go_wp2
 go_ret
 exact ⟨ret_b (by simp),below1 _ _⟩
theorem good15_name (nm:ByteArray):SelG 0 nm 0 0 0 false false 0:=by
 intro w hz
 have HG:goodB ⟨0,nm,0,0,0,false,false,0⟩=decide (badU nm.data.toList = -1):=by
   unfold goodB
   dsimp only
   simp[fits_zero]
 rw[HG]
 clear HG
 have F0:=hid (fun w=>fits15_any 0 w)
 rw[fits_zero] at F0
 have KB:=hid (fun w=>rbad_any nm w hz)
 generalize badU nm.data.toList=bu at *
 go_enter Tryz.func40,Tryz.ntmps40
 go_wp2_with (first
   | (go_at_call 61;with_reducible refine (F0.out _).mono ?_;rintro e w' ⟨rfl,rfl⟩)
   | (go_at_call 57;refine (KB.out _).mono ?_;rintro e w' ⟨rfl,hb⟩;have HW:=hid ((below1 w _).trans (hb.mono (by simp)));clear hb))
 go_ret
 exact ⟨ret_b (by by_cases h:bu = -1<;>simp[h]),HW.out⟩
theorem good15_9 (nm:ByteArray) (ix st en:Int) (hs he:Bool) (sd:Int) (h:nm.data.toList≠[]):SelG 1 nm ix st en hs he sd:=by
 intro w hz
 have HG:goodB ⟨1,nm,ix,st,en,hs,he,sd⟩=false:=by
   unfold goodB
   dsimp only
   simp[h]
 rw[HG]
 clear HG
 have nn:=ba_ne2 h
 have nm':=ba_ne h
 have n3:=ba_ne3 h
 clear h
 go_enter Tryz.func40,Tryz.ntmps40
 go_wp2
 go_ret
 exact ⟨ret_b (by simp),below1 _ _⟩
theorem good15_10 (ix st en:Int) (hs he:Bool) (sd:Int) (h:ix≠0):SelG 1 ⟨#[]⟩ ix st en hs he sd:=by
 intro w hz
 have HG:goodB ⟨1,⟨#[]⟩,ix,st,en,hs,he,sd⟩=false:=by
   unfold goodB
   dsimp only
   simp[h]
 rw[HG]
 clear HG
 have nix:=int_ne h
 have mix:=int_eqf h
 clear h
 go_enter Tryz.func40,Tryz.ntmps40
 go_wp2
 go_ret
 exact ⟨ret_b (by simp),below1 _ _⟩
theorem good15_11 (st en:Int) (hs he:Bool) (sd:Int) (h:st≠0):SelG 1 ⟨#[]⟩ 0 st en hs he sd:=by
 intro w hz
 have HG:goodB ⟨1,⟨#[]⟩,0,st,en,hs,he,sd⟩=false:=by
   unfold goodB
   dsimp only
   simp[h]
 rw[HG]
 clear HG
 have nst:=int_ne h
 have mst:=int_eqf h
 clear h
 go_enter Tryz.func40,Tryz.ntmps40
 go_wp2
 go_ret
 exact ⟨ret_b (by simp),below1 _ _⟩
theorem good15_12 (en:Int) (hs he:Bool) (sd:Int) (h:en≠0):SelG 1 ⟨#[]⟩ 0 0 en hs he sd:=by
 intro w hz
 have HG:goodB ⟨1,⟨#[]⟩,0,0,en,hs,he,sd⟩=false:=by
   unfold goodB
   dsimp only
   simp[h]
 rw[HG]
 clear HG
 have nen:=int_ne h
 have men:=int_eqf h
 clear h
 go_enter Tryz.func40,Tryz.ntmps40
 go_wp2
 go_ret
 exact ⟨ret_b (by simp),below1 _ _⟩
theorem good15_13 (hs he:Bool) (sd:Int) (h:sd≠0):SelG 1 ⟨#[]⟩ 0 0 0 hs he sd:=by
 intro w hz
 have HG:goodB ⟨1,⟨#[]⟩,0,0,0,hs,he,sd⟩=false:=by
   unfold goodB
   dsimp only
   simp[h]
 rw[HG]
 clear HG
 have nsd:=int_ne h
 have msd:=int_eqf h
 clear h
 go_enter Tryz.func40,Tryz.ntmps40
 go_wp2
 go_ret
 exact ⟨ret_b (by simp),below1 _ _⟩
theorem good15_14 (he:Bool):SelG 1 ⟨#[]⟩ 0 0 0 true he 0:=by
 intro w hz
 have HG:goodB ⟨1,⟨#[]⟩,0,0,0,true,he,0⟩=false:=by
   unfold goodB
   dsimp only
   simp[]
 rw[HG]
 clear HG
 go_enter Tryz.func40,Tryz.ntmps40
 go_wp2
 go_ret
 exact ⟨ret_b (by simp),below1 _ _⟩
theorem good15_15  : SelG 1 ⟨#[]⟩ 0 0 0 false true 0:=by
 intro w hz
 have HG:goodB ⟨1,⟨#[]⟩,0,0,0,false,true,0⟩=false:=by
   unfold goodB
   dsimp only
   simp[]
 rw[HG]
 clear HG
 go_enter Tryz.func40,Tryz.ntmps40
 go_wp2
 go_ret
 exact ⟨ret_b (by simp),below1 _ _⟩
theorem good15_16  : SelG 1 ⟨#[]⟩ 0 0 0 false false 0:=by
 intro w hz
 have HG:goodB ⟨1,⟨#[]⟩,0,0,0,false,false,0⟩=true:=by
   unfold goodB
   dsimp only
   simp[fits_zero,(show badU [] = -1 from rfl)]
 rw[HG]
 clear HG
 have F0:=hid (fun w=>fits15_any 0 w)
 rw[fits_zero] at F0
 have KB:=hid (fun w=>rbad_any ⟨#[]⟩ w (by decide))
 rw[show badU (⟨#[]⟩:ByteArray).data.toList = -1 from rfl] at KB
 go_enter Tryz.func40,Tryz.ntmps40
 go_wp2_with (first
   | (go_at_call 61;with_reducible refine (F0.out _).mono ?_;rintro e w' ⟨rfl,rfl⟩)
   | (go_at_call 57;refine (KB.out _).mono ?_;rintro e w' ⟨rfl,hb⟩;have HW:=hid ((below1 w _).trans (hb.mono (by simp)));clear hb))
 go_ret
 exact ⟨ret_b (by simp),HW.out⟩
theorem good15_17 (nm:ByteArray) (ix st en:Int) (hs he:Bool) (sd:Int) (h:nm.data.toList≠[]):SelG 2 nm ix st en hs he sd:=by
 intro w hz
 have HG:goodB ⟨2,nm,ix,st,en,hs,he,sd⟩=false:=by
   unfold goodB
   dsimp only
   simp[h]
 rw[HG]
 clear HG
 have nn:=ba_ne2 h
 have nm':=ba_ne h
 have n3:=ba_ne3 h
 clear h
 go_enter Tryz.func40,Tryz.ntmps40
 go_wp2
 go_ret
 exact ⟨ret_b (by simp),below1 _ _⟩
theorem good15_18 (ix:Int) (st en:Int) (hs he:Bool) (sd:Int) (h:st≠0):SelG 2 ⟨#[]⟩ ix st en hs he sd:=by
 intro w hz
 have HG:goodB ⟨2,⟨#[]⟩,ix,st,en,hs,he,sd⟩=false:=by
   unfold goodB
   dsimp only
   simp[h]
 rw[HG]
 clear HG
 have nst:=int_ne h
 have mst:=int_eqf h
 clear h
 go_enter Tryz.func40,Tryz.ntmps40
 go_wp2
 go_ret
 exact ⟨ret_b (by simp),below1 _ _⟩
theorem good15_19 (ix:Int) (en:Int) (hs he:Bool) (sd:Int) (h:en≠0):SelG 2 ⟨#[]⟩ ix 0 en hs he sd:=by
 intro w hz
 have HG:goodB ⟨2,⟨#[]⟩,ix,0,en,hs,he,sd⟩=false:=by
   unfold goodB
   dsimp only
   simp[h]
 rw[HG]
 clear HG
 have nen:=int_ne h
 have men:=int_eqf h
 clear h
 go_enter Tryz.func40,Tryz.ntmps40
 go_wp2
 go_ret
 exact ⟨ret_b (by simp),below1 _ _⟩
theorem good15_20 (ix:Int) (hs he:Bool) (sd:Int) (h:sd≠0):SelG 2 ⟨#[]⟩ ix 0 0 hs he sd:=by
 intro w hz
 have HG:goodB ⟨2,⟨#[]⟩,ix,0,0,hs,he,sd⟩=false:=by
   unfold goodB
   dsimp only
   simp[h]
 rw[HG]
 clear HG
 have nsd:=int_ne h
 have msd:=int_eqf h
 clear h
 go_enter Tryz.func40,Tryz.ntmps40
 go_wp2
 go_ret
 exact ⟨ret_b (by simp),below1 _ _⟩
theorem good15_21 (ix:Int) (he:Bool):SelG 2 ⟨#[]⟩ ix 0 0 true he 0:=by
 intro w hz
 have HG:goodB ⟨2,⟨#[]⟩,ix,0,0,true,he,0⟩=false:=by
   unfold goodB
   dsimp only
   simp[]
 rw[HG]
 clear HG
 go_enter Tryz.func40,Tryz.ntmps40
 go_wp2
 go_ret
 exact ⟨ret_b (by simp),below1 _ _⟩
theorem good15_22 (ix:Int)  : SelG 2 ⟨#[]⟩ ix 0 0 false true 0:=by
 intro w hz
 have HG:goodB ⟨2,⟨#[]⟩,ix,0,0,false,true,0⟩=false:=by
   unfold goodB
   dsimp only
   simp[]
 rw[HG]
 clear HG
 go_enter Tryz.func40,Tryz.ntmps40
 go_wp2
 go_ret
 exact ⟨ret_b (by simp),below1 _ _⟩
theorem good15_23 (ix:Int) (h:fitsB ix=false):SelG 2 ⟨#[]⟩ ix 0 0 false false 0:=by
 intro w hz
 have HG:goodB ⟨2,⟨#[]⟩,ix,0,0,false,false,0⟩=false:=by
   unfold goodB
   dsimp only
   simp[h]
 rw[HG]
 clear HG
 have Fix:=hid (fun w=>fits15_any ix w)
 rw[h] at Fix
 clear h
 go_enter Tryz.func40,Tryz.ntmps40
 go_wp2_with (first
   | (go_at_call 61;with_reducible refine (Fix.out _).mono ?_;rintro e w' ⟨rfl,rfl⟩))
 go_ret
 exact ⟨ret_b (by simp),below1 _ _⟩
theorem good15_24 (ix:Int) (h:fitsB ix=true):SelG 2 ⟨#[]⟩ ix 0 0 false false 0:=by
 intro w hz
 have HG:goodB ⟨2,⟨#[]⟩,ix,0,0,false,false,0⟩=true:=by
   unfold goodB
   dsimp only
   simp[h,fits_zero,(show badU [] = -1 from rfl)]
 rw[HG]
 clear HG
 have Fix:=hid (fun w=>fits15_any ix w)
 rw[h] at Fix
 have F0:=hid (fun w=>fits15_any 0 w)
 rw[fits_zero] at F0
 have KB:=hid (fun w=>rbad_any ⟨#[]⟩ w (by decide))
 rw[show badU (⟨#[]⟩:ByteArray).data.toList = -1 from rfl] at KB
 clear h
 go_enter Tryz.func40,Tryz.ntmps40
 go_wp2_with (first
   | (go_at_call 61;with_reducible refine (Fix.out _).mono ?_;rintro e w' ⟨rfl,rfl⟩)
   | (go_at_call 61;with_reducible refine (F0.out _).mono ?_;rintro e w' ⟨rfl,rfl⟩)
   | (go_at_call 57;refine (KB.out _).mono ?_;rintro e w' ⟨rfl,hb⟩;have HW:=hid ((below1 w _).trans (hb.mono (by simp)));clear hb))
 go_ret
 exact ⟨ret_b (by simp),HW.out⟩
theorem good15_25 (nm:ByteArray) (ix st en:Int) (hs he:Bool) (sd:Int) (h:nm.data.toList≠[]):SelG 3 nm ix st en hs he sd:=by
 intro w hz
 have HG:goodB ⟨3,nm,ix,st,en,hs,he,sd⟩=false:=by
   unfold goodB
   dsimp only
   simp[h]
 rw[HG]
 clear HG
 have nn:=ba_ne2 h
 have nm':=ba_ne h
 have n3:=ba_ne3 h
 clear h
 go_enter Tryz.func40,Tryz.ntmps40
 go_wp2
 go_ret
 exact ⟨ret_b (by simp),below1 _ _⟩
theorem good15_26 (ix st en:Int) (hs he:Bool) (sd:Int) (h:ix≠0):SelG 3 ⟨#[]⟩ ix st en hs he sd:=by
 intro w hz
 have HG:goodB ⟨3,⟨#[]⟩,ix,st,en,hs,he,sd⟩=false:=by
   unfold goodB
   dsimp only
   simp[h]
 rw[HG]
 clear HG
 have nix:=int_ne h
 have mix:=int_eqf h
 clear h
 go_enter Tryz.func40,Tryz.ntmps40
 go_wp2
 go_ret
 exact ⟨ret_b (by simp),below1 _ _⟩
theorem good15_27 (st en:Int) (he:Bool) (sd:Int) (h:st≠0):SelG 3 ⟨#[]⟩ 0 st en false he sd:=by
 intro w hz
 have HG:goodB ⟨3,⟨#[]⟩,0,st,en,false,he,sd⟩=false:=by
   unfold goodB
   dsimp only
   simp[h]
 rw[HG]
 clear HG
 have nst:=int_ne h
 have mst:=int_eqf h
 clear h
 go_enter Tryz.func40,Tryz.ntmps40
 go_wp2
 go_ret
 exact ⟨ret_b (by simp),below1 _ _⟩
theorem good15_28 (en:Int) (sd:Int) (h:en≠0):SelG 3 ⟨#[]⟩ 0 0 en false false sd:=by
 intro w hz
 have HG:goodB ⟨3,⟨#[]⟩,0,0,en,false,false,sd⟩=false:=by
   unfold goodB
   dsimp only
   simp[h]
 rw[HG]
 clear HG
 have nen:=int_ne h
 have men:=int_eqf h
 clear h
 go_enter Tryz.func40,Tryz.ntmps40
 go_wp2
 go_ret
 exact ⟨ret_b (by simp),below1 _ _⟩
theorem good15_29 (sd:Int) (h:fitsB sd=false):SelG 3 ⟨#[]⟩ 0 0 0 false false sd:=by
 intro w hz
 have HG:goodB ⟨3,⟨#[]⟩,0,0,0,false,false,sd⟩=false:=by
   unfold goodB
   dsimp only
   simp[fits_zero,h]
 rw[HG]
 clear HG
 have F0:=hid (fun w=>fits15_any 0 w)
 rw[fits_zero] at F0
 have Fsd:=hid (fun w=>fits15_any sd w)
 rw[h] at Fsd
 clear h
 go_enter Tryz.func40,Tryz.ntmps40
 go_wp2_with (first
   | (go_at_call 61;with_reducible refine (Fsd.out _).mono ?_;rintro e w' ⟨rfl,rfl⟩)
   | (go_at_call 61;with_reducible refine (F0.out _).mono ?_;rintro e w' ⟨rfl,rfl⟩))
 go_ret
 exact ⟨ret_b (by simp),below1 _ _⟩
theorem good15_30 (sd:Int) (h:fitsB sd=true):SelG 3 ⟨#[]⟩ 0 0 0 false false sd:=by
 intro w hz
 have HG:goodB ⟨3,⟨#[]⟩,0,0,0,false,false,sd⟩=true:=by
   unfold goodB
   dsimp only
   simp[fits_zero,h,(show badU [] = -1 from rfl)]
 rw[HG]
 clear HG
 have F0:=hid (fun w=>fits15_any 0 w)
 rw[fits_zero] at F0
 have Fsd:=hid (fun w=>fits15_any sd w)
 rw[h] at Fsd
 have KB:=hid (fun w=>rbad_any ⟨#[]⟩ w (by decide))
 rw[show badU (⟨#[]⟩:ByteArray).data.toList = -1 from rfl] at KB
 clear h
 go_enter Tryz.func40,Tryz.ntmps40
 go_wp2_with (first
   | (go_at_call 61;with_reducible refine (Fsd.out _).mono ?_;rintro e w' ⟨rfl,rfl⟩)
   | (go_at_call 61;with_reducible refine (F0.out _).mono ?_;rintro e w' ⟨rfl,rfl⟩)
   | (go_at_call 57;refine (KB.out _).mono ?_;rintro e w' ⟨rfl,hb⟩;have HW:=hid ((below1 w _).trans (hb.mono (by simp)));clear hb))
 go_ret
 exact ⟨ret_b (by simp),HW.out⟩
theorem good15_31 (en:Int) (sd:Int) (h:fitsB en=false):SelG 3 ⟨#[]⟩ 0 0 en false true sd:=by
 intro w hz
 have HG:goodB ⟨3,⟨#[]⟩,0,0,en,false,true,sd⟩=false:=by
   unfold goodB
   dsimp only
   simp[fits_zero,h]
 rw[HG]
 clear HG
 have F0:=hid (fun w=>fits15_any 0 w)
 rw[fits_zero] at F0
 have Fen:=hid (fun w=>fits15_any en w)
 rw[h] at Fen
 clear h
 go_enter Tryz.func40,Tryz.ntmps40
 go_wp2_with (first
   | (go_at_call 61;with_reducible refine (Fen.out _).mono ?_;rintro e w' ⟨rfl,rfl⟩)
   | (go_at_call 61;with_reducible refine (F0.out _).mono ?_;rintro e w' ⟨rfl,rfl⟩))
 go_ret
 exact ⟨ret_b (by simp),below1 _ _⟩
theorem good15_32 (en:Int) (sd:Int) (h2:fitsB en=true) (h:fitsB sd=false):SelG 3 ⟨#[]⟩ 0 0 en false true sd:=by
 intro w hz
 have HG:goodB ⟨3,⟨#[]⟩,0,0,en,false,true,sd⟩=false:=by
   unfold goodB
   dsimp only
   simp[fits_zero,h2,h]
 rw[HG]
 clear HG
 have F0:=hid (fun w=>fits15_any 0 w)
 rw[fits_zero] at F0
 have Fen:=hid (fun w=>fits15_any en w)
 rw[h2] at Fen
 have Fsd:=hid (fun w=>fits15_any sd w)
 rw[h] at Fsd
 clear h2 h
 go_enter Tryz.func40,Tryz.ntmps40
 go_wp2_with (first
   | (go_at_call 61;with_reducible refine (Fsd.out _).mono ?_;rintro e w' ⟨rfl,rfl⟩)
   | (go_at_call 61;with_reducible refine (Fen.out _).mono ?_;rintro e w' ⟨rfl,rfl⟩)
   | (go_at_call 61;with_reducible refine (F0.out _).mono ?_;rintro e w' ⟨rfl,rfl⟩))
 go_ret
 exact ⟨ret_b (by simp),below1 _ _⟩
theorem good15_33 (en:Int) (sd:Int) (h2:fitsB en=true) (h:fitsB sd=true):SelG 3 ⟨#[]⟩ 0 0 en false true sd:=by
 intro w hz
 have HG:goodB ⟨3,⟨#[]⟩,0,0,en,false,true,sd⟩=true:=by
   unfold goodB
   dsimp only
   simp[fits_zero,h2,h,(show badU [] = -1 from rfl)]
 rw[HG]
 clear HG
 have F0:=hid (fun w=>fits15_any 0 w)
 rw[fits_zero] at F0
 have Fen:=hid (fun w=>fits15_any en w)
 rw[h2] at Fen
 have Fsd:=hid (fun w=>fits15_any sd w)
 rw[h] at Fsd
 have KB:=hid (fun w=>rbad_any ⟨#[]⟩ w (by decide))
 rw[show badU (⟨#[]⟩:ByteArray).data.toList = -1 from rfl] at KB
 clear h2 h
 go_enter Tryz.func40,Tryz.ntmps40
 go_wp2_with (first
   | (go_at_call 61;with_reducible refine (Fsd.out _).mono ?_;rintro e w' ⟨rfl,rfl⟩)
   | (go_at_call 61;with_reducible refine (Fen.out _).mono ?_;rintro e w' ⟨rfl,rfl⟩)
   | (go_at_call 61;with_reducible refine (F0.out _).mono ?_;rintro e w' ⟨rfl,rfl⟩)
   | (go_at_call 57;refine (KB.out _).mono ?_;rintro e w' ⟨rfl,hb⟩;have HW:=hid ((below1 w _).trans (hb.mono (by simp)));clear hb))
 go_ret
 exact ⟨ret_b (by simp),HW.out⟩
theorem good15_34 (st:Int) (en:Int) (sd:Int) (h:en≠0):SelG 3 ⟨#[]⟩ 0 st en true false sd:=by
 intro w hz
 have HG:goodB ⟨3,⟨#[]⟩,0,st,en,true,false,sd⟩=false:=by
   unfold goodB
   dsimp only
   simp[h]
 rw[HG]
 clear HG
 have nen:=int_ne h
 have men:=int_eqf h
 clear h
 go_enter Tryz.func40,Tryz.ntmps40
 go_wp2
 go_ret
 exact ⟨ret_b (by simp),below1 _ _⟩
theorem good15_35 (st:Int) (sd:Int) (h:fitsB st=false):SelG 3 ⟨#[]⟩ 0 st 0 true false sd:=by
 intro w hz
 have HG:goodB ⟨3,⟨#[]⟩,0,st,0,true,false,sd⟩=false:=by
   unfold goodB
   dsimp only
   simp[fits_zero,h]
 rw[HG]
 clear HG
 have F0:=hid (fun w=>fits15_any 0 w)
 rw[fits_zero] at F0
 have Fst:=hid (fun w=>fits15_any st w)
 rw[h] at Fst
 clear h
 go_enter Tryz.func40,Tryz.ntmps40
 go_wp2_with (first
   | (go_at_call 61;with_reducible refine (Fst.out _).mono ?_;rintro e w' ⟨rfl,rfl⟩)
   | (go_at_call 61;with_reducible refine (F0.out _).mono ?_;rintro e w' ⟨rfl,rfl⟩))
 go_ret
 exact ⟨ret_b (by simp),below1 _ _⟩
theorem good15_36 (st:Int) (sd:Int) (h1:fitsB st=true) (h:fitsB sd=false):SelG 3 ⟨#[]⟩ 0 st 0 true false sd:=by
 intro w hz
 have HG:goodB ⟨3,⟨#[]⟩,0,st,0,true,false,sd⟩=false:=by
   unfold goodB
   dsimp only
   simp[fits_zero,h1,h]
 rw[HG]
 clear HG
 have F0:=hid (fun w=>fits15_any 0 w)
 rw[fits_zero] at F0
 have Fst:=hid (fun w=>fits15_any st w)
 rw[h1] at Fst
 have Fsd:=hid (fun w=>fits15_any sd w)
 rw[h] at Fsd
 clear h1 h
 go_enter Tryz.func40,Tryz.ntmps40
 go_wp2_with (first
   | (go_at_call 61;with_reducible refine (Fsd.out _).mono ?_;rintro e w' ⟨rfl,rfl⟩)
   | (go_at_call 61;with_reducible refine (Fst.out _).mono ?_;rintro e w' ⟨rfl,rfl⟩)
   | (go_at_call 61;with_reducible refine (F0.out _).mono ?_;rintro e w' ⟨rfl,rfl⟩))
 go_ret
 exact ⟨ret_b (by simp),below1 _ _⟩
theorem good15_37 (st:Int) (sd:Int) (h1:fitsB st=true) (h:fitsB sd=true):SelG 3 ⟨#[]⟩ 0 st 0 true false sd:=by
 intro w hz
 have HG:goodB ⟨3,⟨#[]⟩,0,st,0,true,false,sd⟩=true:=by
   unfold goodB
   dsimp only
   simp[fits_zero,h1,h,(show badU [] = -1 from rfl)]
 rw[HG]
 clear HG
 have F0:=hid (fun w=>fits15_any 0 w)
 rw[fits_zero] at F0
 have Fst:=hid (fun w=>fits15_any st w)
 rw[h1] at Fst
 have Fsd:=hid (fun w=>fits15_any sd w)
 rw[h] at Fsd
 have KB:=hid (fun w=>rbad_any ⟨#[]⟩ w (by decide))
 rw[show badU (⟨#[]⟩:ByteArray).data.toList = -1 from rfl] at KB
 clear h1 h
 go_enter Tryz.func40,Tryz.ntmps40
 go_wp2_with (first
   | (go_at_call 61;with_reducible refine (Fsd.out _).mono ?_;rintro e w' ⟨rfl,rfl⟩)
   | (go_at_call 61;with_reducible refine (Fst.out _).mono ?_;rintro e w' ⟨rfl,rfl⟩)
   | (go_at_call 61;with_reducible refine (F0.out _).mono ?_;rintro e w' ⟨rfl,rfl⟩)
   | (go_at_call 57;refine (KB.out _).mono ?_;rintro e w' ⟨rfl,hb⟩;have HW:=hid ((below1 w _).trans (hb.mono (by simp)));clear hb))
 go_ret
 exact ⟨ret_b (by simp),HW.out⟩
theorem good15_38 (st:Int) (en:Int) (sd:Int) (h:fitsB st=false):SelG 3 ⟨#[]⟩ 0 st en true true sd:=by
 intro w hz
 have HG:goodB ⟨3,⟨#[]⟩,0,st,en,true,true,sd⟩=false:=by
   unfold goodB
   dsimp only
   simp[fits_zero,h]
 rw[HG]
 clear HG
 have F0:=hid (fun w=>fits15_any 0 w)
 rw[fits_zero] at F0
 have Fst:=hid (fun w=>fits15_any st w)
 rw[h] at Fst
 clear h
 go_enter Tryz.func40,Tryz.ntmps40
 go_wp2_with (first
   | (go_at_call 61;with_reducible refine (Fst.out _).mono ?_;rintro e w' ⟨rfl,rfl⟩)
   | (go_at_call 61;with_reducible refine (F0.out _).mono ?_;rintro e w' ⟨rfl,rfl⟩))
 go_ret
 exact ⟨ret_b (by simp),below1 _ _⟩
theorem good15_39 (st:Int) (en:Int) (sd:Int) (h1:fitsB st=true) (h:fitsB en=false):SelG 3 ⟨#[]⟩ 0 st en true true sd:=by
 intro w hz
 have HG:goodB ⟨3,⟨#[]⟩,0,st,en,true,true,sd⟩=false:=by
   unfold goodB
   dsimp only
   simp[fits_zero,h1,h]
 rw[HG]
 clear HG
 have F0:=hid (fun w=>fits15_any 0 w)
 rw[fits_zero] at F0
 have Fst:=hid (fun w=>fits15_any st w)
 rw[h1] at Fst
 have Fen:=hid (fun w=>fits15_any en w)
 rw[h] at Fen
 clear h1 h
 go_enter Tryz.func40,Tryz.ntmps40
 go_wp2_with (first
   | (go_at_call 61;with_reducible refine (Fen.out _).mono ?_;rintro e w' ⟨rfl,rfl⟩)
   | (go_at_call 61;with_reducible refine (Fst.out _).mono ?_;rintro e w' ⟨rfl,rfl⟩)
   | (go_at_call 61;with_reducible refine (F0.out _).mono ?_;rintro e w' ⟨rfl,rfl⟩))
 go_ret
 exact ⟨ret_b (by simp),below1 _ _⟩
theorem good15_40 (st:Int) (en:Int) (sd:Int) (h1:fitsB st=true) (h2:fitsB en=true) (h:fitsB sd=false):SelG 3 ⟨#[]⟩ 0 st en true true sd:=by
 intro w hz
 have HG:goodB ⟨3,⟨#[]⟩,0,st,en,true,true,sd⟩=false:=by
   unfold goodB
   dsimp only
   simp[fits_zero,h1,h2,h]
 rw[HG]
 clear HG
 have F0:=hid (fun w=>fits15_any 0 w)
 rw[fits_zero] at F0
 have Fst:=hid (fun w=>fits15_any st w)
 rw[h1] at Fst
 have Fen:=hid (fun w=>fits15_any en w)
 rw[h2] at Fen
 have Fsd:=hid (fun w=>fits15_any sd w)
 rw[h] at Fsd
 clear h1 h2 h
 go_enter Tryz.func40,Tryz.ntmps40
 go_wp2_with (first
   | (go_at_call 61;with_reducible refine (Fsd.out _).mono ?_;rintro e w' ⟨rfl,rfl⟩)
   | (go_at_call 61;with_reducible refine (Fen.out _).mono ?_;rintro e w' ⟨rfl,rfl⟩)
   | (go_at_call 61;with_reducible refine (Fst.out _).mono ?_;rintro e w' ⟨rfl,rfl⟩)
   | (go_at_call 61;with_reducible refine (F0.out _).mono ?_;rintro e w' ⟨rfl,rfl⟩))
 go_ret
 exact ⟨ret_b (by simp),below1 _ _⟩
theorem good15_41 (st:Int) (en:Int) (sd:Int) (h1:fitsB st=true) (h2:fitsB en=true) (h:fitsB sd=true):SelG 3 ⟨#[]⟩ 0 st en true true sd:=by
 intro w hz
 have HG:goodB ⟨3,⟨#[]⟩,0,st,en,true,true,sd⟩=true:=by
   unfold goodB
   dsimp only
   simp[fits_zero,h1,h2,h,(show badU [] = -1 from rfl)]
 rw[HG]
 clear HG
 have F0:=hid (fun w=>fits15_any 0 w)
 rw[fits_zero] at F0
 have Fst:=hid (fun w=>fits15_any st w)
 rw[h1] at Fst
 have Fen:=hid (fun w=>fits15_any en w)
 rw[h2] at Fen
 have Fsd:=hid (fun w=>fits15_any sd w)
 rw[h] at Fsd
 have KB:=hid (fun w=>rbad_any ⟨#[]⟩ w (by decide))
 rw[show badU (⟨#[]⟩:ByteArray).data.toList = -1 from rfl] at KB
 clear h1 h2 h
 go_enter Tryz.func40,Tryz.ntmps40
 go_wp2_with (first
   | (go_at_call 61;with_reducible refine (Fsd.out _).mono ?_;rintro e w' ⟨rfl,rfl⟩)
   | (go_at_call 61;with_reducible refine (Fen.out _).mono ?_;rintro e w' ⟨rfl,rfl⟩)
   | (go_at_call 61;with_reducible refine (Fst.out _).mono ?_;rintro e w' ⟨rfl,rfl⟩)
   | (go_at_call 61;with_reducible refine (F0.out _).mono ?_;rintro e w' ⟨rfl,rfl⟩)
   | (go_at_call 57;refine (KB.out _).mono ?_;rintro e w' ⟨rfl,hb⟩;have HW:=hid ((below1 w _).trans (hb.mono (by simp)));clear hb))
 go_ret
 exact ⟨ret_b (by simp),HW.out⟩
theorem good15_any (y:Sel) (w:World) (hz:y.name.size≤maxLen) :
   Calls Tryz.prog 40 #[.agg #[.int .i64 y.kind,.string y.name,.int .i64 y.index,.int .i64 y.start,.int .i64 y.en,.bool y.hs,.bool y.he,.int .i64 y.stride]] w fun e w'=>e=.returned (.bool (goodB y))∧Below w.heap.size w w':=by
 obtain ⟨k,nm,ix,st,en,hs,he,sd⟩:=y
 revert w
 suffices h:SelG k nm ix st en hs he sd from fun w=>h w hz
 by_cases k0:k<0
 ·exact good15_1 k nm ix st en hs he sd k0
 by_cases k9:3<k
 ·exact good15_2 k nm ix st en hs he sd k9
 have hem:nm.data.toList=[]→nm=⟨#[]⟩:=fun e=>by rw[show nm=(⟨nm.data.toList.toArray⟩:ByteArray) by simp,e]
 by_cases c0:k=0
 ·subst c0
  by_cases i0:ix=0
  rotate_left
  ·exact good15_3 nm ix st en hs he sd i0
  subst i0
  by_cases s0:st=0
  rotate_left
  ·exact good15_4 nm st en hs he sd s0
  subst s0
  by_cases e0:en=0
  rotate_left
  ·exact good15_5 nm en hs he sd e0
  subst e0
  by_cases d0:sd=0
  rotate_left
  ·exact good15_6 nm hs he sd d0
  subst d0
  cases hs
  rotate_left
  ·exact good15_7 nm he
  cases he
  rotate_left
  ·exact good15_8 nm
  exact good15_name nm
 by_cases n0:nm.data.toList=[]
 rotate_left
 ·by_cases c1:k=1
  ·subst c1;exact good15_9 nm ix st en hs he sd n0
  by_cases c2:k=2
  ·subst c2;exact good15_17 nm ix st en hs he sd n0
  obtain rfl:k=3:=by omega
  exact good15_25 nm ix st en hs he sd n0
 obtain rfl:=hem n0
 by_cases c1:k=1
 ·subst c1
  by_cases i0:ix=0
  rotate_left
  ·exact good15_10 ix st en hs he sd i0
  subst i0
  by_cases s0:st=0
  rotate_left
  ·exact good15_11 st en hs he sd s0
  subst s0
  by_cases e0:en=0
  rotate_left
  ·exact good15_12 en hs he sd e0
  subst e0
  by_cases d0:sd=0
  rotate_left
  ·exact good15_13 hs he sd d0
  subst d0
  cases hs
  rotate_left
  ·exact good15_14 he
  cases he
  rotate_left
  ·exact good15_15
  exact good15_16
 by_cases c2:k=2
 ·subst c2
  by_cases s0:st=0
  rotate_left
  ·exact good15_18 ix st en hs he sd s0
  subst s0
  by_cases e0:en=0
  rotate_left
  ·exact good15_19 ix en hs he sd e0
  subst e0
  by_cases d0:sd=0
  rotate_left
  ·exact good15_20 ix hs he sd d0
  subst d0
  cases hs
  rotate_left
  ·exact good15_21 ix he
  cases he
  rotate_left
  ·exact good15_22 ix
  cases f0:fitsB ix
  ·exact good15_23 ix f0
  ·exact good15_24 ix f0
 obtain rfl:k=3:=by omega
 by_cases i0:ix=0
 rotate_left
 ·exact good15_26 ix st en hs he sd i0
 subst i0
 cases hs
 ·by_cases s0:st=0
  rotate_left
  ·exact good15_27 st en he sd s0
  subst s0
  cases he
  ·by_cases e0:en=0
   rotate_left
   ·exact good15_28 en sd e0
   subst e0
   cases f3:fitsB sd
   ·exact good15_29 sd f3
   ·exact good15_30 sd f3
  ·skip
   cases f2:fitsB en
   ·exact good15_31 en sd f2
   cases f3:fitsB sd
   ·exact good15_32 en sd f2 f3
   ·exact good15_33 en sd f2 f3
 ·skip
  cases he
  ·by_cases e0:en=0
   rotate_left
   ·exact good15_34 st en sd e0
   subst e0
   cases f1:fitsB st
   ·exact good15_35 st sd f1
   cases f3:fitsB sd
   ·exact good15_36 st sd f1 f3
   ·exact good15_37 st sd f1 f3
  ·skip
   cases f1:fitsB st
   ·exact good15_38 st en sd f1
   cases f2:fitsB en
   ·exact good15_39 st en sd f1 f2
   cases f3:fitsB sd
   ·exact good15_40 st en sd f1 f2 f3
   ·exact good15_41 st en sd f1 f2 f3
end
end Go.Proofs.YtnokhgfifbkflaaGreat
