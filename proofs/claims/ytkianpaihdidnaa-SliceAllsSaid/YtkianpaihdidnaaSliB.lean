/- Package slice: within, Has, least. -/
import Derived.Test.YtkianpaihdidnaaRows
import Derived.Test.YtkianpaihdidnaaSli
import Derived.Deep.CutRange
namespace Go.Proofs.Ytkianpaihdidnaa
open Go.RowKit
set_option linter.unusedVariables false

/-- Does a slice mean an item that there is? -/
def withinI (s : Sel) (i m : Int) : Bool :=
  if 0 < s.stride then decide (lowI s m ≤ i ∧ i < highI s m ∧ (i - lowI s m) % s.stride = 0)
  else if s.stride < 0 then decide (lowI s m < i ∧ i ≤ highI s m ∧ (highI s m - i) % (0 - s.stride) = 0)
  else false
theorem has_within (s : Sel) (i m : Int) (h0 : 0 ≤ i) (h1 : i < m) (h2 : s.kind = 3) : hasI s i m = withinI s i m := by
  unfold withinI
  by_cases hp : 0 < s.stride
  · rw [if_pos hp, has_up s i m h0 h1 h2 hp]
  · rw [if_neg hp]
    by_cases hn : s.stride < 0
    · rw [if_pos hn, has_down s i m h0 h1 h2 hn]
    · rw [if_neg hn, has_none s i m h0 h1 (by omega) (.inr (by omega))]

set_option maxRecDepth 100000 in
set_option maxHeartbeats 2000000 in
theorem pwithin_any (s : Sel) (i m : Int) (w : World) (hs : RightI s) (h0 : 0 ≤ m) (h9 : m ≤ 9007199254740992) (g0 : 0 ≤ i) (g1 : i < m) :
    Calls Try.prog 20 #[.agg (selV s), .int .i64 i, .int .i64 m] w fun e w' => e = .returned (.bool (withinI s i m)) ∧ Below w.heap.size w w' := by
  have HB := Lib.hid (fun w => pbounds_any s m w hs h0 h9)
  have hb := bounds_in s m h0
  have hsb := hs.stride
  unfold okI at hsb
  unfold withinI
  by_cases hp : 0 < s.stride
  · rw [if_pos hp]
    have hp2 : s.stride > 0 := hp
    have hb1 := hb.2.2.2.2.1 hp
    unfold selV at *
    clear hs
    generalize lowI s m = lo at *
    generalize highI s m = hi at *
    generalize hst2 : s.stride = st at *
    have hne : st ≠ 0 := by omega
    by_cases q1 : lo ≤ i
    · by_cases q2 : i < hi
      · have HD := Lib.hid (show decide (lo ≤ i ∧ i < hi ∧ (i - lo) % st = 0) = ((i - lo) % st == 0) by
          by_cases h : (i - lo) % st = 0
          · simp [h, q1, q2]
          · simp [h])
        rw [HD.out]
        have hd0 : 0 ≤ i - lo := by omega
        go_enter Try.func20, Try.ntmps20
        go_wp2_with (go_at_call 8; refine (HB.out _).mono ?_; rintro e w2 ⟨rfl, hb2⟩; have ho := (Own.fresh w 23 #[.int .i64 s.kind, .string s.name, .int .i64 s.index, .int .i64 s.start, .int .i64 s.en, .bool s.hs, .bool s.he, .int .i64 st]).stay hb2 (by simp); have c7 := ho.at 7; simp at c7; clear ho)
        go_ret
        exact ⟨rfl, (below1s _ _).trans (hb2.mono (by simp))⟩
      · have HD := Lib.hid (show decide (lo ≤ i ∧ i < hi ∧ (i - lo) % st = 0) = false from decide_eq_false (fun h => q2 h.2.1))
        rw [HD.out]
        go_enter Try.func20, Try.ntmps20
        go_wp2_with (go_at_call 8; refine (HB.out _).mono ?_; rintro e w2 ⟨rfl, hb2⟩; have ho := (Own.fresh w 23 #[.int .i64 s.kind, .string s.name, .int .i64 s.index, .int .i64 s.start, .int .i64 s.en, .bool s.hs, .bool s.he, .int .i64 st]).stay hb2 (by simp); have c7 := ho.at 7; simp at c7; clear ho)
        go_ret
        exact ⟨rfl, (below1s _ _).trans (hb2.mono (by simp))⟩
    · have HD := Lib.hid (show decide (lo ≤ i ∧ i < hi ∧ (i - lo) % st = 0) = false from decide_eq_false (fun h => q1 h.1))
      rw [HD.out]
      go_enter Try.func20, Try.ntmps20
      go_wp2_with (go_at_call 8; refine (HB.out _).mono ?_; rintro e w2 ⟨rfl, hb2⟩; have ho := (Own.fresh w 23 #[.int .i64 s.kind, .string s.name, .int .i64 s.index, .int .i64 s.start, .int .i64 s.en, .bool s.hs, .bool s.he, .int .i64 st]).stay hb2 (by simp); have c7 := ho.at 7; simp at c7; clear ho)
      go_ret
      exact ⟨rfl, (below1s _ _).trans (hb2.mono (by simp))⟩
  rw [if_neg hp]
  have hp2 : ¬ s.stride > 0 := hp
  by_cases hn : s.stride < 0
  · rw [if_pos hn]
    have hb1 := hb.2.2.2.2.2 hn
    unfold selV at *
    clear hs
    generalize lowI s m = lo at *
    generalize highI s m = hi at *
    generalize hst2 : s.stride = st at *
    have hne : st ≠ 0 := by omega
    by_cases q1 : lo < i
    · by_cases q2 : i ≤ hi
      · have HD := Lib.hid (show decide (lo < i ∧ i ≤ hi ∧ (hi - i) % (0 - st) = 0) = ((hi - i) % st == 0) by
          rw [Bool.eq_iff_iff, decide_eq_true_eq, beq_iff_eq, Int.zero_sub, Int.emod_neg]
          exact ⟨fun h => h.2.2, fun h => ⟨q1, q2, h⟩⟩)
        rw [HD.out]
        have hd0 : 0 ≤ hi - i := by omega
        go_enter Try.func20, Try.ntmps20
        go_wp2_with (go_at_call 8; refine (HB.out _).mono ?_; rintro e w2 ⟨rfl, hb2⟩; have ho := (Own.fresh w 23 #[.int .i64 s.kind, .string s.name, .int .i64 s.index, .int .i64 s.start, .int .i64 s.en, .bool s.hs, .bool s.he, .int .i64 st]).stay hb2 (by simp); have c7 := ho.at 7; simp at c7; clear ho)
        go_ret
        exact ⟨rfl, (below1s _ _).trans (hb2.mono (by simp))⟩
      · have HD := Lib.hid (show decide (lo < i ∧ i ≤ hi ∧ (hi - i) % (0 - st) = 0) = false from decide_eq_false (fun h => q2 h.2.1))
        rw [HD.out]
        go_enter Try.func20, Try.ntmps20
        go_wp2_with (go_at_call 8; refine (HB.out _).mono ?_; rintro e w2 ⟨rfl, hb2⟩; have ho := (Own.fresh w 23 #[.int .i64 s.kind, .string s.name, .int .i64 s.index, .int .i64 s.start, .int .i64 s.en, .bool s.hs, .bool s.he, .int .i64 st]).stay hb2 (by simp); have c7 := ho.at 7; simp at c7; clear ho)
        go_ret
        exact ⟨rfl, (below1s _ _).trans (hb2.mono (by simp))⟩
    · have HD := Lib.hid (show decide (lo < i ∧ i ≤ hi ∧ (hi - i) % (0 - st) = 0) = false from decide_eq_false (fun h => q1 h.1))
      rw [HD.out]
      go_enter Try.func20, Try.ntmps20
      go_wp2_with (go_at_call 8; refine (HB.out _).mono ?_; rintro e w2 ⟨rfl, hb2⟩; have ho := (Own.fresh w 23 #[.int .i64 s.kind, .string s.name, .int .i64 s.index, .int .i64 s.start, .int .i64 s.en, .bool s.hs, .bool s.he, .int .i64 st]).stay hb2 (by simp); have c7 := ho.at 7; simp at c7; clear ho)
      go_ret
      exact ⟨rfl, (below1s _ _).trans (hb2.mono (by simp))⟩
  · rw [if_neg hn]
    unfold selV at *
    clear hs
    generalize lowI s m = lo at *
    generalize highI s m = hi at *
    generalize hst2 : s.stride = st at *
    go_enter Try.func20, Try.ntmps20
    go_wp2_with (go_at_call 8; refine (HB.out _).mono ?_; rintro e w2 ⟨rfl, hb2⟩; have ho := (Own.fresh w 23 #[.int .i64 s.kind, .string s.name, .int .i64 s.index, .int .i64 s.start, .int .i64 s.en, .bool s.hs, .bool s.he, .int .i64 st]).stay hb2 (by simp); have c7 := ho.at 7; simp at c7; clear ho)
    go_ret
    exact ⟨rfl, (below1s _ _).trans (hb2.mono (by simp))⟩

set_option maxRecDepth 100000 in
set_option maxHeartbeats 2000000 in
theorem phas_any (s : Sel) (i m : Int) (w : World) (hs : RightI s) (h0 : 0 ≤ m) (h9 : m ≤ 9007199254740992) :
    Calls Try.prog 10 #[.agg (selV s), .int .i64 i, .int .i64 m] w fun e w' => e = .returned (.bool (hasI s i m)) ∧ Below w.heap.size w w' := by
  by_cases hi0 : i < 0
  · rw [has_out s i m (.inl hi0)]
    unfold selV
    go_enter Try.func10, Try.ntmps10
    go_wp2
    go_ret
    exact ⟨rfl, below1s _ _⟩
  by_cases him : m ≤ i
  · rw [has_out s i m (.inr him)]
    have him2 : i ≥ m := him
    unfold selV
    go_enter Try.func10, Try.ntmps10
    go_wp2
    go_ret
    exact ⟨rfl, below1s _ _⟩
  have g1 : i < m := by omega
  have g1n : ¬ i ≥ m := by omega
  have g0 : 0 ≤ i := by omega
  by_cases hk : s.kind = 2
  · rw [has_index s i m g0 g1 hk]
    have HP := Lib.hid (fun w => pplace_any s.index m w hs.index.mid ⟨by omega, by omega⟩)
    have hcm : (i == placeI s.index m) = (placeI s.index m == i) := BEq.comm
    unfold selV
    rw [hk]
    generalize placeI s.index m = x at *
    rw [← hcm]
    clear hcm
    go_enter Try.func10, Try.ntmps10
    go_wp2_with (go_at_call 14; refine (HP.out _).mono ?_; rintro e w' ⟨rfl, rfl⟩)
    go_ret
    exact ⟨rfl, below1s _ _⟩
  have gk : (s.kind == 2) = false := beq_eq_false_iff_ne.2 hk
  by_cases hk3 : s.kind ≠ 3
  · rw [has_none s i m g0 g1 hk (.inl hk3)]
    have gk3 : (s.kind == 3) = false := beq_eq_false_iff_ne.2 hk3
    unfold selV
    clear hs hk hk3
    generalize s.kind = kd at *
    go_enter Try.func10, Try.ntmps10
    go_wp2
    go_ret
    exact ⟨rfl, below1s _ _⟩
  have hk3 : s.kind = 3 := Decidable.not_not.1 hk3
  rw [has_within s i m g0 g1 hk3]
  have HW := Lib.hid (fun w => pwithin_any s i m w hs h0 h9 g0 g1)
  unfold selV at *
  rw [hk3] at *
  clear hs hk hk3 gk
  generalize withinI s i m = x at *
  go_enter Try.func10, Try.ntmps10
  go_wp2_with (go_at_call 20; refine (HW.out _).mono ?_; rintro e w2 ⟨rfl, hb2⟩)
  go_ret
  exact ⟨rfl, (below1s _ _).trans (hb2.mono (by simp))⟩

/-- The least number that may be meant, and by how much each is above the one ahead. -/
def leastI (s : Sel) (m : Int) : Int :=
  if s.kind = 2 then placeI s.index m else if s.stride < 0 then lowI s m + 1 + (highI s m - lowI s m - 1).tmod s.stride else lowI s m
def byI (s : Sel) : Int := if s.kind = 2 then 1 else if s.stride < 0 then 0 - s.stride else s.stride

set_option maxRecDepth 100000 in
set_option maxHeartbeats 2000000 in
theorem pleast_any (s : Sel) (m : Int) (w : World) (hs : RightI s) (h0 : 0 ≤ m) (h9 : m ≤ 9007199254740992) :
    Calls Try.prog 21 #[.agg (selV s), .int .i64 m] w fun e w' => e = .returned (.tuple #[.int .i64 (leastI s m), .int .i64 (byI s)]) ∧ Below w.heap.size w w' := by
  unfold leastI byI
  by_cases hk : s.kind = 2
  · rw [if_pos hk, if_pos hk]
    have HP := Lib.hid (fun w => pplace_any s.index m w hs.index.mid ⟨by omega, by omega⟩)
    unfold selV
    rw [hk]
    generalize placeI s.index m = x at *
    go_enter Try.func21, Try.ntmps21
    go_wp2_with (go_at_call 14; refine (HP.out _).mono ?_; rintro e w' ⟨rfl, rfl⟩)
    go_ret2
    exact ⟨rfl, below1s _ _⟩
  rw [if_neg hk, if_neg hk]
  have gk : (s.kind == 2) = false := beq_eq_false_iff_ne.2 hk
  have HB := Lib.hid (fun w => pbounds_any s m w hs h0 h9)
  have hb := bounds_in s m h0
  have hsb := hs.stride
  unfold okI at hsb
  by_cases hn : s.stride < 0
  · rw [if_pos hn, if_pos hn]
    have hb1 := hb.2.2.2.2.2 hn
    unfold selV at *
    clear hs hk
    generalize lowI s m = lo at *
    generalize highI s m = hi at *
    generalize s.kind = kd at *
    generalize hst2 : s.stride = st at *
    have hne : st ≠ 0 := by omega
    go_enter Try.func21, Try.ntmps21
    go_upto_region 5 with (go_at_call 8; refine (HB.out _).mono ?_; rintro e w2 ⟨rfl, hb2⟩; have ho := (Own.fresh w 23 #[.int .i64 kd, .string s.name, .int .i64 s.index, .int .i64 s.start, .int .i64 s.en, .bool s.hs, .bool s.he, .int .i64 st]).stay hb2 (by simp); have c7 := ho.at 7; simp at c7; clear ho)
    have hT1 : -9007199254740992 ≤ (hi - lo - 1).tmod st ∧ (hi - lo - 1).tmod st ≤ 9007199254740992 := by
      have h1 := Int.natAbs_tmod (hi - lo - 1) st
      have h2 := Nat.mod_lt (hi - lo - 1).natAbs (show 0 < st.natAbs by omega)
      omega
    go_quiet (fail)
    go_wp2
    go_ret2
    exact ⟨by simp, ((below1s _ _).trans (hb2.mono (by simp))).trans ⟨rfl, rfl, rfl, Nat.le_refl _, fun _ _ => rfl⟩⟩
  · rw [if_neg hn, if_neg hn]
    unfold selV at *
    clear hs hk
    generalize lowI s m = lo at *
    generalize highI s m = hi at *
    generalize s.kind = kd at *
    generalize hst2 : s.stride = st at *
    go_enter Try.func21, Try.ntmps21
    go_wp2_with (go_at_call 8; refine (HB.out _).mono ?_; rintro e w2 ⟨rfl, hb2⟩; have ho := (Own.fresh w 23 #[.int .i64 kd, .string s.name, .int .i64 s.index, .int .i64 s.start, .int .i64 s.en, .bool s.hs, .bool s.he, .int .i64 st]).stay hb2 (by simp); have c7 := ho.at 7; simp at c7; clear ho)
    go_quiet (fail)
    go_wp2
    go_ret2
    exact ⟨rfl, ((below1s _ _).trans (hb2.mono (by simp))).trans ⟨rfl, rfl, rfl, Nat.le_refl _, fun _ _ => rfl⟩⟩

end Go.Proofs.Ytkianpaihdidnaa
