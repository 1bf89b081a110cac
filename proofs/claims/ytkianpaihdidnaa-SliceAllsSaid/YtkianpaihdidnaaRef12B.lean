/- The document's slices (riffleref12): Has, Hangs, Right. -/
import Derived.Test.YtkianpaihdidnaaRef12
namespace Go.Proofs.Ytkianpaihdidnaa
open Go.RowKit
set_option linter.unusedVariables false

theorem has_out (s : Sel) (i m : Int) (h : i < 0 ∨ m ≤ i) : hasI s i m = false := by unfold hasI; rw [if_pos h]
theorem has_index (s : Sel) (i m : Int) (h0 : 0 ≤ i) (h1 : i < m) (h2 : s.kind = 2) : hasI s i m = (placeI s.index m == i) := by
  unfold hasI
  rw [if_neg (show ¬ (i < 0 ∨ m ≤ i) by omega), if_pos h2]
  by_cases h : placeI s.index m = i
  · simp [h]
  · simp [h]
theorem has_none (s : Sel) (i m : Int) (h0 : 0 ≤ i) (h1 : i < m) (h2 : s.kind ≠ 2) (h3 : s.kind ≠ 3 ∨ s.stride = 0) : hasI s i m = false := by
  unfold hasI
  rw [if_neg (show ¬ (i < 0 ∨ m ≤ i) by omega), if_neg h2, if_pos h3]
theorem has_up (s : Sel) (i m : Int) (h0 : 0 ≤ i) (h1 : i < m) (h2 : s.kind = 3) (h3 : 0 < s.stride) : hasI s i m = decide (lowI s m ≤ i ∧ i < highI s m ∧ (i - lowI s m) % s.stride = 0) := by
  unfold hasI
  rw [if_neg (show ¬ (i < 0 ∨ m ≤ i) by omega), if_neg (by omega), if_neg (by omega), if_pos h3]
theorem has_down (s : Sel) (i m : Int) (h0 : 0 ≤ i) (h1 : i < m) (h2 : s.kind = 3) (h3 : s.stride < 0) : hasI s i m = decide (lowI s m < i ∧ i ≤ highI s m ∧ (highI s m - i) % (0 - s.stride) = 0) := by
  unfold hasI
  rw [if_neg (show ¬ (i < 0 ∨ m ≤ i) by omega), if_neg (by omega), if_neg (by omega), if_neg (by omega)]

set_option maxRecDepth 100000 in
set_option maxHeartbeats 2000000 in
theorem rhas_any (s : Sel) (i m : Int) (w : World) (hs : RightI s) (h0 : 0 ≤ m) (h9 : m ≤ 9007199254740992) :
    Calls Try.prog 11 #[.agg (selV s), .int .i64 i, .int .i64 m] w fun e w' => e = .returned (.bool (hasI s i m)) ∧ Below w.heap.size w w' := by
  by_cases hi0 : i < 0
  · rw [has_out s i m (.inl hi0)]
    unfold selV
    go_enter Try.func11, Try.ntmps11
    go_wp2
    go_ret
    exact ⟨rfl, below1s _ _⟩
  by_cases him : m ≤ i
  · rw [has_out s i m (.inr him)]
    unfold selV
    go_enter Try.func11, Try.ntmps11
    go_wp2
    go_ret
    exact ⟨rfl, below1s _ _⟩
  have g1 : i < m := by omega
  have g0 : 0 ≤ i := by omega
  by_cases hk : s.kind = 2
  · rw [has_index s i m g0 g1 hk]
    have HP := Lib.hid (fun w => rplace_any s.index m w hs.index.mid ⟨by omega, by omega⟩)
    unfold selV
    rw [hk]
    generalize placeI s.index m = x at *
    go_enter Try.func11, Try.ntmps11
    go_wp2_with (go_at_call 15; refine (HP.out _).mono ?_; rintro e w' ⟨rfl, rfl⟩)
    go_ret
    exact ⟨rfl, below1s _ _⟩
  have gk : (s.kind == 2) = false := beq_eq_false_iff_ne.2 hk
  by_cases hk3 : s.kind ≠ 3
  · rw [has_none s i m g0 g1 hk (.inl hk3)]
    have gk3 : (s.kind != 3) = true := bne_iff_ne.2 hk3
    unfold selV
    clear hs hk hk3
    generalize s.kind = kd at *
    go_enter Try.func11, Try.ntmps11
    go_wp2
    go_ret
    exact ⟨rfl, below1s _ _⟩
  have hk3 : s.kind = 3 := Decidable.not_not.1 hk3
  by_cases hst : s.stride = 0
  · rw [has_none s i m g0 g1 hk (.inr hst)]
    unfold selV
    rw [hk3, hst]
    go_enter Try.func11, Try.ntmps11
    go_wp2
    go_ret
    exact ⟨rfl, below1s _ _⟩
  have gst : (s.stride == 0) = false := beq_eq_false_iff_ne.2 hst
  have HB := Lib.hid (fun w => rbounds_any s m w hs h0 h9)
  have hb := bounds_in s m h0
  have hsb := hs.stride
  unfold okI at hsb
  by_cases hp : 0 < s.stride
  · rw [has_up s i m g0 g1 hk3 hp]
    have hp2 : s.stride > 0 := hp
    have hb1 := hb.2.2.2.2.1 hp
    unfold selV at *
    rw [hk3] at *
    clear hs hk hk3 gk
    generalize lowI s m = lo at *
    generalize highI s m = hi at *
    generalize hst2 : s.stride = st at *
    have hm0 : 0 ≤ (i - lo) % st ∨ True := .inr trivial
    have hne : st ≠ 0 := by omega
    by_cases q1 : lo ≤ i
    · have q1' : i ≥ lo := q1
      by_cases q2 : i < hi
      · have HD := Lib.hid (show decide (lo ≤ i ∧ i < hi ∧ (i - lo) % st = 0) = ((i - lo) % st == 0) by
          by_cases h : (i - lo) % st = 0
          · simp [h, q1, q2]
          · simp [h])
        rw [HD.out]
        have hd0 : 0 ≤ i - lo := by omega
        go_enter Try.func11, Try.ntmps11
        go_wp2_with (go_at_call 9; refine (HB.out _).mono ?_; rintro e w2 ⟨rfl, hb2⟩; have ho := (Own.fresh w 23 #[.int .i64 3, .string s.name, .int .i64 s.index, .int .i64 s.start, .int .i64 s.en, .bool s.hs, .bool s.he, .int .i64 st]).stay hb2 (by simp); have c7 := ho.at 7; simp at c7; clear ho)
        go_ret
        exact ⟨rfl, (below1s _ _).trans (hb2.mono (by simp))⟩
      · have HD := Lib.hid (show decide (lo ≤ i ∧ i < hi ∧ (i - lo) % st = 0) = false from decide_eq_false (fun h => q2 h.2.1))
        rw [HD.out]
        go_enter Try.func11, Try.ntmps11
        go_wp2_with (go_at_call 9; refine (HB.out _).mono ?_; rintro e w2 ⟨rfl, hb2⟩; have ho := (Own.fresh w 23 #[.int .i64 3, .string s.name, .int .i64 s.index, .int .i64 s.start, .int .i64 s.en, .bool s.hs, .bool s.he, .int .i64 st]).stay hb2 (by simp); have c7 := ho.at 7; simp at c7; clear ho)
        go_ret
        exact ⟨rfl, (below1s _ _).trans (hb2.mono (by simp))⟩
    · have q1' : ¬ i ≥ lo := q1
      have HD := Lib.hid (show decide (lo ≤ i ∧ i < hi ∧ (i - lo) % st = 0) = false from decide_eq_false (fun h => q1 h.1))
      rw [HD.out]
      go_enter Try.func11, Try.ntmps11
      go_wp2_with (go_at_call 9; refine (HB.out _).mono ?_; rintro e w2 ⟨rfl, hb2⟩; have ho := (Own.fresh w 23 #[.int .i64 3, .string s.name, .int .i64 s.index, .int .i64 s.start, .int .i64 s.en, .bool s.hs, .bool s.he, .int .i64 st]).stay hb2 (by simp); have c7 := ho.at 7; simp at c7; clear ho)
      go_ret
      exact ⟨rfl, (below1s _ _).trans (hb2.mono (by simp))⟩
  · have hn : s.stride < 0 := by omega
    rw [has_down s i m g0 g1 hk3 hn]
    have hp2 : ¬ s.stride > 0 := hp
    have hb1 := hb.2.2.2.2.2 hn
    unfold selV at *
    rw [hk3] at *
    clear hs hk hk3 gk
    generalize lowI s m = lo at *
    generalize highI s m = hi at *
    generalize hst2 : s.stride = st at *
    have hne : 0 - st ≠ 0 := by omega
    by_cases q1 : lo < i
    · have q1' : i > lo := q1
      by_cases q2 : i ≤ hi
      · have HD := Lib.hid (show decide (lo < i ∧ i ≤ hi ∧ (hi - i) % (0 - st) = 0) = ((hi - i) % (0 - st) == 0) by
          rw [Bool.eq_iff_iff, decide_eq_true_eq, beq_iff_eq]
          exact ⟨fun h => h.2.2, fun h => ⟨q1, q2, h⟩⟩)
        rw [HD.out]
        have hd0 : 0 ≤ hi - i := by omega
        have hd1 : 0 < 0 - st := by omega
        go_enter Try.func11, Try.ntmps11
        go_wp2_with (go_at_call 9; refine (HB.out _).mono ?_; rintro e w2 ⟨rfl, hb2⟩; have ho := (Own.fresh w 23 #[.int .i64 3, .string s.name, .int .i64 s.index, .int .i64 s.start, .int .i64 s.en, .bool s.hs, .bool s.he, .int .i64 st]).stay hb2 (by simp); have c7 := ho.at 7; simp at c7; clear ho)
        go_ret
        exact ⟨ret_b (by simp), (below1s _ _).trans (hb2.mono (by simp))⟩
      · have HD := Lib.hid (show decide (lo < i ∧ i ≤ hi ∧ (hi - i) % (0 - st) = 0) = false from decide_eq_false (fun h => q2 h.2.1))
        rw [HD.out]
        go_enter Try.func11, Try.ntmps11
        go_wp2_with (go_at_call 9; refine (HB.out _).mono ?_; rintro e w2 ⟨rfl, hb2⟩; have ho := (Own.fresh w 23 #[.int .i64 3, .string s.name, .int .i64 s.index, .int .i64 s.start, .int .i64 s.en, .bool s.hs, .bool s.he, .int .i64 st]).stay hb2 (by simp); have c7 := ho.at 7; simp at c7; clear ho)
        go_ret
        exact ⟨rfl, (below1s _ _).trans (hb2.mono (by simp))⟩
    · have q1' : ¬ i > lo := q1
      have HD := Lib.hid (show decide (lo < i ∧ i ≤ hi ∧ (hi - i) % (0 - st) = 0) = false from decide_eq_false (fun h => q1 h.1))
      rw [HD.out]
      go_enter Try.func11, Try.ntmps11
      go_wp2_with (go_at_call 9; refine (HB.out _).mono ?_; rintro e w2 ⟨rfl, hb2⟩; have ho := (Own.fresh w 23 #[.int .i64 3, .string s.name, .int .i64 s.index, .int .i64 s.start, .int .i64 s.en, .bool s.hs, .bool s.he, .int .i64 st]).stay hb2 (by simp); have c7 := ho.at 7; simp at c7; clear ho)
      go_ret
      exact ⟨rfl, (below1s _ _).trans (hb2.mono (by simp))⟩

set_option maxHeartbeats 2000000 in
theorem rhangs_any (s : Sel) (w : World) : Calls Try.prog 13 #[.agg (selV s)] w fun e w' => e = .returned (.bool (hangsI s)) ∧ Below w.heap.size w w' := by
  obtain ⟨kind, name, index, start, en, hs, he, stride⟩ := s
  have e : hangsI ⟨kind, name, index, start, en, hs, he, stride⟩ = (if kind = 2 then decide (index < 0) else if kind ≠ 3 ∨ stride = 0 then false else decide (stride < 0) || (hs && decide (start < 0)) || (he && decide (en < 0))) := rfl
  rw [e]
  clear e
  unfold selV
  by_cases hk : kind = 2
  · subst hk
    rw [if_pos rfl]
    go_enter Try.func13, Try.ntmps13
    go_wp2
    go_ret
    exact ⟨rfl, below1s _ _⟩
  have gk : (kind == 2) = false := beq_eq_false_iff_ne.2 hk
  rw [if_neg hk]
  by_cases hk3 : kind ≠ 3
  · rw [if_pos (.inl hk3)]
    have gk3 : (kind != 3) = true := bne_iff_ne.2 hk3
    go_enter Try.func13, Try.ntmps13
    go_wp2
    go_ret
    exact ⟨rfl, below1s _ _⟩
  obtain rfl : kind = 3 := Decidable.not_not.1 hk3
  by_cases hst : stride = 0
  · subst hst
    rw [if_pos (.inr rfl)]
    go_enter Try.func13, Try.ntmps13
    go_wp2
    go_ret
    exact ⟨rfl, below1s _ _⟩
  have gst : (stride == 0) = false := beq_eq_false_iff_ne.2 hst
  rw [if_neg (by omega)]
  by_cases h1 : stride < 0
  · rw [decide_eq_true h1]
    go_enter Try.func13, Try.ntmps13
    go_wp2
    go_ret
    exact ⟨rfl, below1s _ _⟩
  rw [decide_eq_false h1]
  have f1 : decide (stride < 0) = false := decide_eq_false h1
  by_cases h2 : start < 0 <;> by_cases h3 : en < 0
  all_goals
    first | rw [decide_eq_true h2] | rw [decide_eq_false h2]
    first | rw [decide_eq_true h3] | rw [decide_eq_false h3]
    cases hs <;> cases he
  all_goals
    go_enter Try.func13, Try.ntmps13
    go_wp2
    go_ret
    exact ⟨rfl, below1s _ _⟩

end Go.Proofs.Ytkianpaihdidnaa
