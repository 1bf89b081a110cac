/- Package slice: Place, clip, Bounds, Hangs. -/
import Derived.Test.YtkianpaihdidnaaRows
import Derived.Test.YtkianpaihdidnaaRef12B
namespace Go.Proofs.Ytkianpaihdidnaa
open Go.RowKit
set_option linter.unusedVariables false

theorem pplace_any (i m : Int) (w : World) (hi : midI i) (hm : midI m) :
    Calls Try.prog 14 #[.int .i64 i, .int .i64 m] w fun e w' => e = .returned (.int .i64 (placeI i m)) ∧ w' = w := by
  obtain ⟨h1, h2⟩ := hi
  obtain ⟨h3, h4⟩ := hm
  by_cases h : i < 0
  · have e : placeI i m = m + i := by unfold placeI; rw [if_neg (by omega)]
    rw [e]
    go_enter Try.func14, Try.ntmps14
    go_wp2
    go_ret
    exact ⟨rfl, rfl⟩
  · have e : placeI i m = i := by unfold placeI; rw [if_pos (by omega)]
    rw [e]
    go_enter Try.func14, Try.ntmps14
    go_wp2
    go_ret
    exact ⟨rfl, rfl⟩

theorem clip_max (n lo hi : Int) : clipI n lo hi = max lo (min n hi) := by
  unfold clipI
  split <;> split <;> omega

theorem pclip_any (n lo hi : Int) (w : World) :
    Calls Try.prog 18 #[.int .i64 n, .int .i64 lo, .int .i64 hi] w fun e w' => e = .returned (.int .i64 (clipI n lo hi)) ∧ w' = w := by
  have HC := Lib.hid (clip_max n lo hi)
  go_enter Try.func18, Try.ntmps18
  go_wp2
  all_goals
    go_ret
    rw [HC.out]
    clear HC
    refine ⟨congrArg (fun x => Ending.returned (Value.int .i64 x)) ?_, rfl⟩
    simp only [Int.min_def, Int.max_def]
    split at * <;> split at * <;> omega

set_option maxHeartbeats 2000000 in
theorem pbounds_any (s : Sel) (m : Int) (w : World) (hs : RightI s) (h0 : 0 ≤ m) (h9 : m ≤ 9007199254740992) :
    Calls Try.prog 8 #[.agg (selV s), .int .i64 m] w fun e w' => e = .returned (.tuple #[.int .i64 (lowI s m), .int .i64 (highI s m)]) ∧ Below w.heap.size w w' := by
  have HS := Lib.hid (fun w => pplace_any s.start m w hs.start.mid ⟨by omega, by omega⟩)
  have HE := Lib.hid (fun w => pplace_any s.en m w hs.en.mid ⟨by omega, by omega⟩)
  have HC := Lib.hid (fun n lo hi w => pclip_any n lo hi w)
  have t1 : True := trivial
  obtain ⟨kind, name, index, start, en, hs', he', stride⟩ := s
  have HL := Lib.hid (show lowI ⟨kind, name, index, start, en, hs', he', stride⟩ m = (if stride = 0 then 0 else if 0 < stride then clipI (if hs' then placeI start m else 0) 0 m else clipI (if he' then placeI en m else -1) (-1) (m - 1)) from rfl)
  have HH := Lib.hid (show highI ⟨kind, name, index, start, en, hs', he', stride⟩ m = (if stride = 0 then 0 else if 0 < stride then clipI (if he' then placeI en m else m) 0 m else clipI (if hs' then placeI start m else m - 1) (-1) (m - 1)) from rfl)
  rw [HL.out, HH.out]
  clear HL HH hs
  by_cases h1 : stride = 0
  · rw [if_pos h1, if_pos h1]
    subst h1
    unfold selV
    cases hs' <;> cases he'
    all_goals
      go_enter Try.func8, Try.ntmps8
      go_wp2_with (first
        | (go_at_call 14; with_reducible refine (HS.out _).mono ?_; rintro e w' ⟨rfl, rfl⟩)
        | (go_at_call 14; with_reducible refine (HE.out _).mono ?_; rintro e w' ⟨rfl, rfl⟩))
      go_ret2
      exact ⟨rfl, below1s _ _⟩
  rw [if_neg h1, if_neg h1]
  by_cases h2 : 0 < stride
  · rw [if_pos h2, if_pos h2]
    have h2g : stride > 0 := h2
    have h2n : ¬ stride < 0 := by omega
    unfold selV
    cases hs' <;> cases he'
    all_goals
      go_enter Try.func8, Try.ntmps8
      go_wp2_with (first
        | (go_at_call 14; with_reducible refine (HS.out _).mono ?_; rintro e w' ⟨rfl, rfl⟩)
        | (go_at_call 14; with_reducible refine (HE.out _).mono ?_; rintro e w' ⟨rfl, rfl⟩)
        | (go_at_call 18; refine (HC.out _ _ _ _).mono ?_; rintro e w' ⟨rfl, rfl⟩))
      go_ret2
      exact ⟨rfl, below1s _ _⟩
  · rw [if_neg h2, if_neg h2]
    have h2g : ¬ stride > 0 := h2
    have h2n : stride < 0 := by omega
    unfold selV
    cases hs' <;> cases he'
    all_goals
      go_enter Try.func8, Try.ntmps8
      go_wp2_with (first
        | (go_at_call 14; with_reducible refine (HS.out _).mono ?_; rintro e w' ⟨rfl, rfl⟩)
        | (go_at_call 14; with_reducible refine (HE.out _).mono ?_; rintro e w' ⟨rfl, rfl⟩)
        | (go_at_call 18; refine (HC.out _ _ _ _).mono ?_; rintro e w' ⟨rfl, rfl⟩))
      go_ret2
      exact ⟨rfl, below1s _ _⟩

set_option maxRecDepth 100000 in
set_option maxHeartbeats 4000000 in
theorem phangs_any (s : Sel) (w : World) :
    Calls Try.prog 12 #[.agg (selV s)] w fun e w' => e = .returned (.bool (hangsI s)) ∧ Below w.heap.size w w' := by
  obtain ⟨kind, name, index, start, en, hs, he, stride⟩ := s
  have e : hangsI ⟨kind, name, index, start, en, hs, he, stride⟩ = (if kind = 2 then decide (index < 0) else if kind ≠ 3 ∨ stride = 0 then false else decide (stride < 0) || (hs && decide (start < 0)) || (he && decide (en < 0))) := rfl
  rw [e]
  clear e
  unfold selV
  by_cases hk : kind = 2
  · subst hk
    rw [if_pos rfl]
    go_enter Try.func12, Try.ntmps12
    go_wp2
    go_ret
    exact ⟨rfl, below1s _ _⟩
  have gk : (kind == 2) = false := beq_eq_false_iff_ne.2 hk
  rw [if_neg hk]
  by_cases hk3 : kind ≠ 3
  · rw [if_pos (.inl hk3)]
    have gk3 : (kind == 3) = false := beq_eq_false_iff_ne.2 hk3
    go_enter Try.func12, Try.ntmps12
    go_wp2
    go_ret
    exact ⟨rfl, below1s _ _⟩
  obtain rfl : kind = 3 := Decidable.not_not.1 hk3
  by_cases hst : stride = 0
  · subst hst
    rw [if_pos (.inr rfl)]
    go_enter Try.func12, Try.ntmps12
    go_wp2
    go_ret
    exact ⟨rfl, below1s _ _⟩
  rw [if_neg (by omega)]
  by_cases h1 : stride < 0
  · rw [decide_eq_true h1]
    go_enter Try.func12, Try.ntmps12
    go_wp2
    go_ret
    exact ⟨rfl, below1s _ _⟩
  have h1p : stride > 0 := by omega
  rw [decide_eq_false h1]
  have f1 : decide (stride < 0) = false := decide_eq_false h1
  by_cases h2 : start < 0 <;> by_cases h3 : en < 0
  all_goals
    first | rw [decide_eq_true h2] | rw [decide_eq_false h2]
    first | rw [decide_eq_true h3] | rw [decide_eq_false h3]
    cases hs <;> cases he
  all_goals
    go_enter Try.func12, Try.ntmps12
    go_wp2
    go_ret
    exact ⟨rfl, below1s _ _⟩

end Go.Proofs.Ytkianpaihdidnaa
