/- Package slice: All, as plain mathematics: step by step. -/
import Derived.Test.YtkianpaihdidnaaRows
import Derived.Test.YtkianpaihdidnaaRef12E
import Derived.Test.YtkianpaihdidnaaSliB
namespace Go.Proofs.Ytkianpaihdidnaa
open Go.RowKit
set_option linter.unusedVariables false

/-- If anything from i on is meant, i is. -/
def goodA (s : Sel) (m i : Int) : Prop := ∀ j, i ≤ j → hasI s j m = true → hasI s i m = true

theorem has_in {s : Sel} {i m : Int} (h : hasI s i m = true) : 0 ≤ i ∧ i < m := by
  by_cases h0 : i < 0 ∨ m ≤ i
  · rw [has_out s i m h0] at h; cases h
  · omega
theorem has_yes_index {s : Sel} {i m : Int} (hk : s.kind = 2) (h : hasI s i m = true) : i = placeI s.index m := by
  obtain ⟨h0, h1⟩ := has_in h
  rw [has_index s i m h0 h1 hk, beq_iff_eq] at h
  exact h.symm
theorem has_yes_up {s : Sel} {i m : Int} (hk : s.kind = 3) (hp : 0 < s.stride) : hasI s i m = true ↔ 0 ≤ i ∧ i < m ∧ lowI s m ≤ i ∧ i < highI s m ∧ (i - lowI s m) % s.stride = 0 := by
  constructor
  · intro h
    obtain ⟨h0, h1⟩ := has_in h
    rw [has_up s i m h0 h1 hk hp, decide_eq_true_eq] at h
    exact ⟨h0, h1, h⟩
  · rintro ⟨h0, h1, h⟩
    rw [has_up s i m h0 h1 hk hp, decide_eq_true_eq]
    exact h
theorem has_yes_down {s : Sel} {i m : Int} (hk : s.kind = 3) (hp : s.stride < 0) : hasI s i m = true ↔ 0 ≤ i ∧ i < m ∧ lowI s m < i ∧ i ≤ highI s m ∧ (highI s m - i) % (0 - s.stride) = 0 := by
  constructor
  · intro h
    obtain ⟨h0, h1⟩ := has_in h
    rw [has_down s i m h0 h1 hk hp, decide_eq_true_eq] at h
    exact ⟨h0, h1, h⟩
  · rintro ⟨h0, h1, h⟩
    rw [has_down s i m h0 h1 hk hp, decide_eq_true_eq]
    exact h
theorem has_yes_kind {s : Sel} {i m : Int} (h2 : s.kind ≠ 2) (h : hasI s i m = true) : s.kind = 3 ∧ s.stride ≠ 0 := by
  obtain ⟨h0, h1⟩ := has_in h
  by_cases h3 : s.kind ≠ 3 ∨ s.stride = 0
  · rw [has_none s i m h0 h1 h2 h3] at h; cases h
  · exact ⟨Classical.not_not.1 fun h => h3 (.inl h), fun h => h3 (.inr h)⟩

theorem mod_small {x st : Int} (h0 : 0 ≤ x) (h1 : x < st) (h : x % st = 0) : x = 0 := by
  rw [Int.emod_eq_of_lt h0 h1] at h; exact h

theorem all_step (s : Sel) (m i : Int) (h : hasI s i m = true) : 0 < byI s ∧ (∀ j, i < j → j < i + byI s → hasI s j m = false) ∧ goodA s m (i + byI s) := by
  by_cases hk : s.kind = 2
  · have hb : byI s = 1 := by unfold byI; rw [if_pos hk]
    rw [hb]
    refine ⟨by omega, fun j h1 h2 => by omega, fun j h1 h2 => ?_⟩
    have e1 := has_yes_index hk h
    have e2 := has_yes_index hk h2
    omega
  obtain ⟨hk3, hst⟩ := has_yes_kind hk h
  by_cases hp : 0 < s.stride
  · have hb : byI s = s.stride := by unfold byI; rw [if_neg hk, if_neg (by omega)]
    rw [hb]
    obtain ⟨a0, a1, a2, a3, a4⟩ := (has_yes_up hk3 hp).1 h
    refine ⟨hp, fun j h1 h2 => Bool.eq_false_iff.2 fun h3 => ?_, fun j h1 h2 => ?_⟩
    · obtain ⟨b0, b1, b2, b3, b4⟩ := (has_yes_up hk3 hp).1 h3
      have e := mod_same b4 a4
      rw [show j - lowI s m - (i - lowI s m) = j - i by omega] at e
      have := mod_small (by omega) (by omega) e
      omega
    · obtain ⟨b0, b1, b2, b3, b4⟩ := (has_yes_up hk3 hp).1 h2
      refine (has_yes_up hk3 hp).2 ⟨by omega, by omega, by omega, by omega, ?_⟩
      rw [show i + s.stride - lowI s m = (i - lowI s m) + s.stride by omega, Int.add_emod_right]
      exact a4
  · have hn : s.stride < 0 := by omega
    have hb : byI s = 0 - s.stride := by unfold byI; rw [if_neg hk, if_pos hn]
    rw [hb]
    obtain ⟨a0, a1, a2, a3, a4⟩ := (has_yes_down hk3 hn).1 h
    refine ⟨by omega, fun j h1 h2 => Bool.eq_false_iff.2 fun h3 => ?_, fun j h1 h2 => ?_⟩
    · obtain ⟨b0, b1, b2, b3, b4⟩ := (has_yes_down hk3 hn).1 h3
      have e := mod_same a4 b4
      rw [show highI s m - i - (highI s m - j) = j - i by omega] at e
      have := mod_small (by omega) (by omega) e
      omega
    · obtain ⟨b0, b1, b2, b3, b4⟩ := (has_yes_down hk3 hn).1 h2
      refine (has_yes_down hk3 hn).2 ⟨by omega, by omega, by omega, by omega, ?_⟩
      have e : (highI s m - i - (0 - s.stride)) % (0 - s.stride) = (highI s m - i) % (0 - s.stride) := Int.sub_emod_right _ _
      rw [show highI s m - (i + (0 - s.stride)) = highI s m - i - (0 - s.stride) by omega, e]
      exact a4

theorem all_start (s : Sel) (m : Int) (hm : 0 ≤ m) : (∀ j, j < leastI s m → hasI s j m = false) ∧ goodA s m (leastI s m) := by
  by_cases hk : s.kind = 2
  · have hb : leastI s m = placeI s.index m := by unfold leastI; rw [if_pos hk]
    rw [hb]
    refine ⟨fun j h1 => Bool.eq_false_iff.2 fun h3 => ?_, fun j h1 h2 => ?_⟩
    · have := has_yes_index hk h3
      omega
    · have := has_yes_index hk h2
      rw [this] at h2
      exact h2
  have hbd := bounds_in s m hm
  by_cases hn : s.stride < 0
  · have hb : leastI s m = lowI s m + 1 + (highI s m - lowI s m - 1).tmod s.stride := by unfold leastI; rw [if_neg hk, if_pos hn]
    by_cases hlh : highI s m ≤ lowI s m
    · have hno : ∀ j, hasI s j m = false := fun j => Bool.eq_false_iff.2 fun h3 => by
        obtain ⟨hk3, _⟩ := has_yes_kind hk h3
        have := (has_yes_down hk3 hn).1 h3
        omega
      exact ⟨fun j _ => hno j, fun j _ h => by rw [hno j] at h; cases h⟩
    obtain ⟨S, hS⟩ : ∃ S, S = 0 - s.stride := ⟨_, rfl⟩
    have ht : (highI s m - lowI s m - 1).tmod s.stride = (highI s m - lowI s m - 1) % S := by
      rw [Int.tmod_eq_emod_of_nonneg (by omega), hS, Int.zero_sub, Int.emod_neg]
    rw [ht] at hb
    have h1 := Int.emod_nonneg (highI s m - lowI s m - 1) (show S ≠ 0 by omega)
    have h2 := Int.emod_lt_of_pos (highI s m - lowI s m - 1) (show 0 < S by omega)
    have h3 := Int.emod_add_mul_ediv (highI s m - lowI s m - 1) S
    have h5 : 0 ≤ S * ((highI s m - lowI s m - 1) / S) := Int.mul_nonneg (by omega) (Int.ediv_nonneg (by omega) (by omega))
    have h4 : (highI s m - leastI s m) % S = 0 := by
      rw [show highI s m - leastI s m = S * ((highI s m - lowI s m - 1) / S) by omega]
      exact Int.mul_emod_right _ _
    refine ⟨fun j g1 => Bool.eq_false_iff.2 fun g3 => ?_, fun j g1 g2 => ?_⟩
    · obtain ⟨hk3, _⟩ := has_yes_kind hk g3
      obtain ⟨b0, b1, b2, b3, b4⟩ := (has_yes_down hk3 hn).1 g3
      rw [← hS] at b4
      have e := mod_same b4 h4
      rw [show highI s m - j - (highI s m - leastI s m) = leastI s m - j by omega] at e
      have := mod_small (by omega) (by omega) e
      omega
    · obtain ⟨hk3, _⟩ := has_yes_kind hk g2
      obtain ⟨b0, b1, b2, b3, b4⟩ := (has_yes_down hk3 hn).1 g2
      refine (has_yes_down hk3 hn).2 ⟨by omega, by omega, by omega, by omega, ?_⟩
      rw [← hS]
      exact h4
  · have hb : leastI s m = lowI s m := by unfold leastI; rw [if_neg hk, if_neg hn]
    rw [hb]
    refine ⟨fun j g1 => Bool.eq_false_iff.2 fun g3 => ?_, fun j g1 g2 => ?_⟩
    · obtain ⟨hk3, hs0⟩ := has_yes_kind hk g3
      have := (has_yes_up hk3 (by omega)).1 g3
      omega
    · obtain ⟨hk3, hs0⟩ := has_yes_kind hk g2
      have hp : 0 < s.stride := by omega
      obtain ⟨b0, b1, b2, b3, b4⟩ := (has_yes_up hk3 hp).1 g2
      have := hbd.2.2.2.2.1 hp
      refine (has_yes_up hk3 hp).2 ⟨by omega, by omega, by omega, by omega, ?_⟩
      simp

/-- What is meant ahead of i. -/
def aheadI (s : Sel) (n : Nat) (i : Int) : List Nat := (List.range i.toNat).filter fun j => hasI s j n
theorem filt_none (f : Nat → Bool) (a : Nat) : ∀ d, (∀ j, a ≤ j → j < a + d → f j = false) → (List.range (a + d)).filter f = (List.range a).filter f
  | 0, _ => rfl
  | d + 1, h => by
    rw [← Nat.add_assoc, List.range_succ, List.filter_append, filt_none f a d (fun j h1 h2 => h j h1 (by omega))]
    simp [h (a + d) (by omega) (by omega)]
theorem ahead_start (s : Sel) (n : Nat) : aheadI s n (leastI s n) = [] := by
  obtain ⟨h1, _⟩ := all_start s n (by omega)
  unfold aheadI
  have := filt_none (fun (j : Nat) => hasI s j n) 0 (leastI s n).toNat (fun j _ h => h1 j (by omega))
  rw [Nat.zero_add] at this
  rw [this]
  rfl
theorem ahead_next (s : Sel) (n k : Nat) (h : hasI s k n = true) : aheadI s n ((k : Int) + byI s) = aheadI s n k ++ [k] := by
  obtain ⟨h1, h2, _⟩ := all_step s n k h
  unfold aheadI
  rw [show ((k : Int) + byI s).toNat = (k + 1) + ((byI s).toNat - 1) by omega, filt_none _ _ _ (fun j g1 g2 => h2 j (by omega) (by omega)), List.range_succ, List.filter_append]
  simp [h]
theorem ahead_end (s : Sel) (n : Nat) (i : Int) (hg : goodA s n i) (h : hasI s i n = false) : aheadI s n i = allI s n := by
  unfold aheadI allI
  by_cases hle : i.toNat ≤ n
  · have := filt_none (fun (j : Nat) => hasI s j n) i.toNat (n - i.toNat) (fun j g1 _ => Bool.eq_false_iff.2 fun h3 => by rw [hg j (by omega) h3] at h; cases h)
    rw [show i.toNat + (n - i.toNat) = n by omega] at this
    exact this.symm
  · have := filt_none (fun (j : Nat) => hasI s j n) n (i.toNat - n) (fun j g1 _ => has_out s j n (.inr (by omega)))
    rw [show n + (i.toNat - n) = i.toNat by omega] at this
    exact this
theorem ahead_few (s : Sel) (n : Nat) (i : Int) : (aheadI s n i).length ≤ n := by
  have key : ∀ k, ((List.range k).filter fun (j : Nat) => hasI s j n).length ≤ n := fun k => by
    by_cases hk : k ≤ n
    · have := List.length_filter_le (fun j : Nat => hasI s j n) (List.range k)
      rw [List.length_range] at this
      omega
    · have e := filt_none (fun (j : Nat) => hasI s j n) n (k - n) (fun j g1 _ => has_out s j n (.inr (by omega)))
      rw [show n + (k - n) = k by omega] at e
      rw [e]
      have := List.length_filter_le (fun j : Nat => hasI s j n) (List.range n)
      rw [List.length_range] at this
      exact this
  exact key _

end Go.Proofs.Ytkianpaihdidnaa
