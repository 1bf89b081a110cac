/- The walks of the statements of layer 2: UtfBads, UtfParts, UtfWalks. -/
import Derived.Test.YtcnhlcnkefnghaaRef02C
import Derived.Outline
namespace Go.Proofs.Ytcnhlcnkefnghaa
open Go.RowKit

theorem conv_two (W : World) (x y : Int) :
    (convert 31 9 (.slice (some ⟨W.heap.size, 0, none⟩) 2 2)).run Try.prog (W.alloc (.cells #[.int .u8 x, .int .u8 y] 5)) = .ok (.string (strOfNums [x, y])) (W.alloc (.cells #[.int .u8 x, .int .u8 y] 5)) := by
  exact run_convert_bytes_arg _ _ _ Try.underlying31 Try.underlying5 W.heap.size 0 2 2 [x, y] rfl (fun i hi => by
    have : i = 0 ∨ i = 1 := by omega
    rcases this with rfl | rfl
    · simp
    · simp) _ Try.underlying9

theorem bad_at (xs : List Int) (v : Int) (h : badU (strOfNums xs).data.toList = v) (hs : xs.length ≤ 100) (W : World) :
    Calls Try.prog 12 #[.string (strOfNums xs)] W fun e w' => e = .returned (.int .i64 v) ∧ Below W.heap.size W w' := by
  have := bad_any (strOfNums xs) W (by rw [strOfNums_size]; unfold maxLen; omega)
  rw [h] at this
  exact this

set_option maxHeartbeats 400000 in
theorem alive2_any (W : World) :
    Calls Try.prog 7 #[] W fun e w' => e = .returned (.bool true) ∧ Below W.heap.size W w' := by
  have K1 := Lib.hid (bad_at [195, 169] (-1) (by decide +kernel) (by decide))
  have K2 := Lib.hid (bad_at [195, 65] 1 (by decide +kernel) (by decide))
  have K3 := Lib.hid (bad_at [192] 0 (by decide +kernel) (by decide))
  have c1 := conv_one
  have c2 := conv_two
  go_enter Try.func7, Try.ntmps7
  go_wp2_with (first
    | (go_at_call 12; (with_reducible refine (K1.out _).mono ?_); rintro e w1 ⟨rfl, hb1⟩)
    | (go_at_call 12; (with_reducible refine (K2.out _).mono ?_); rintro e w2 ⟨rfl, hb2⟩)
    | (go_at_call 12; (with_reducible refine (K3.out _).mono ?_); rintro e w3 ⟨rfl, hb3⟩))
  go_ret
  refine ⟨rfl, ?_⟩
  have z1 := hb1.size
  have z2 := hb2.size
  simp at z1 z2
  exact ((((Below.refl _ W).alloc (Nat.le_refl _) _).trans (hb1.mono (by simp))).alloc (by omega) _).trans (hb2.mono (by simp; omega)) |>.alloc (by omega) _ |>.trans (hb3.mono (by simp; omega))

set_option maxHeartbeats 400000 in
theorem utfBads_walk (s : ByteArray) (W : World) (hs : s.size ≤ maxLen) :
    Calls Try.prog 4 #[.string s] W fun e w' => e = .returned (.bool true) ∧ Below W.heap.size W w' := by
  have K1 := Lib.hid (fun w => bad_any s w hs)
  have K2 := Lib.hid (fun w => rbad_any s w hs)
  unfold maxLen at hs
  generalize badU s.data.toList = v at *
  by_cases h2 : 2000 < (s.size : Int)
  · go_enter Try.func4, Try.ntmps4
    go_wp2_with (first
      | (go_at_call 7; refine (alive2_any _).mono ?_; rintro e w1 ⟨rfl, hb1⟩))
    go_ret
    exact ⟨rfl, hb1⟩
  · have h2' : (s.size : Int) ≤ 2000 := by omega
    go_enter Try.func4, Try.ntmps4
    go_wp2_with (first
      | (go_at_call 7; refine (alive2_any _).mono ?_; rintro e w1 ⟨rfl, hb1⟩)
      | (go_at_call 12; (with_reducible refine (K1.out _).mono ?_); rintro e w2 ⟨rfl, hb2⟩)
      | (go_at_call 13; (with_reducible refine (K2.out _).mono ?_); rintro e w3 ⟨rfl, hb3⟩))
    go_ret
    have z1 := hb1.size
    have z2 := hb2.size
    exact ⟨rfl, (hb1.trans (hb2.mono (by omega))).trans (hb3.mono (by omega))⟩

theorem runU_both (l : List UInt8) : ∀ (sg lf : Int), -1 ≤ runU sg lf l 0 ∧ ∀ k : Int, runU sg lf l k = if runU sg lf l 0 = -1 then -1 else runU sg lf l 0 + k := by
  induction l with
  | nil => intro sg lf; by_cases h : 0 < lf <;> simp [runU, h]
  | cons c l ih =>
    intro sg lf
    show -1 ≤ (if okU sg lf c.toNat then runU _ _ l (0 + 1) else 0) ∧ ∀ k : Int, (if okU sg lf c.toNat then runU _ _ l (k + 1) else k) = if (if okU sg lf c.toNat then runU _ _ l (0 + 1) else 0) = -1 then -1 else (if okU sg lf c.toNat then runU _ _ l (0 + 1) else 0) + k
    by_cases h : okU sg lf c.toNat = true
    · simp only [h, if_true]
      obtain ⟨i1, i2⟩ := ih (sgU sg lf c.toNat) (lfU lf c.toNat)
      rw [i2 (0 + 1)]
      refine ⟨by split <;> omega, fun k => ?_⟩
      rw [i2 (k + 1)]
      (repeat' split) <;> omega
    · simp only [h]
      simp

theorem runU_shift (l : List UInt8) (sg lf k : Int) : runU sg lf l k = if runU sg lf l 0 = -1 then -1 else runU sg lf l 0 + k := (runU_both l sg lf).2 k

theorem runU_ge (l : List UInt8) : ∀ (sg lf : Int), -1 ≤ runU sg lf l 0 ∧ runU sg lf l 0 ≤ l.length := by
  induction l with
  | nil => intro sg lf; show -1 ≤ (if 0 < lf then 0 else -1 : Int) ∧ (if 0 < lf then 0 else -1 : Int) ≤ _; split <;> simp
  | cons c l ih =>
    intro sg lf
    show -1 ≤ (if okU sg lf c.toNat then runU _ _ l (0 + 1) else 0) ∧ (if okU sg lf c.toNat then runU _ _ l (0 + 1) else 0) ≤ ((c :: l).length : Int)
    have e : ((c :: l).length : Int) = l.length + 1 := by simp
    rw [e]
    split
    · rw [runU_shift]
      have := ih (sgU sg lf c.toNat) (lfU lf c.toNat)
      split <;> omega
    · omega

/-- Between two signs the number doesn't matter. -/
theorem runU_zero (l : List UInt8) (sg sg' k : Int) : runU sg 0 l k = runU sg' 0 l k := by
  cases l with
  | nil => rfl
  | cons c l =>
    have e1 : okU sg 0 c.toNat = okU sg' 0 c.toNat := rfl
    have e2 : sgU sg 0 c.toNat = sgU sg' 0 c.toNat := rfl
    show (if okU sg 0 c.toNat then runU _ _ l (k + 1) else k) = (if okU sg' 0 c.toNat then runU _ _ l (k + 1) else k)
    rw [e1, e2]

theorem runU_append (l m : List UInt8) : ∀ (sg lf : Int), StU sg lf →
    (runU sg lf l 0 = -1 → runU sg lf (l ++ m) 0 = runU 0 0 m l.length) ∧
    (0 ≤ runU sg lf l 0 → runU sg lf l 0 < l.length → runU sg lf (l ++ m) 0 = runU sg lf l 0) := by
  induction l with
  | nil =>
    intro sg lf hst
    refine ⟨fun h => ?_, fun _ h => ?_⟩
    · have : lf = 0 := by
        have h : (if 0 < lf then 0 else -1 : Int) = -1 := h
        unfold StU at hst
        split at h <;> omega
      subst this
      exact runU_zero m sg 0 _
    · have h : (if 0 < lf then 0 else -1 : Int) < 0 := h
      have h0 : (0 : Int) ≤ (if 0 < lf then 0 else -1 : Int) := by assumption
      omega
  | cons c l ih =>
    intro sg lf hst
    have e : ((c :: l).length : Int) = l.length + 1 := by simp
    rw [e]
    show ((if okU sg lf c.toNat then runU _ _ l (0 + 1) else 0) = -1 → (if okU sg lf c.toNat then runU _ _ (l ++ m) (0 + 1) else 0) = _) ∧
      (0 ≤ (if okU sg lf c.toNat then runU _ _ l (0 + 1) else 0) → (if okU sg lf c.toNat then runU _ _ l (0 + 1) else 0) < (l.length : Int) + 1 → (if okU sg lf c.toNat then runU _ _ (l ++ m) (0 + 1) else 0) = (if okU sg lf c.toNat then runU _ _ l (0 + 1) else 0))
    by_cases h : okU sg lf c.toNat = true
    · simp only [h, if_true]
      obtain ⟨i1, i2⟩ := ih _ _ (stU_step hst (Int.natCast_nonneg _) h)
      have g := runU_ge l (sgU sg lf c.toNat) (lfU lf c.toNat)
      rw [runU_shift l _ _ (0 + 1), runU_shift (l ++ m) _ _ (0 + 1)]
      refine ⟨fun hh => ?_, fun h0 hh => ?_⟩
      · split at hh
        · rename_i h1
          rw [i1 h1, runU_shift m 0 0 l.length, runU_shift m 0 0 (l.length + 1)]
          have := (runU_ge m 0 0).1
          (repeat' split) <;> omega
        · omega
      · split at hh
        · rw [if_pos (by assumption)] at h0
          omega
        · rename_i h1
          rw [i2 (by omega) (by omega), if_neg h1]
    · simp only [h]
      simp

theorem badU_append (l m : List UInt8) :
    (badU l = -1 → badU (l ++ m) = if badU m = -1 then -1 else badU m + l.length) ∧
    (0 ≤ badU l → badU l < l.length → badU (l ++ m) = badU l) := by
  obtain ⟨h1, h2⟩ := runU_append l m 0 0 stU_zero
  exact ⟨fun h => by rw [show badU (l ++ m) = runU 0 0 (l ++ m) 0 from rfl, h1 h, runU_shift]; rfl, h2⟩

theorem badU_nil_of {l : List UInt8} (h : badU l = l.length) (h0 : (l.length : Int) ≤ 0) : False := by
  have : l = [] := List.eq_nil_of_length_eq_zero (by omega)
  subst this
  cases h

set_option maxHeartbeats 1000000 in
theorem utfParts_walk (s t : ByteArray) (W : World) (hs : s.size ≤ maxLen) (ht : t.size ≤ maxLen) :
    Calls Try.prog 6 #[.string s, .string t] W fun e w' => e = .returned (.bool true) ∧ Below W.heap.size W w' := by
  have K1 := Lib.hid (fun w => bad_any s w hs)
  have K2 := Lib.hid (fun w => bad_any t w ht)
  unfold maxLen at hs ht
  by_cases h1 : 1000 < (s.size : Int)
  · go_enter Try.func6, Try.ntmps6
    go_wp2_with (first
      | (go_at_call 7; refine (alive2_any _).mono ?_; rintro e w1 ⟨rfl, hb1⟩))
    go_ret
    exact ⟨rfl, hb1⟩
  have h1' : (s.size : Int) ≤ 1000 := by omega
  by_cases h2 : 1000 < (t.size : Int)
  · go_enter Try.func6, Try.ntmps6
    go_wp2_with (first
      | (go_at_call 7; refine (alive2_any _).mono ?_; rintro e w1 ⟨rfl, hb1⟩))
    go_ret
    exact ⟨rfl, hb1⟩
  have h2' : (t.size : Int) ≤ 1000 := by omega
  have K3 := Lib.hid (fun w => bad_any (s ++ t) w (by rw [ByteArray.size_append]; unfold maxLen; omega))
  have hl1 : (s.size : Int) = s.data.toList.length := rfl
  obtain ⟨m1, m2⟩ := badU_append s.data.toList t.data.toList
  have m3 : (s ++ t).data.toList = s.data.toList ++ t.data.toList := by rw [ByteArray.data_append]; simp
  rw [← m3, ← hl1] at m1 m2
  have g1 : -1 ≤ badU s.data.toList ∧ badU s.data.toList ≤ s.size := runU_ge _ _ _
  have g2 : -1 ≤ badU t.data.toList ∧ badU t.data.toList ≤ t.size := runU_ge _ _ _
  have g3 : -1 ≤ badU (s ++ t).data.toList := (runU_ge _ _ _).1
  have g4 : badU s.data.toList = s.size → ¬ (s.size : Int) ≤ 0 := fun h h0 => badU_nil_of h h0
  have g5 : (t.size : Int) ≤ 0 → badU (s ++ t).data.toList = badU s.data.toList := by
    intro h0
    have : t.data.toList = [] := List.eq_nil_of_length_eq_zero (by have : t.data.toList.length = t.size := rfl; omega)
    rw [m3, this, List.append_nil]
  generalize badU s.data.toList = a at *
  generalize badU t.data.toList = b at *
  generalize badU (s ++ t).data.toList = c at *
  clear m3 hl1
  have hh : (0 ≤ a ∧ a < s.size ∧ c = a) ∨ (a = s.size ∧ 0 < a ∧ (t.size : Int) ≤ 0 ∧ c = a) ∨ (a = s.size ∧ 0 < a ∧ 0 < (t.size : Int)) ∨ (a = -1 ∧ 0 ≤ b ∧ c = s.size + b) ∨ (a = -1 ∧ b = -1 ∧ c = -1) := by
    by_cases e : a = -1
    · have := m1 e
      by_cases e2 : b = -1
      · rw [if_pos e2] at this; omega
      · rw [if_neg e2] at this; omega
    · by_cases e2 : a = s.size
      · have := g4 e2
        by_cases e3 : (t.size : Int) ≤ 0
        · have := g5 e3; omega
        · omega
      · have := m2 (by omega) (by omega); omega
  clear m1 m2 g4 g5 h1 h2
  rcases hh with ⟨a0, a1, rfl⟩ | ⟨rfl, a0, a1, rfl⟩ | ⟨rfl, a0, a1⟩ | ⟨rfl, b0, rfl⟩ | ⟨rfl, rfl, rfl⟩
  all_goals
    go_enter Try.func6, Try.ntmps6
    go_wp2_with (first
      | (go_at_call 7; refine (alive2_any _).mono ?_; rintro e w1 ⟨rfl, hb1⟩)
      | (go_at_call 12; (with_reducible refine (K1.out _).mono ?_); rintro e w2 ⟨rfl, hb2⟩)
      | (go_at_call 12; (with_reducible refine (K2.out _).mono ?_); rintro e w3 ⟨rfl, hb3⟩)
      | (go_at_call 12; (with_reducible refine (K3.out _).mono ?_); rintro e w4 ⟨rfl, hb4⟩))
    all_goals
      go_ret
      have z1 := hb1.size
      have z2 := hb2.size
      have z3 := hb3.size
      refine ⟨?_, ((hb1.trans (hb2.mono (by omega))).trans (hb3.mono (by omega))).trans (hb4.mono (by omega))⟩
      first | rfl | exact ret_b (by simp; omega)

end Go.Proofs.Ytcnhlcnkefnghaa
