/- The contract of riffleref01.Kind: it answers what octet.Kind answers, and makes new memory alone. -/
import Derived.Test.YtkbcfclpfkpjeaaRef01
import Derived.Below
namespace Go.Proofs.Ytkbcfclpfkpjeaa
open Go.RowKit

/-- The seven signs. -/
def sevenI (j : Nat) : Int := [91, 93, 123, 125, 44, 58, 34].getD j 0
def NoSeven (c : Int) (k : Nat) : Prop := ∀ j : Nat, j < k → c ≠ sevenI j
theorem noSeven_zero (c : Int) : NoSeven c 0 := fun _ h => absurd h (by omega)
theorem noSeven_succ {c : Int} {k : Nat} (h : NoSeven c k) (e : c ≠ sevenI k) : NoSeven c (k + 1) := by
  intro j hj
  by_cases hjk : j = k
  · subst hjk; exact e
  · exact h j (by omega)
theorem seven_hit {c : Int} {k : Nat} (_ : NoSeven c k) (hk : k < 7) (h : c = sevenI k) : (k : Int) + 2 = kindI c := by
  have hk : k = 0 ∨ k = 1 ∨ k = 2 ∨ k = 3 ∨ k = 4 ∨ k = 5 ∨ k = 6 := by omega
  rcases hk with rfl | rfl | rfl | rfl | rfl | rfl | rfl <;> subst h <;> rfl
theorem seven_miss {c : Int} (h : NoSeven c 7) (hb : isBlankI c = false) :
    kindI c = if c = 45 ∨ isDigitI c = true then 9 else if c = 116 ∨ c = 102 ∨ c = 110 then 10 else 0 := by
  have g0 : c ≠ 91 := h 0 (by omega)
  have g1 : c ≠ 93 := h 1 (by omega)
  have g2 : c ≠ 123 := h 2 (by omega)
  have g3 : c ≠ 125 := h 3 (by omega)
  have g4 : c ≠ 44 := h 4 (by omega)
  have g5 : c ≠ 58 := h 5 (by omega)
  have g6 : c ≠ 34 := h 6 (by omega)
  have g7 : c ≠ 32 ∧ c ≠ 9 ∧ c ≠ 10 ∧ c ≠ 13 := by
    simp [isBlankI] at hb; omega
  unfold kindI
  rw [if_neg g7.1, if_neg g7.2.1, if_neg g7.2.2.1, if_neg g7.2.2.2, if_neg g0, if_neg g1, if_neg g2, if_neg g3, if_neg g4, if_neg g5, if_neg g6]
  by_cases e : c = 45
  · simp [e]
  by_cases d : isDigitI c = true
  · have : c ≠ 116 ∧ c ≠ 102 ∧ c ≠ 110 := by simp [isDigitI] at d; omega
    rw [if_neg e, if_neg this.1, if_neg this.2.1, if_neg this.2.2, if_pos d, if_pos (.inr d)]
  · rw [if_neg e, if_neg (show ¬ (c = 45 ∨ isDigitI c = true) from fun h => h.elim e d)]
    by_cases e1 : c = 116
    · simp [e1]
    by_cases e2 : c = 102
    · simp [e2]
    by_cases e3 : c = 110
    · simp [e3]
    simp [e1, e2, e3, d]

set_option maxHeartbeats 1000000 in
theorem rkind_blank (c : Int) (w : World) (hb : isBlankI c = true) :
    Calls Try.prog 10 #[.int .u8 c] w fun e w' => e = .returned (.int .i64 (kindI c)) ∧ Below w.heap.size w w' := by
  have hk : kindI c = 1 := by
    have : c = 32 ∨ c = 9 ∨ c = 10 ∨ c = 13 := by simpa [isBlankI, or_assoc] using hb
    rcases this with rfl | rfl | rfl | rfl <;> rfl
  have HK := Lib.hid hk
  clear hk
  go_enter Try.func10, Try.ntmps10
  go_wp2_with (go_at_call 18; refine (rblank_any _ _).mono ?_; rintro e w' ⟨rfl, rfl⟩)
  go_ret
  exact ⟨ret_int HK.out.symm, Below.refl _ _⟩

set_option maxHeartbeats 1000000 in
theorem rkind_any (c : Int) (w : World) :
    Calls Try.prog 10 #[.int .u8 c] w fun e w' => e = .returned (.int .i64 (kindI c)) ∧ Below w.heap.size w w' := by
  by_cases hb : isBlankI c = true
  · exact rkind_blank c w hb
  replace hb : isBlankI c = false := by simpa using hb
  have hm : NoSeven c 7 → kindI c = if c = 45 ∨ isDigitI c = true then 9 else if c = 116 ∨ c = 102 ∨ c = 110 then 10 else 0 := fun h => seven_miss h hb
  have HM := Lib.hid hm
  clear hm
  go_enter Try.func10, Try.ntmps10
  go_wp2_with (go_at_call 18; refine (rblank_any _ _).mono ?_; rintro e w' ⟨rfl, rfl⟩)
  go_loop [9] (fun i => ∃ k : Nat, k ≤ 7 ∧ i = .int .i64 k ∧ NoSeven c k) (fun i => 7 - (intOf i).toNat)
  case atStart => exact ⟨0, by omega, rfl, noSeven_zero c⟩
  case round =>
    obtain ⟨k, hk, rfl, hno⟩ := hrel
    by_cases hlt : k < 7
    · have hk : k = 0 ∨ k = 1 ∨ k = 2 ∨ k = 3 ∨ k = 4 ∨ k = 5 ∨ k = 6 := by omega
      rcases hk with rfl | rfl | rfl | rfl | rfl | rfl | rfl
      all_goals
        go_wp2
        · rename_i h _
          have g := seven_hit hno (by omega) (beq_iff_eq.1 h)
          go_ret
          exact ⟨ret_int g, (Below.refl _ _).alloc (Nat.le_refl _) _⟩
        · rename_i h
          have g := noSeven_succ hno (beq_eq_false_iff_ne.1 h)
          go_round
          case rel => exact ⟨_, Nat.succ_le_of_lt hlt, rfl, g⟩
          case measure => simp [intOf]
    · obtain rfl : k = 7 := by omega
      have hf := HM.out hno
      have hs : (c == 45) = true ∧ kindI c = 9 ∨ (c == 45) = false ∧ isDigitI c = true ∧ kindI c = 9 ∨
          (c == 45) = false ∧ isDigitI c = false ∧ ((c == 116) = true ∧ kindI c = 10 ∨ (c == 116) = false ∧ ((c == 102) = true ∧ kindI c = 10 ∨ (c == 102) = false ∧ ((c == 110) = true ∧ kindI c = 10 ∨ (c == 110) = false ∧ kindI c = 0))) := by
        rw [hf]
        by_cases e : c = 45
        · simp [e]
        by_cases d : isDigitI c = true
        · simp [e, d]
        by_cases e1 : c = 116
        · simp [e1]
        by_cases e2 : c = 102
        · simp [e2]
        by_cases e3 : c = 110
        · simp [e3]
        simp [e, d, e1, e2, e3]
      clear hf HM
      rcases hs with ⟨e, g⟩ | ⟨e, d, g⟩ | ⟨e, d, ⟨f, g⟩ | ⟨f, ⟨f2, g⟩ | ⟨f2, ⟨f3, g⟩ | ⟨f3, g⟩⟩⟩⟩
      all_goals
        have HG := Lib.hid g
        clear g
        go_wp2_with (go_at_call 12; refine (rdigit_any _ _).mono ?_; rintro e w' ⟨rfl, rfl⟩)
        go_ret
        exact ⟨ret_int HG.out.symm, (Below.refl _ _).alloc (Nat.le_refl _) _⟩

end Go.Proofs.Ytkbcfclpfkpjeaa
