/- The contracts of package octet: what each function answers, for every argument. -/
import Derived.Test.YtoahnbjpmbhpfaaDoorKit
import Derived.WalkKit
import Derived.WalkSpells
import Derived.WalkLawsBesides
import Derived.BigQuiet
import Derived.Deep.QuietTactic
import Derived.Lib.Hide
namespace Go.Proofs.YtoahnbjpmbhpfaaDoor
open Go.RowKit

/-- Is it a digit? -/
def isDigitI (c : Int) : Bool := decide (48 ≤ c ∧ c ≤ 57)

/-- What a byte begins, by its number. -/
def kindI (c : Int) : Int :=
  if c = 32 then 1 else if c = 9 then 1 else if c = 10 then 1 else if c = 13 then 1 else
  if c = 91 then 2 else if c = 93 then 3 else if c = 123 then 4 else if c = 125 then 5 else
  if c = 44 then 6 else if c = 58 then 7 else if c = 34 then 8 else if c = 45 then 9 else
  if c = 116 then 10 else if c = 102 then 10 else if c = 110 then 10 else
  if isDigitI c then 9 else 0

/-- A small letter in the place of a capital one. -/
def smallI (c : Int) : Int := if 65 ≤ c ∧ c ≤ 90 then c + 32 else c

/-- Which number of 16. -/
def hexI (c : Int) : Int :=
  if 48 ≤ c ∧ c ≤ 57 then c - 48 else if 97 ≤ c ∧ c ≤ 102 then c - 87 else if 65 ≤ c ∧ c ≤ 70 then c - 55 else 0
def isHexI (c : Int) : Bool :=
  decide (48 ≤ c ∧ c ≤ 57) || decide (97 ≤ c ∧ c ≤ 102) || decide (65 ≤ c ∧ c ≤ 70)
def isAlphaI (c : Int) : Bool := decide (97 ≤ c ∧ c ≤ 122) || decide (65 ≤ c ∧ c ≤ 90)

theorem ret_int {k : IntKind} {a b : Int} (h : a = b) : Ending.returned (.int k a) = .returned (.int k b) := by rw [h]
theorem ret_bool {a b : Bool} (h : a = b) : Ending.returned (.bool a) = .returned (.bool b) := by rw [h]

/-- A number's sign. -/
def lowI (n : Int) : Int := if 0 ≤ n ∧ n ≤ 9 then n + 48 else if 10 ≤ n ∧ n ≤ 15 then n + 87 else 48

set_option maxHeartbeats 400000 in
theorem digit_any (c : Int) (w : World) :
    Calls Tryd.prog 34 #[.int .u8 c] w fun e w' => e = .returned (.bool (isDigitI c)) ∧ w = w' := by
  by_cases h1 : 48 ≤ c <;> by_cases h2 : c ≤ 57
  all_goals
    go_enter Tryd.func34, Tryd.ntmps34
    go_wp2
    go_ret
    exact ⟨by simp [isDigitI, h1, h2], rfl⟩

set_option maxHeartbeats 400000 in
theorem alpha_any (c : Int) (w : World) :
    Calls Tryd.prog 48 #[.int .u8 c] w fun e w' => e = .returned (.bool (isAlphaI c)) ∧ w = w' := by
  by_cases h1 : 97 ≤ c <;> by_cases h2 : c ≤ 122 <;> by_cases h3 : 65 ≤ c <;> by_cases h4 : c ≤ 90
  all_goals
    go_enter Tryd.func48, Tryd.ntmps48
    go_wp2
    go_ret
    exact ⟨by simp [isAlphaI, h1, h2, h3, h4], rfl⟩

set_option maxHeartbeats 400000 in
theorem small_any (c : Int) (w : World) (h0 : 0 ≤ c) (h9 : c ≤ 255) :
    Calls Tryd.prog 52 #[.int .u8 c] w fun e w' => e = .returned (.int .u8 (smallI c)) ∧ w = w' := by
  by_cases h1 : 65 ≤ c <;> by_cases h2 : c ≤ 90
  all_goals
    go_enter Tryd.func52, Tryd.ntmps52
    go_wp2
    go_ret
    exact ⟨by simp [smallI, h1, h2]; try omega, rfl⟩

set_option maxHeartbeats 1000000 in
theorem kind_any (c : Int) (w : World) :
    Calls Tryd.prog 24 #[.int .u8 c] w fun e w' => e = .returned (.int .i64 (kindI c)) ∧ w = w' := by
  go_enter Tryd.func24, Tryd.ntmps24
  go_wp2_with (go_at_call 34; refine (digit_any _ _).mono ?_; rintro e w' ⟨rfl, rfl⟩)
  all_goals
    go_ret
    exact ⟨ret_int (by simp_all [kindI]), rfl⟩

theorem hex_hit (c : Int) (k : Nat) (hk : k < 16) (h : smallI c = lowI k) : hexI c = k ∧ isHexI c = true := by
  unfold smallI lowI at h
  unfold hexI isHexI
  split at h <;> split at h <;> (try split at h) <;>
    first
      | (refine ⟨?_, ?_⟩; (repeat' split) <;> omega; simp; omega)
      | omega

/-- No sign among the first k ones is this one. -/
def NoneOf (s : Int) (k : Nat) : Prop := ∀ j : Nat, j < k → s ≠ lowI j

theorem noneOf_zero (s : Int) : NoneOf s 0 := fun _ h => absurd h (by omega)
theorem noneOf_succ {s : Int} {k : Nat} (h : NoneOf s k) (e : s ≠ lowI k) : NoneOf s (k + 1) := by
  intro j hj
  by_cases hjk : j = k
  · subst hjk; exact e
  · exact h j (by omega)

theorem hit_of {s c : Int} {k : Nat} (_ : NoneOf s k) (H : ∀ k : Nat, k < 16 → s = lowI k → hexI c = k ∧ isHexI c = true) (hk : k < 16) (h : s = lowI k) :
    hexI c = k ∧ isHexI c = true := H k hk h

theorem hex_miss (c : Int) (h : NoneOf (smallI c) 16) : hexI c = 0 ∧ isHexI c = false := by
  have g : ∀ j : Nat, j < 16 → c ≠ lowI j ∧ (65 ≤ c ∧ c ≤ 90 → c + 32 ≠ lowI j) := by
    intro j hj
    have := h j hj
    unfold smallI at this
    split at this
    · exact ⟨by unfold lowI; split <;> (try split) <;> omega, fun _ => this⟩
    · exact ⟨this, fun hh => absurd hh ‹_›⟩
  have g1 : ¬ (48 ≤ c ∧ c ≤ 57) := by
    intro hh
    obtain ⟨k, rfl⟩ := Int.eq_ofNat_of_zero_le (show 0 ≤ c by omega)
    have := (g (k - 48) (by omega)).1
    unfold lowI at this
    rw [if_pos (by omega)] at this
    omega
  have g2 : ¬ (97 ≤ c ∧ c ≤ 102) := by
    intro hh
    obtain ⟨k, rfl⟩ := Int.eq_ofNat_of_zero_le (show 0 ≤ c by omega)
    have := (g (k - 87) (by omega)).1
    unfold lowI at this
    rw [if_neg (by omega), if_pos (by omega)] at this
    omega
  have g3 : ¬ (65 ≤ c ∧ c ≤ 70) := by
    intro hh
    obtain ⟨k, rfl⟩ := Int.eq_ofNat_of_zero_le (show 0 ≤ c by omega)
    have := (g (k - 55) (by omega)).2 (by omega)
    unfold lowI at this
    rw [if_neg (by omega), if_pos (by omega)] at this
    omega
  unfold hexI isHexI
  rw [if_neg g1, if_neg g2, if_neg g3]
  simp [g1, g2, g3]

theorem ret_two {k : IntKind} {a b : Int} {x y : Bool} (h : a = b) (g : x = y) :
    Ending.returned (.tuple #[.int k a, .bool x]) = .returned (.tuple #[.int k b, .bool y]) := by rw [h, g]

set_option maxHeartbeats 1000000 in
theorem hex_any (c : Int) (w : World) (h0 : 0 ≤ c) (h9 : c ≤ 255) :
    Calls Tryd.prog 40 #[.int .u8 c] w fun e w' => e = .returned (.tuple #[.int .i64 (hexI c), .bool (isHexI c)]) ∧ w = w' := by
  go_enter Tryd.func40, Tryd.ntmps40
  go_wp2_with (go_at_call 52; refine (small_any _ _ (by omega) (by omega)).mono ?_; rintro e w' ⟨rfl, rfl⟩)
  have hm : ∀ s : Int, s = smallI c → (∀ k : Nat, k < 16 → s = lowI k → hexI c = k ∧ isHexI c = true) ∧ (NoneOf s 16 → hexI c = 0 ∧ isHexI c = false) := by
    rintro s rfl
    exact ⟨fun k hk h => hex_hit c k hk h, fun h => hex_miss c h⟩
  generalize hs : smallI c = s
  obtain ⟨hh, hn⟩ := hm s hs.symm
  clear hm hs
  have HH := Lib.hid hh
  have HN := Lib.hid hn
  clear hh hn
  go_loop [8] (fun i => ∃ k : Nat, k ≤ 16 ∧ i = .int .i64 k ∧ NoneOf s k) (fun i => 16 - (intOf i).toNat)
  case atStart => exact ⟨0, by omega, rfl, noneOf_zero s⟩
  case round =>
    obtain ⟨k, hk, rfl, hno⟩ := hrel
    by_cases hlt : k < 16
    · have hk : k = 0 ∨ k = 1 ∨ k = 2 ∨ k = 3 ∨ k = 4 ∨ k = 5 ∨ k = 6 ∨ k = 7 ∨ k = 8 ∨ k = 9 ∨ k = 10 ∨ k = 11 ∨ k = 12 ∨ k = 13 ∨ k = 14 ∨ k = 15 := by omega
      rcases hk with rfl | rfl | rfl | rfl | rfl | rfl | rfl | rfl | rfl | rfl | rfl | rfl | rfl | rfl | rfl | rfl
      all_goals
        go_wp2
        · rename_i h _
          have g := hit_of hno HH.out (by omega) (beq_iff_eq.1 h)
          go_ret2
          exact ⟨ret_two g.1.symm g.2.symm, rfl⟩
        · rename_i h
          have g := noneOf_succ hno (beq_eq_false_iff_ne.1 h)
          go_round
          case rel => exact ⟨_, Nat.succ_le_of_lt hlt, rfl, g⟩
          case measure => simp [intOf]
    · obtain rfl : k = 16 := by omega
      go_wp2
      go_ret2
      have g := HN.out hno
      exact ⟨ret_two g.1.symm g.2.symm, rfl⟩

end Go.Proofs.YtoahnbjpmbhpfaaDoor
