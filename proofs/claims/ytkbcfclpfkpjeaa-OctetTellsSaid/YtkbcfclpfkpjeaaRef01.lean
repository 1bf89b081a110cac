/- The contracts of the document's answers for layer 1 (riffleref01): each answers what package octet's functions answer. -/
import Derived.Test.YtkbcfclpfkpjeaaOctet
namespace Go.Proofs.Ytkbcfclpfkpjeaa
open Go.RowKit

set_option maxHeartbeats 400000 in
theorem rdigit_any (c : Int) (w : World) :
    Calls Try.prog 12 #[.int .u8 c] w fun e w' => e = .returned (.bool (isDigitI c)) ∧ w = w' := by
  by_cases h1 : 48 ≤ c <;> by_cases h2 : c ≤ 57
  all_goals
    go_enter Try.func12, Try.ntmps12
    go_wp2
    go_ret
    exact ⟨by simp [isDigitI, h1, h2], rfl⟩

def isBlankI (c : Int) : Bool := decide (c = 32) || decide (c = 9) || decide (c = 10) || decide (c = 13)

set_option maxHeartbeats 400000 in
theorem rblank_any (c : Int) (w : World) :
    Calls Try.prog 18 #[.int .u8 c] w fun e w' => e = .returned (.bool (isBlankI c)) ∧ w = w' := by
  by_cases h1 : c = 32
  · subst h1
    go_enter Try.func18, Try.ntmps18
    go_wp2
    go_ret
    exact ⟨rfl, rfl⟩
  by_cases h2 : c = 9
  · subst h2
    go_enter Try.func18, Try.ntmps18
    go_wp2
    go_ret
    exact ⟨rfl, rfl⟩
  by_cases h3 : c = 10
  · subst h3
    go_enter Try.func18, Try.ntmps18
    go_wp2
    go_ret
    exact ⟨rfl, rfl⟩
  by_cases h4 : c = 13
  · subst h4
    go_enter Try.func18, Try.ntmps18
    go_wp2
    go_ret
    exact ⟨rfl, rfl⟩
  have g1 : (c == 32) = false := beq_eq_false_iff_ne.2 h1
  have g2 : (c == 9) = false := beq_eq_false_iff_ne.2 h2
  have g3 : (c == 10) = false := beq_eq_false_iff_ne.2 h3
  have g4 : (c == 13) = false := beq_eq_false_iff_ne.2 h4
  go_enter Try.func18, Try.ntmps18
  go_wp2
  go_ret
  exact ⟨ret_bool (by simp [isBlankI, h1, h2, h3, h4]), rfl⟩

set_option maxHeartbeats 400000 in
theorem ralpha_any (c : Int) (w : World) :
    Calls Try.prog 14 #[.int .u8 c] w fun e w' => e = .returned (.bool (isAlphaI c)) ∧ w = w' := by
  by_cases h1 : 97 ≤ c <;> by_cases h2 : c ≤ 122 <;> by_cases h3 : 65 ≤ c <;> by_cases h4 : c ≤ 90
  all_goals
    go_enter Try.func14, Try.ntmps14
    go_wp2
    go_ret
    exact ⟨by simp [isAlphaI, h1, h2, h3, h4], rfl⟩

set_option maxHeartbeats 400000 in
theorem rlower_any (n : Int) (w : World) :
    Calls Try.prog 16 #[.int .i64 n] w fun e w' => e = .returned (.int .u8 (lowI n)) ∧ w = w' := by
  by_cases h1 : 10 ≤ n <;> by_cases h2 : n ≤ 15 <;> by_cases h3 : 0 ≤ n <;> by_cases h4 : n ≤ 9
  all_goals first
    | omega
    | (go_enter Try.func16, Try.ntmps16
       go_wp2
       go_ret
       exact ⟨ret_int (by unfold lowI; (repeat' split) <;> omega), rfl⟩)

theorem ret_two' {k : IntKind} {a b : Int} {x y : Bool} (h : a = b) (g : x = y) :
    Ending.returned (.tuple #[.int k a, .bool x]) = .returned (.tuple #[.int k b, .bool y]) := by rw [h, g]

set_option maxHeartbeats 1000000 in
theorem rhex_any (c : Int) (w : World) (h0 : 0 ≤ c) (h9 : c ≤ 255) :
    Calls Try.prog 8 #[.int .u8 c] w fun e w' => e = .returned (.tuple #[.int .i64 (hexI c), .bool (isHexI c)]) ∧ w = w' := by
  by_cases h1 : 48 ≤ c <;> by_cases h2 : c ≤ 57 <;> by_cases h3 : 97 ≤ c <;> by_cases h4 : c ≤ 102 <;> by_cases h5 : 65 ≤ c <;> by_cases h6 : c ≤ 70
  all_goals first
    | omega
    | (have hd : isDigitI c = true := by simp [isDigitI]; omega
       go_enter Try.func8, Try.ntmps8
       go_wp2_with (go_at_call 12; refine (rdigit_any _ _).mono ?_; rintro e w' ⟨rfl, rfl⟩)
       go_ret2
       exact ⟨ret_two' (by unfold hexI; (repeat' split) <;> omega) (by simp [isHexI]; omega), rfl⟩)
    | (have hd : isDigitI c = false := by simp [isDigitI]; omega
       go_enter Try.func8, Try.ntmps8
       go_wp2_with (go_at_call 12; refine (rdigit_any _ _).mono ?_; rintro e w' ⟨rfl, rfl⟩)
       go_ret2
       exact ⟨ret_two' (by unfold hexI; (repeat' split) <;> omega) (by simp [isHexI]; omega), rfl⟩)

end Go.Proofs.Ytkbcfclpfkpjeaa
