/- The contracts of package numeral. -/
import Derived.Test.YtoahnbjpmbhpfaaDoorM04
import Derived.Outline
namespace Go.Proofs.YtoahnbjpmbhpfaaDoor
open Go.RowKit

set_option maxHeartbeats 1000000 in
theorem whole_in (a : Int) (ha : StA a) (w : World) :
    Calls Tryd.prog 18 #[.int .i64 a] w fun e w' => e = .returned (.bool (whI a)) ∧ w = w' := by
  rcases stA_cases ha with rfl | rfl | rfl | rfl | rfl | rfl | rfl | rfl | rfl
  all_goals
    go_enter Tryd.func18, Tryd.ntmps18
    go_wp2
    go_ret
    exact ⟨rfl, rfl⟩

set_option maxHeartbeats 1000000 in
theorem bdigit_in (a c : Int) (ha : StA a) (w : World) :
    Calls Tryd.prog 47 #[.int .i64 a, .int .u8 c] w fun e w' => e = .returned (.int .i64 (dgI a c)) ∧ w = w' := by
  rcases stA_cases ha with rfl | rfl | rfl | rfl | rfl | rfl | rfl | rfl | rfl
  all_goals
    by_cases h0 : c = 48
    · subst h0
      go_enter Tryd.func47, Tryd.ntmps47
      go_wp2
      go_ret
      exact ⟨rfl, rfl⟩
    · have h0' : (c == 48) = false := beq_eq_false_iff_ne.2 h0
      go_enter Tryd.func47, Tryd.ntmps47
      go_wp2
      go_ret
      exact ⟨ret_i (by simp [dgI, h0]), rfl⟩

set_option maxHeartbeats 1000000 in
theorem bsign_in (a c : Int) (ha : StA a) (hc : c = 43 ∨ c = 45) (w : World) :
    Calls Tryd.prog 46 #[.int .i64 a, .int .u8 c] w fun e w' => e = .returned (.int .i64 (sgI a c)) ∧ w = w' := by
  rcases stA_cases ha with rfl | rfl | rfl | rfl | rfl | rfl | rfl | rfl | rfl <;> rcases hc with rfl | rfl
  all_goals
    go_enter Tryd.func46, Tryd.ntmps46
    go_wp2
    go_ret
    exact ⟨rfl, rfl⟩

set_option maxHeartbeats 4000000 in
theorem behind_in (a c : Int) (ha : StA a) (w : World) :
    Calls Tryd.prog 31 #[.int .i64 a, .int .u8 c] w fun e w' => e = .returned (.int .i64 (nxI a c)) ∧ w = w' := by
  have HD := Lib.hid (bdigit_in a c ha)
  have HW := Lib.hid (whole_in a ha)
  by_cases h43 : c = 43
  · subst h43
    have HS := Lib.hid (bsign_in a 43 ha (Or.inl rfl))
    go_enter Tryd.func31, Tryd.ntmps31
    go_wp2_with (go_at_call 46; refine (HS.out _).mono ?_; rintro e w' ⟨rfl, rfl⟩)
    go_ret
    exact ⟨rfl, rfl⟩
  by_cases h45 : c = 45
  · subst h45
    have HS := Lib.hid (bsign_in a 45 ha (Or.inr rfl))
    go_enter Tryd.func31, Tryd.ntmps31
    go_wp2_with (go_at_call 46; refine (HS.out _).mono ?_; rintro e w' ⟨rfl, rfl⟩)
    go_ret
    exact ⟨rfl, rfl⟩
  have g1 : (c == 43) = false := beq_eq_false_iff_ne.2 h43
  have g2 : (c == 45) = false := beq_eq_false_iff_ne.2 h45
  have hn : ¬ (c = 43 ∨ c = 45) := by omega
  by_cases h46 : c = 46
  · subst h46
    rcases stA_cases ha with rfl | rfl | rfl | rfl | rfl | rfl | rfl | rfl | rfl
    all_goals
      go_enter Tryd.func31, Tryd.ntmps31
      go_wp2_with (first
        | (go_at_call 34; refine (digit_any _ _).mono ?_; rintro e w' ⟨rfl, rfl⟩))
      go_ret
      exact ⟨rfl, rfl⟩
  have g3 : (c == 46) = false := beq_eq_false_iff_ne.2 h46
  by_cases h101 : c = 101
  · subst h101
    rcases stA_cases ha with rfl | rfl | rfl | rfl | rfl | rfl | rfl | rfl | rfl
    all_goals
      go_enter Tryd.func31, Tryd.ntmps31
      go_wp2_with (first
        | (go_at_call 18; refine (HW.out _).mono ?_; rintro e w' ⟨rfl, rfl⟩)
        | (go_at_call 34; refine (digit_any _ _).mono ?_; rintro e w' ⟨rfl, rfl⟩))
      go_ret
      exact ⟨rfl, rfl⟩
  have g4 : (c == 101) = false := beq_eq_false_iff_ne.2 h101
  by_cases h69 : c = 69
  · subst h69
    rcases stA_cases ha with rfl | rfl | rfl | rfl | rfl | rfl | rfl | rfl | rfl
    all_goals
      go_enter Tryd.func31, Tryd.ntmps31
      go_wp2_with (first
        | (go_at_call 18; refine (HW.out _).mono ?_; rintro e w' ⟨rfl, rfl⟩)
        | (go_at_call 34; refine (digit_any _ _).mono ?_; rintro e w' ⟨rfl, rfl⟩))
      go_ret
      exact ⟨rfl, rfl⟩
  have g5 : (c == 69) = false := beq_eq_false_iff_ne.2 h69
  have HA := Lib.hid (show nxI a c = if isDigitI c = true then dgI a c else 0 by unfold nxI; rw [if_neg (by omega), if_neg (by omega), if_neg (by omega)])
  have HG := Lib.hid (digit_any c)
  clear h43 h45 h46 h101 h69 hn
  generalize isDigitI c = d at *
  cases d
  all_goals
    go_enter Tryd.func31, Tryd.ntmps31
    go_wp2_with (first
      | (go_at_call 34; refine (HG.out _).mono ?_; rintro e w' ⟨rfl, rfl⟩)
      | (go_at_call 47; refine (HD.out _).mono ?_; rintro e w' ⟨rfl, rfl⟩))
    go_ret
    exact ⟨ret_i (by rw [HA.out]; rfl), rfl⟩

set_option maxHeartbeats 1000000 in
theorem sticks_any (c : Int) (w : World) :
    Calls Tryd.prog 32 #[.int .u8 c] w fun e w' => e = .returned (.bool (stickI c)) ∧ w = w' := by
  have HG := Lib.hid (digit_any c)
  have HL := Lib.hid (alpha_any c)
  have HV := Lib.hid (show stickI c = (isDigitI c || isAlphaI c || decide (c = 46) || decide (c = 43) || decide (c = 45)) from rfl)
  generalize isDigitI c = d at *
  generalize isAlphaI c = b at *
  by_cases h1 : c = 46
  · subst h1
    cases d <;> cases b
    all_goals
      go_enter Tryd.func32, Tryd.ntmps32
      go_wp2_with (first
        | (go_at_call 34; refine (HG.out _).mono ?_; rintro e w' ⟨rfl, rfl⟩)
        | (go_at_call 48; refine (HL.out _).mono ?_; rintro e w' ⟨rfl, rfl⟩))
      go_ret
      exact ⟨ret_b (by rw [HV.out]; rfl), rfl⟩
  have g1 : (c == 46) = false := beq_eq_false_iff_ne.2 h1
  by_cases h2 : c = 43
  · subst h2
    cases d <;> cases b
    all_goals
      go_enter Tryd.func32, Tryd.ntmps32
      go_wp2_with (first
        | (go_at_call 34; refine (HG.out _).mono ?_; rintro e w' ⟨rfl, rfl⟩)
        | (go_at_call 48; refine (HL.out _).mono ?_; rintro e w' ⟨rfl, rfl⟩))
      go_ret
      exact ⟨ret_b (by rw [HV.out]; rfl), rfl⟩
  have g2 : (c == 43) = false := beq_eq_false_iff_ne.2 h2
  have g3 : (c == 45) = decide (c = 45) := by by_cases h : c = 45 <;> simp [h]
  cases d <;> cases b
  all_goals
    go_enter Tryd.func32, Tryd.ntmps32
    go_wp2_with (first
      | (go_at_call 34; refine (HG.out _).mono ?_; rintro e w' ⟨rfl, rfl⟩)
      | (go_at_call 48; refine (HL.out _).mono ?_; rintro e w' ⟨rfl, rfl⟩))
    go_ret
    exact ⟨ret_b (by rw [HV.out]; simp [h1, h2]), rfl⟩

end Go.Proofs.YtoahnbjpmbhpfaaDoor
