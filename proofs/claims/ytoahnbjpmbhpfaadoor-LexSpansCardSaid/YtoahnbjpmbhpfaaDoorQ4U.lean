/- Package quote's Walk, continued: the walk of UTF-8 within it, and Step. -/
import Derived.Test.YtoahnbjpmbhpfaaDoorQ4
namespace Go.Proofs.YtoahnbjpmbhpfaaDoor.K4
open Go.RowKit
variable {Rs : Rest}
set_option linter.unusedVariables false

theorem two_eq {w : World} {b : Nat} {x x' y y' : Int} (e : x = x') (f : y = y') : (w.setCell ⟨b, 5, none⟩ (.int .i32 x)).setCell ⟨b, 6, none⟩ (.int .i64 y) = (w.setCell ⟨b, 5, none⟩ (.int .i32 x')).setCell ⟨b, 6, none⟩ (.int .i64 y') := by
  subst e f; rfl

set_option maxHeartbeats 400000 in
theorem qwithin_any (b : Nat) (sg lf : Int) (w : World) (c0 : w.cell? ⟨b, 5, none⟩ = some (.int .i32 sg)) (c1 : w.cell? ⟨b, 6, none⟩ = some (.int .i64 lf)) (f0 : w.frozen? ⟨b, 5, none⟩ = false) (f1 : w.frozen? ⟨b, 6, none⟩ = false) :
    Calls Tryd.prog 35 #[.pointer (some ⟨b, 5, none⟩)] w fun e w' => e = .returned (.bool (decide (0 < lf))) ∧ w = w' := by
  go_enter Tryd.func35, Tryd.ntmps35
  go_wp2
  go_ret
  exact ⟨rfl, rfl⟩

set_option maxHeartbeats 400000 in
theorem qsign_any (b : Nat) (sg lf : Int) (w : World) (c0 : w.cell? ⟨b, 5, none⟩ = some (.int .i32 sg)) (c1 : w.cell? ⟨b, 6, none⟩ = some (.int .i64 lf)) (f0 : w.frozen? ⟨b, 5, none⟩ = false) (f1 : w.frozen? ⟨b, 6, none⟩ = false) :
    Calls Tryd.prog 38 #[.pointer (some ⟨b, 5, none⟩)] w fun e w' => e = .returned (.int .i32 (if 0 < lf then 0 else sg)) ∧ w = w' := by
  by_cases hl : 0 < lf
  all_goals
    go_enter Tryd.func38, Tryd.ntmps38
    go_wp2_with (go_at_call 35; refine (qwithin_any _ _ _ _ c0 c1 f0 f1).mono ?_; rintro e w' ⟨rfl, rfl⟩)
    go_ret
    exact ⟨rfl, rfl⟩

set_option maxHeartbeats 1000000 in
theorem qnext_any (b : Nat) (sg lf : Int) (w : World) (c0 : w.cell? ⟨b, 5, none⟩ = some (.int .i32 sg)) (c1 : w.cell? ⟨b, 6, none⟩ = some (.int .i64 lf)) (f0 : w.frozen? ⟨b, 5, none⟩ = false) (f1 : w.frozen? ⟨b, 6, none⟩ = false) :
    Calls Tryd.prog 50 #[.pointer (some ⟨b, 5, none⟩)] w fun e w' => e = .returned (.tuple #[.int .u8 (lowU sg lf), .int .u8 (highU sg lf)]) ∧ w = w' := by
  by_cases h2 : lf = 2
  · subst h2
    by_cases h0 : sg = 0
    · subst h0
      go_enter Tryd.func50, Tryd.ntmps50
      go_wp2
      go_ret2
      exact ⟨rfl, rfl⟩
    · have e0 : (sg == 0) = false := beq_eq_false_iff_ne.2 h0
      by_cases h13 : sg = 13
      · subst h13
        go_enter Tryd.func50, Tryd.ntmps50
        go_wp2
        go_ret2
        exact ⟨rfl, rfl⟩
      · have e13 : (sg == 13) = false := beq_eq_false_iff_ne.2 h13
        go_enter Tryd.func50, Tryd.ntmps50
        go_wp2
        go_ret2
        exact ⟨by simp [lowU, highU, h0, h13], rfl⟩
  · have e2 : (lf == 2) = false := beq_eq_false_iff_ne.2 h2
    by_cases h3 : lf = 3
    · subst h3
      by_cases h0 : sg = 0
      · subst h0
        go_enter Tryd.func50, Tryd.ntmps50
        go_wp2
        go_ret2
        exact ⟨rfl, rfl⟩
      · have e0 : (sg == 0) = false := beq_eq_false_iff_ne.2 h0
        by_cases h4 : sg = 4
        · subst h4
          go_enter Tryd.func50, Tryd.ntmps50
          go_wp2
          go_ret2
          exact ⟨rfl, rfl⟩
        · have e4 : (sg == 4) = false := beq_eq_false_iff_ne.2 h4
          go_enter Tryd.func50, Tryd.ntmps50
          go_wp2
          go_ret2
          exact ⟨by simp [lowU, highU, h0, h4], rfl⟩
    · have e3 : (lf == 3) = false := beq_eq_false_iff_ne.2 h3
      go_enter Tryd.func50, Tryd.ntmps50
      go_wp2
      go_ret2
      exact ⟨by simp [lowU, highU, h2, h3], rfl⟩

set_option maxHeartbeats 1000000 in
theorem qbegin_yes (b : Nat) (c sg lf : Int) (w : World) (c0 : w.cell? ⟨b, 5, none⟩ = some (.int .i32 sg)) (c1 : w.cell? ⟨b, 6, none⟩ = some (.int .i64 lf)) (f0 : w.frozen? ⟨b, 5, none⟩ = false) (f1 : w.frozen? ⟨b, 6, none⟩ = false) (h0 : 0 ≤ c) (hk : c < 128 ∨ 194 ≤ c ∧ c < 245) :
    Calls Tryd.prog 49 #[.pointer (some ⟨b, 5, none⟩), .int .u8 c] w fun e w' => e = .returned (.bool true) ∧ w' = (w.setCell ⟨b, 5, none⟩ (.int .i32 (sgU sg 0 c))).setCell ⟨b, 6, none⟩ (.int .i64 (lfU 0 c)) := by
  have hh : (c < 128) ∨ (194 ≤ c ∧ c < 224) ∨ (224 ≤ c ∧ c < 240) ∨ (240 ≤ c ∧ c < 245) := by omega
  rcases hh with hh | ⟨h1, h2⟩ | ⟨h1, h2⟩ | ⟨h1, h2⟩
  all_goals
    go_enter Tryd.func49, Tryd.ntmps49
    go_wp2
    go_ret
    exact ⟨rfl, two_eq (by simp [sgU] <;> (repeat' split) <;> omega) (by simp [lfU] <;> (repeat' split) <;> omega)⟩

set_option maxHeartbeats 1000000 in
theorem qbegin_no (b : Nat) (c : Int) (w : World) (hk : ¬ (c < 128 ∨ 194 ≤ c ∧ c < 245)) :
    Calls Tryd.prog 49 #[.pointer (some ⟨b, 5, none⟩), .int .u8 c] w fun e w' => e = .returned (.bool false) ∧ w = w' := by
  have hh : (128 ≤ c ∧ c < 194) ∨ 245 ≤ c := by omega
  clear hk
  rcases hh with ⟨h1, h2⟩ | h1
  all_goals
    go_enter Tryd.func49, Tryd.ntmps49
    go_wp2
    go_ret
    exact ⟨rfl, rfl⟩

set_option maxHeartbeats 1000000 in
theorem qstep_yes (b : Nat) (c sg lf : Int) (w : World) (c0 : w.cell? ⟨b, 5, none⟩ = some (.int .i32 sg)) (c1 : w.cell? ⟨b, 6, none⟩ = some (.int .i64 lf)) (f0 : w.frozen? ⟨b, 5, none⟩ = false) (f1 : w.frozen? ⟨b, 6, none⟩ = false) (hs : StU sg lf) (h0 : 0 ≤ c) (hk : okU sg lf c = true) :
    Calls Tryd.prog 36 #[.pointer (some ⟨b, 5, none⟩), .int .u8 c] w fun e w' => e = .returned (.bool true) ∧ w' = (w.setCell ⟨b, 5, none⟩ (.int .i32 (sgU sg lf c))).setCell ⟨b, 6, none⟩ (.int .i64 (lfU lf c)) := by
  by_cases hl : lf = 0
  · subst hl
    have hk' := okU_zero hk
    clear hk
    have HB := Lib.hid (qbegin_yes b c sg 0 w c0 c1 f0 f1 h0 hk')
    clear hk'
    go_enter Tryd.func36, Tryd.ntmps36
    go_wp2_with (go_at_call 49; refine HB.out.mono ?_; rintro e w' ⟨rfl, rfl⟩)
    go_ret
    exact ⟨rfl, rfl⟩
  · have el : (lf == 0) = false := beq_eq_false_iff_ne.2 hl
    have e1 : sgU sg lf c = sg * 64 + (c - 128) := by unfold sgU; rw [if_neg hl]
    have e2 : lfU lf c = lf - 1 := by unfold lfU; rw [if_neg hl]
    rw [e1, e2]
    obtain ⟨hk1, hk2⟩ := okU_more hl hk
    obtain ⟨hk3, hk4⟩ := okU_bd hl hk
    have g1 := lowU_in sg lf
    have g2 := highU_in sg lf
    have s0 : 0 ≤ sg := hs.1
    have s9 : sg ≤ 17407 := by unfold StU at hs; omega
    have l0 : 1 ≤ lf := by unfold StU at hs; omega
    have l9 : lf ≤ 3 := by unfold StU at hs; omega
    clear hs hk hl e1 e2
    have HN := Lib.hid (qnext_any b sg lf w c0 c1 f0 f1)
    generalize lowU sg lf = lo at *
    generalize highU sg lf = hi at *
    go_enter Tryd.func36, Tryd.ntmps36
    go_wp2_with (go_at_call 50; refine HN.out.mono ?_; rintro e w' ⟨rfl, rfl⟩)
    go_ret
    exact ⟨rfl, two_eq (by omega) rfl⟩

set_option maxHeartbeats 1000000 in
theorem qstep_no (b : Nat) (c sg lf : Int) (w : World) (c0 : w.cell? ⟨b, 5, none⟩ = some (.int .i32 sg)) (c1 : w.cell? ⟨b, 6, none⟩ = some (.int .i64 lf)) (f0 : w.frozen? ⟨b, 5, none⟩ = false) (f1 : w.frozen? ⟨b, 6, none⟩ = false) (hk : okU sg lf c = false) :
    Calls Tryd.prog 36 #[.pointer (some ⟨b, 5, none⟩), .int .u8 c] w fun e w' => e = .returned (.bool false) ∧ w = w' := by
  by_cases hl : lf = 0
  · subst hl
    have hk' : ¬ (c < 128 ∨ 194 ≤ c ∧ c < 245) := by
      unfold okU at hk
      rw [if_pos rfl] at hk
      exact of_decide_eq_false hk
    clear hk
    have HB := Lib.hid (qbegin_no b c w hk')
    clear hk'
    go_enter Tryd.func36, Tryd.ntmps36
    go_wp2_with (go_at_call 49; refine HB.out.mono ?_; rintro e w' ⟨rfl, rfl⟩)
    go_ret
    exact ⟨rfl, rfl⟩
  · have el : (lf == 0) = false := beq_eq_false_iff_ne.2 hl
    have hk' : ¬ (lowU sg lf ≤ c ∧ c ≤ highU sg lf) := by
      unfold okU at hk
      rw [if_neg hl] at hk
      exact of_decide_eq_false hk
    clear hk
    have HN := Lib.hid (qnext_any b sg lf w c0 c1 f0 f1)
    generalize lowU sg lf = lo at *
    generalize highU sg lf = hi at *
    by_cases hlo : c < lo
    · clear hk' hl
      go_enter Tryd.func36, Tryd.ntmps36
      go_wp2_with (go_at_call 50; refine HN.out.mono ?_; rintro e w' ⟨rfl, rfl⟩)
      go_ret
      exact ⟨rfl, rfl⟩
    · have hhi : hi < c := by omega
      have hlo' : lo ≤ c := by omega
      clear hk' hl hlo
      go_enter Tryd.func36, Tryd.ntmps36
      go_wp2_with (go_at_call 50; refine HN.out.mono ?_; rintro e w' ⟨rfl, rfl⟩)
      go_ret
      exact ⟨rfl, rfl⟩


end Go.Proofs.YtoahnbjpmbhpfaaDoor.K4
