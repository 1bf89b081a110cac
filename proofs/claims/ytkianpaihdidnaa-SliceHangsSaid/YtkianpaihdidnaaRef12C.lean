/- The document's slices (riffleref12): Right. -/
import Derived.Test.YtkianpaihdidnaaRef12B
import Derived.Deep.Modes
namespace Go.Proofs.Ytkianpaihdidnaa
open Go.RowKit
set_option linter.unusedVariables false

theorem ok_not {n : Int} (h : okI n) : ¬ n < -9007199254740991 ∧ ¬ n > 9007199254740991 := by unfold okI at h; omega
theorem not_ok {n : Int} (h : ¬ okI n) : n < -9007199254740991 ∨ (¬ n < -9007199254740991 ∧ n > 9007199254740991) := by unfold okI at h; omega

set_option maxRecDepth 100000 in
set_option maxHeartbeats 2000000 in
theorem rright_yes (s : Sel) (w : World) (h : RightI s) : Calls Try.prog 7 #[.agg (selV s)] w fun e w' => e = .returned (.bool true) ∧ Below w.heap.size w w' := by
  obtain ⟨a1, a2⟩ := ok_not h.index
  obtain ⟨b1, b2⟩ := ok_not h.start
  obtain ⟨c1, c2⟩ := ok_not h.en
  obtain ⟨d1, d2⟩ := ok_not h.stride
  clear h
  unfold selV
  go_enter Try.func7, Try.ntmps7
  go_wp2
  refine wp_loop_rounds 5 ?_
  rw [rounds_succ]; go_wp2
  rw [rounds_succ]; go_wp2
  rw [rounds_succ]; go_wp2
  rw [rounds_succ]; go_wp2
  rw [rounds_succ]; go_wp2
  go_ret
  exact ⟨rfl, (below1s _ _).alloc (by simp) _⟩

set_option maxRecDepth 100000 in
set_option maxHeartbeats 4000000 in
theorem rright_no (s : Sel) (w : World) (h : ¬ RightI s) : Calls Try.prog 7 #[.agg (selV s)] w fun e w' => e = .returned (.bool false) ∧ Below w.heap.size w w' := by
  by_cases g1 : okI s.index
  · obtain ⟨a1, a2⟩ := ok_not g1
    by_cases g2 : okI s.start
    · obtain ⟨b1, b2⟩ := ok_not g2
      by_cases g3 : okI s.en
      · obtain ⟨c1, c2⟩ := ok_not g3
        have g4 : ¬ okI s.stride := fun g4 => h ⟨g1, g2, g3, g4⟩
        unfold selV
        clear g1 g2 g3 h
        rcases not_ok g4 with d1 | ⟨d1, d2⟩
        all_goals
          clear g4
          go_enter Try.func7, Try.ntmps7
          go_wp2
          refine wp_loop_rounds 5 ?_
          rw [rounds_succ]; go_wp2
          rw [rounds_succ]; go_wp2
          rw [rounds_succ]; go_wp2
          rw [rounds_succ]; go_wp2
          go_ret
          exact ⟨rfl, (below1s _ _).alloc (by simp) _⟩
      · unfold selV
        clear g1 g2 h
        rcases not_ok g3 with d1 | ⟨d1, d2⟩
        all_goals
          clear g3
          go_enter Try.func7, Try.ntmps7
          go_wp2
          refine wp_loop_rounds 5 ?_
          rw [rounds_succ]; go_wp2
          rw [rounds_succ]; go_wp2
          rw [rounds_succ]; go_wp2
          go_ret
          exact ⟨rfl, (below1s _ _).alloc (by simp) _⟩
    · unfold selV
      clear g1 h
      rcases not_ok g2 with d1 | ⟨d1, d2⟩
      all_goals
        clear g2
        go_enter Try.func7, Try.ntmps7
        go_wp2
        refine wp_loop_rounds 5 ?_
        rw [rounds_succ]; go_wp2
        rw [rounds_succ]; go_wp2
        go_ret
        exact ⟨rfl, (below1s _ _).alloc (by simp) _⟩
  · unfold selV
    clear h
    rcases not_ok g1 with d1 | ⟨d1, d2⟩
    all_goals
      clear g1
      go_enter Try.func7, Try.ntmps7
      go_wp2
      refine wp_loop_rounds 5 ?_
      rw [rounds_succ]; go_wp2
      go_ret
      exact ⟨rfl, (below1s _ _).alloc (by simp) _⟩

end Go.Proofs.Ytkianpaihdidnaa
