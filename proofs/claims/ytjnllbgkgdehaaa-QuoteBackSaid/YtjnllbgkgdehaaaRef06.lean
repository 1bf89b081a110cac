/- The contracts of the document's Put for layer 6 (riffleref06): letter, Lower. -/
import Derived.Test.YtjnllbgkgdehaaaM06C
import Derived.Outline
import Derived.Deep.DeepMust
namespace Go.Proofs.Ytjnllbgkgdehaaa
open Go.RowKit

set_option maxRecDepth 100000 in
set_option maxHeartbeats 4000000 in
theorem rlet_34 (W : World) : Calls Try.prog 14 #[.int .u8 34] W fun e w' => e = .returned (.int .u8 34) ∧ Below W.heap.size W w' := by
  go_enter Try.func14, Try.ntmps14
  go_wp2
  refine wp_loop_rounds 9 ?_
  rw [rounds_succ]
  go_wp2
  go_ret
  exact ⟨rfl, below2 _ _ _⟩

set_option maxRecDepth 100000 in
set_option maxHeartbeats 4000000 in
theorem rlet_92 (W : World) : Calls Try.prog 14 #[.int .u8 92] W fun e w' => e = .returned (.int .u8 92) ∧ Below W.heap.size W w' := by
  go_enter Try.func14, Try.ntmps14
  go_wp2
  refine wp_loop_rounds 9 ?_
  rw [rounds_succ]
  go_wp2
  rw [rounds_succ]
  go_wp2
  go_ret
  exact ⟨rfl, below2 _ _ _⟩

set_option maxRecDepth 100000 in
set_option maxHeartbeats 4000000 in
theorem rlet_98 (W : World) : Calls Try.prog 14 #[.int .u8 98] W fun e w' => e = .returned (.int .u8 8) ∧ Below W.heap.size W w' := by
  go_enter Try.func14, Try.ntmps14
  go_wp2
  refine wp_loop_rounds 9 ?_
  rw [rounds_succ]
  go_wp2
  rw [rounds_succ]
  go_wp2
  rw [rounds_succ]
  go_wp2
  rw [rounds_succ]
  go_wp2
  go_ret
  exact ⟨rfl, below2 _ _ _⟩

set_option maxRecDepth 100000 in
set_option maxHeartbeats 4000000 in
theorem rlet_102 (W : World) : Calls Try.prog 14 #[.int .u8 102] W fun e w' => e = .returned (.int .u8 12) ∧ Below W.heap.size W w' := by
  go_enter Try.func14, Try.ntmps14
  go_wp2
  refine wp_loop_rounds 9 ?_
  rw [rounds_succ]
  go_wp2
  rw [rounds_succ]
  go_wp2
  rw [rounds_succ]
  go_wp2
  rw [rounds_succ]
  go_wp2
  rw [rounds_succ]
  go_wp2
  go_ret
  exact ⟨rfl, below2 _ _ _⟩

set_option maxRecDepth 100000 in
set_option maxHeartbeats 4000000 in
theorem rlet_110 (W : World) : Calls Try.prog 14 #[.int .u8 110] W fun e w' => e = .returned (.int .u8 10) ∧ Below W.heap.size W w' := by
  go_enter Try.func14, Try.ntmps14
  go_wp2
  refine wp_loop_rounds 9 ?_
  rw [rounds_succ]
  go_wp2
  rw [rounds_succ]
  go_wp2
  rw [rounds_succ]
  go_wp2
  rw [rounds_succ]
  go_wp2
  rw [rounds_succ]
  go_wp2
  rw [rounds_succ]
  go_wp2
  go_ret
  exact ⟨rfl, below2 _ _ _⟩

set_option maxRecDepth 100000 in
set_option maxHeartbeats 4000000 in
theorem rlet_114 (W : World) : Calls Try.prog 14 #[.int .u8 114] W fun e w' => e = .returned (.int .u8 13) ∧ Below W.heap.size W w' := by
  go_enter Try.func14, Try.ntmps14
  go_wp2
  refine wp_loop_rounds 9 ?_
  rw [rounds_succ]
  go_wp2
  rw [rounds_succ]
  go_wp2
  rw [rounds_succ]
  go_wp2
  rw [rounds_succ]
  go_wp2
  rw [rounds_succ]
  go_wp2
  rw [rounds_succ]
  go_wp2
  rw [rounds_succ]
  go_wp2
  go_ret
  exact ⟨rfl, below2 _ _ _⟩

set_option maxRecDepth 100000 in
set_option maxHeartbeats 4000000 in
theorem rlet_116 (W : World) : Calls Try.prog 14 #[.int .u8 116] W fun e w' => e = .returned (.int .u8 9) ∧ Below W.heap.size W w' := by
  go_enter Try.func14, Try.ntmps14
  go_wp2
  refine wp_loop_rounds 9 ?_
  rw [rounds_succ]
  go_wp2
  rw [rounds_succ]
  go_wp2
  rw [rounds_succ]
  go_wp2
  rw [rounds_succ]
  go_wp2
  rw [rounds_succ]
  go_wp2
  rw [rounds_succ]
  go_wp2
  rw [rounds_succ]
  go_wp2
  rw [rounds_succ]
  go_wp2
  go_ret
  exact ⟨rfl, below2 _ _ _⟩

theorem low_toNat (n : Nat) (h : n ≤ 15) : ((lowB n).toNat : Int) = if n < 10 then 48 + (n : Int) else 87 + n := by
  unfold lowB
  split
  · rw [UInt8.toNat_ofNat']; omega
  · rw [if_pos (by omega), UInt8.toNat_ofNat']; omega

set_option maxHeartbeats 400000 in
theorem rlowerN_any (n : Nat) (h : n ≤ 15) (w : World) : Calls Try.prog 15 #[.int .i64 n] w fun e w' => e = .returned (.int .u8 (lowB n).toNat) ∧ w = w' := by
  have hv := low_toNat n h
  by_cases h9 : n < 10
  · rw [if_pos h9] at hv
    have HV := Lib.hid hv
    clear hv
    have g1 : ¬ (10 : Int) ≤ n := by omega
    have g2 : (n : Int) ≤ 9 := by omega
    go_enter Try.func15, Try.ntmps15
    go_wp2
    go_ret
    exact ⟨ret_i HV.out.symm, rfl⟩
  · rw [if_neg h9] at hv
    have HV := Lib.hid hv
    clear hv
    have g1 : (10 : Int) ≤ n := by omega
    have g2 : (n : Int) ≤ 15 := by omega
    go_enter Try.func15, Try.ntmps15
    go_wp2
    go_ret
    exact ⟨ret_i HV.out.symm, rfl⟩

end Go.Proofs.Ytjnllbgkgdehaaa
