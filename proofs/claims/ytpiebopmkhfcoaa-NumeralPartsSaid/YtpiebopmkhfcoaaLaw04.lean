/- The walks of the statements of layer 4: NumeralTells, NumeralWalks, NumeralParts. -/
import Derived.Test.YtpiebopmkhfcoaaRef04B
import Derived.Deep.QuietTactic
namespace Go.Proofs.Ytpiebopmkhfcoaa
open Go.RowKit

theorem is_at (l : List UInt8) (v : Bool) (h : isR l = v) (hs : l.length ≤ 100) (W : World) :
    Calls Try.prog 11 #[.string ⟨l.toArray⟩] W fun e w' => e = .returned (.bool v) ∧ Below W.heap.size W w' := by
  have := is_any ⟨l.toArray⟩ W (by show l.toArray.size ≤ _; simp [maxLen]; omega)
  rw [h] at this
  exact this
theorem fault_at (l : List UInt8) (v : Int) (h : fRun 0 l 0 = v) (hs : l.length ≤ 100) (W : World) :
    Calls Try.prog 12 #[.string ⟨l.toArray⟩] W fun e w' => e = .returned (.int .i64 v) ∧ Below W.heap.size W w' := by
  have := fault_any ⟨l.toArray⟩ W (by show l.toArray.size ≤ _; simp [maxLen]; omega)
  rw [h] at this
  exact this
theorem count_at (l : List UInt8) (v : Int) (h : cRun 0 l 0 0 = v) (hs : l.length ≤ 100) (W : World) :
    Calls Try.prog 14 #[.string ⟨l.toArray⟩] W fun e w' => e = .returned (.int .i64 v) ∧ Below W.heap.size W w' := by
  have := count_any ⟨l.toArray⟩ W (by show l.toArray.size ≤ _; simp [maxLen]; omega)
  rw [h] at this
  exact this

set_option maxHeartbeats 400000 in
theorem alive4_any (W : World) :
    Calls Try.prog 6 #[] W fun e w' => e = .returned (.bool true) ∧ Below W.heap.size W w' := by
  have K1 := Lib.hid (is_at [45, 48, 46, 53, 101, 43, 55] true (by decide +kernel) (by decide))
  have K2 := Lib.hid (fault_at [48, 49] 1 (by decide +kernel) (by decide))
  have K3 := Lib.hid (fault_at [49, 46] 2 (by decide +kernel) (by decide))
  have K4 := Lib.hid (count_at [49, 50, 44] 2 (by decide +kernel) (by decide))
  go_enter Try.func6, Try.ntmps6
  go_wp2_with (first
    | (go_at_call 11; (with_reducible refine (K1.out _).mono ?_); rintro e w1 ⟨rfl, hb1⟩)
    | (go_at_call 12; (with_reducible refine (K2.out _).mono ?_); rintro e w2 ⟨rfl, hb2⟩)
    | (go_at_call 12; (with_reducible refine (K3.out _).mono ?_); rintro e w3 ⟨rfl, hb3⟩)
    | (go_at_call 14; (with_reducible refine (K4.out _).mono ?_); rintro e w4 ⟨rfl, hb4⟩))
  go_ret
  have z1 := hb1.size
  have z2 := hb2.size
  have z3 := hb3.size
  exact ⟨rfl, ((hb1.trans (hb2.mono z1)).trans (hb3.mono (by omega))).trans (hb4.mono (by omega))⟩

set_option maxHeartbeats 1000000 in
theorem numeralTells_walk (s : ByteArray) (W : World) (hs : s.size ≤ maxLen) :
    Calls Try.prog 4 #[.string s] W fun e w' => e = .returned (.bool true) ∧ Below W.heap.size W w' := by
  have K1 := Lib.hid (fun w => is_any s w hs)
  have K3 := Lib.hid (fun w => fault_any s w hs)
  have K5 := Lib.hid (fun w => count_any s w hs)
  by_cases h2 : 300 < (s.size : Int)
  · unfold maxLen at hs
    go_enter Try.func4, Try.ntmps4
    go_wp2_with (first
      | (go_at_call 6; refine (alive4_any _).mono ?_; rintro e w1 ⟨rfl, hb1⟩))
    go_ret
    exact ⟨rfl, hb1⟩
  · have h2' : (s.size : Int) ≤ 300 := by omega
    have h2n : s.size ≤ 400 := by omega
    have K2 := Lib.hid (fun w => ris_any s w (by omega))
    have K4 := Lib.hid (fun w => rfault_any s w h2n)
    have K6 := Lib.hid (fun w => rcount_any s w h2n)
    clear hs
    generalize isR s.data.toList = v at *
    generalize fRun 0 s.data.toList 0 = f at *
    generalize cRun 0 s.data.toList 0 0 = n at *
    cases v
    all_goals
      go_enter Try.func4, Try.ntmps4
      go_wp2_with (first
        | (go_at_call 6; refine (alive4_any _).mono ?_; rintro e w1 ⟨rfl, hb1⟩)
        | (go_at_call 11; refine (K1.out _).mono ?_; rintro e w2 ⟨rfl, hb2⟩)
        | (go_at_call 10; refine (K2.out _).mono ?_; rintro e w' ⟨rfl, rfl⟩)
        | (go_at_call 12; refine (K3.out _).mono ?_; rintro e w3 ⟨rfl, hb3⟩)
        | (go_at_call 13; refine (K4.out _).mono ?_; rintro e w4 ⟨rfl, hb4⟩)
        | (go_at_call 14; refine (K5.out _).mono ?_; rintro e w5 ⟨rfl, hb5⟩)
        | (go_at_call 15; refine (K6.out _).mono ?_; rintro e w' ⟨rfl, rfl⟩))
      go_ret
      have z1 := hb1.size
      have z2 := hb2.size
      have z3 := hb3.size
      have z4 := hb4.size
      exact ⟨rfl, (((hb1.trans (hb2.mono z1)).trans (hb3.mono (by omega))).trans (hb4.mono (by omega))).trans (hb5.mono (by omega))⟩

theorem below_drewN {B : Nat} {a w : World} (h : Below B a w) (n : Nat) : Below B a (w.drewN n) := ⟨h.os, h.tape, h.output, h.size, h.block⟩

theorem quiet_mine {P : Program} {f : FuncId} {args : Array Value} {w : World} {n : Nat} {v : Value}
    (h : Calls P f args (w.drewN n) fun e w' => e = .returned v ∧ w.drewN n = w') : Calls P f args (w.drewN n) fun e w'' => e = .returned v ∧ ∃ m, w'' = w.drewN m :=
  h.mono fun _ _ ⟨he, hm⟩ => ⟨he, n, hm.symm⟩

/-- Where NumeralWalks' loop is. -/
def RelNW (s : ByteArray) (W w1 wr : World) (i : Value) : Prop :=
  ∃ (k : Nat) (a : Int), k ≤ s.size ∧ i = .int .i64 k ∧ At a (s.data.toList.take k) ∧ Own wr w1.heap.size 24 #[.int .i64 a] ∧ Below W.heap.size W wr

set_option maxRecDepth 100000 in
set_option maxHeartbeats 2000000 in
theorem numeralWalks_walk (s : ByteArray) (W : World) (hs : s.size ≤ maxLen) :
    Calls Try.prog 3 #[.string s] W fun e w' => e = .returned (.bool true) ∧ Below W.heap.size W w' := by
  unfold maxLen at hs
  by_cases h2 : 300 < (s.size : Int)
  · go_enter Try.func3, Try.ntmps3
    go_wp2_with (first
      | (go_at_call 6; refine (alive4_any _).mono ?_; rintro e w1 ⟨rfl, hb1⟩))
    go_ret
    exact ⟨rfl, hb1⟩
  have h2' : (s.size : Int) ≤ 300 := by omega
  go_enter Try.func3, Try.ntmps3
  go_wp2_with (first
    | (go_at_call 6; refine (alive4_any _).mono ?_; rintro e w1 ⟨rfl, hb1⟩)
    | (go_at_call 7; refine (nwhole_any _ 0 _ (Own.fresh _ _ _) stA_zero).mono ?_; rintro e w' ⟨rfl, rfl⟩))
  have z1 := hb1.size
  go_loopw [4] (fun i wr => RelNW s W w1 wr i) (fun i _ => s.size - (intOf i).toNat)
  case atStart => exact ⟨0, 0, Nat.zero_le _, rfl, at_nil, Own.fresh _ _ _, hb1.alloc z1 _⟩
  case round =>
    obtain ⟨k, a, hk, rfl, hat, hown, hbel⟩ := hrel
    by_cases hlt : k < s.size
    · have hl : k < s.data.toList.length := hlt
      have hc : s.data.toList[k] = s[k] := rfl
      have HS := fun w => rstep_at (s.extract 0 k) s[k] a (by rw [head_is]; exact hat) w (by simp; omega)
      by_cases hok : nxI a s[k].toNat = 0
      · have HT := fun w (h : Own w w1.heap.size 24 #[.int .i64 a]) => nstep_stays w1.heap.size s[k].toNat a w h hat.1 hok
        have hi := fun w => ris_any (s.extract 0 k) w (by simp; omega)
        rw [head_is, at_is hat] at hi
        have han' : (anI a s[k].toNat != 0) = true := by simp [an_more hok]
        have HW := Lib.hid (fun w h => nwhole_any w1.heap.size a w h hat.1)
        have HS := Lib.hid HS
        have HT := Lib.hid HT
        have HI := Lib.hid hi
        have HA := Lib.hid hat
        clear hok hc hat hi
        generalize anI a s[k].toNat = x at *
        generalize whI a = v at *
        go_wp2
        go_still_tail 6, (by kernel_rfl)
        change wpList _ _ _ _ _ wr.drew
        go_wp2_with (first
          | (go_at_call 8; refine (HS.out _).mono ?_; rintro e w2 ⟨rfl, hb2⟩; have hown2 := Own.stay (w := wr.drew) hown hb2 hown.inside)
          | (go_at_call 9; refine (HT.out _ hown2).mono ?_; rintro e w' ⟨rfl, rfl⟩))
        go_quiet (first
          | (go_at_call 7; exact quiet_mine (HW.out _ hown2))
          | (go_at_call 10; exact quiet_mine (HI.out _)))
        go_wp2
        go_ret
        exact ⟨ret_b (by simp), below_drewN (hbel.drew.trans (hb2.mono hbel.size)) nq⟩
      · rw [an_zero hok] at HS
        have hat' := at_take k hl hat (by rw [hc]; exact hok)
        rw [hc] at hat'
        have HT := fun w (h : Own w w1.heap.size 24 #[.int .i64 a]) => nstep_goes w1.heap.size s[k].toNat a w h hat.1 hok
        have hi := fun w => ris_any (s.extract 0 (k + 1)) w (by simp; omega)
        rw [head_is, at_is hat'] at hi
        have HW := fun w (h : Own w w1.heap.size 24 #[.int .i64 (nxI a s[k].toNat)]) => nwhole_any w1.heap.size (nxI a s[k].toNat) w h hat'.1
        generalize nxI a s[k].toNat = a' at *
        have HW := Lib.hid HW
        have HS := Lib.hid HS
        have HT := Lib.hid HT
        have HI := Lib.hid hi
        have HA := Lib.hid hat'
        clear hok hc hat hi hat'
        have hk1 : k + 1 ≤ s.size := hlt
        generalize whI a' = v at *
        go_wp2
        go_still_tail 6, (by kernel_rfl)
        change wpList _ _ _ _ _ wr.drew
        go_wp2_with (first
          | (go_at_call 8; refine (HS.out _).mono ?_; rintro e w2 ⟨rfl, hb2⟩; have hown2 := Own.stay (w := wr.drew) hown hb2 hown.inside)
          | (go_at_call 9; refine (HT.out _ hown2).mono ?_; rintro e w3 ⟨rfl, hown3, ht3⟩))
        go_quiet (first
          | (go_at_call 7; exact quiet_mine (HW.out _ hown3))
          | (go_at_call 10; exact quiet_mine (HI.out _)))
        go_wp2
        go_roundw
        case rel => (repeat apply Exists.intro); exact ⟨⟨k + 1, _, hlt, by go_num, HA.out, hown3, below_drewN ((hbel.drew.trans (hb2.mono hbel.size)).trans (ht3.below z1 (by have := hown2.inside; omega))) nq⟩, rfl⟩
        case measure => simp [intOf]; omega
    · go_wp2
      go_ret
      exact ⟨rfl, hbel⟩

end Go.Proofs.Ytpiebopmkhfcoaa
