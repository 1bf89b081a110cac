/- The walk of UtfWalks: of any bytes, one by one. -/
import Derived.Test.YtcnhlcnkefnghaaLaw02
import Derived.Outline
namespace Go.Proofs.Ytcnhlcnkefnghaa
open Go.RowKit

/-- Where the loop of UtfWalks is. -/
def RelWalks (s : ByteArray) (B : Nat) (W wr : World) (fr la i : Value) : Prop :=
  ∃ (j k : Nat) (sg lf x : Int), j ≤ k ∧ k ≤ s.size ∧ (j = k ↔ lf = 0) ∧ fr = .int .i64 j ∧ i = .int .i64 k ∧ la = .int .i64 x ∧ (lf = 0 → x = sg) ∧ StU sg lf ∧
    InvL ((s.data.toList.take k).drop j) sg lf ∧ Own wr B 24 #[.int .i32 sg, .int .i64 lf] ∧ Below W.heap.size W wr

set_option maxRecDepth 100000 in
set_option maxHeartbeats 2000000 in
theorem utfWalks_walk (s : ByteArray) (W : World) (hs : s.size ≤ maxLen) :
    Calls Try.prog 3 #[.string s] W fun e w' => e = .returned (.bool true) ∧ Below W.heap.size W w' := by
  unfold maxLen at hs
  by_cases h1 : 1000 < (s.size : Int)
  · go_enter Try.func3, Try.ntmps3
    go_wp2_with (first
      | (go_at_call 7; refine (alive2_any _).mono ?_; rintro e w1 ⟨rfl, hb1⟩))
    go_ret
    exact ⟨rfl, hb1⟩
  have h1' : (s.size : Int) ≤ 1000 := by omega
  clear h1
  go_enter Try.func3, Try.ntmps3
  go_wp2_with (first
    | (go_at_call 7; refine (alive2_any _).mono ?_; rintro e w1 ⟨rfl, hb1⟩))
  go_loopw [4, 5, 6] (fun f l i wr => RelWalks s w1.heap.size W wr f l i) (fun _ _ i _ => s.size - (intOf i).toNat)
  case atStart => exact ⟨0, 0, 0, 0, 0, by omega, by omega, by simp, rfl, rfl, rfl, fun _ => rfl, stU_zero, rfl, Own.fresh _ _ _, hb1.alloc hb1.size _⟩
  case round =>
    obtain ⟨j, k, sg, lf, x, hjk, hk, hjl, rfl, rfl, rfl, hla, hst, hinv, hown, hbel⟩ := hrel
    have z1 := hb1.size
    by_cases hlt : k < s.size
    · have hl : k < s.data.toList.length := hlt
      have hp := part_snoc s j k hjk hlt
      have hkj : j ≤ k + 1 := by omega
      have hks : k + 1 ≤ s.size := by omega
      by_cases hok : okU sg lf s[k].toNat = true
      · have hst' := stU_step hst (Int.natCast_nonneg _) hok
        have hinv' := invL_step hinv hok
        have HOK := Lib.hid hok
        have hv0 : 0 ≤ sgU sg lf s[k].toNat := hst'.1
        have hv9 : sgU sg lf s[k].toNat ≤ 1114111 := by unfold StU at hst'; omega
        have hr0 : 0 ≤ lfU lf s[k].toNat := by unfold StU at hst'; omega
        have HSt := Lib.hid hst
        by_cases hz : lfU lf s[k].toNat = 0
        · have HB := Lib.hid (fun w => rbegins_step _ _ _ _ _ hp hinv w (x := true) (y := true) (z := sgU sg lf s[k].toNat) (by unfold ansU; rw [if_pos hok, if_pos hz]))
          have HS := Lib.hid (fun w (h : Own w w1.heap.size 24 #[.int .i32 sg, .int .i64 lf]) => step_yes _ _ sg lf w h hst (Int.natCast_nonneg s[k].toNat) hok)
          rw [hz] at HS hst' hinv'
          rw [if_pos rfl] at hinv'
          have HI := Lib.hid hinv'
          have HJ := Lib.hid hjl
          have HLa := Lib.hid hla
          have HSt' := Lib.hid hst'
          clear hinv' hinv hjl hp hok hz hla hst' hst hr0
          generalize sgU sg lf s[k].toNat = v at *
          go_wp2_with (first
            | (go_at_call 8; refine (HB.out _).mono ?_; rintro e w2 ⟨rfl, hb2⟩; have hown2 := hown.stay hb2 hown.inside)
            | (go_at_call 9; refine (HS.out _ hown2).mono ?_; rintro e w3 ⟨rfl, hown3, ht3⟩)
            | (go_at_call 10; refine (within_any _ _ _ _ hown3).mono ?_; rintro e w4 ⟨rfl, rfl⟩)
            | (go_at_call 11; refine (sign_any _ _ _ _ hown3).mono ?_; rintro e w4 ⟨rfl, rfl⟩))
          go_roundw
          case rel => exact ⟨k + 1, k + 1, v, 0, v, Nat.le_refl _, hlt, by simp, by go_num, by go_num, rfl, fun _ => rfl, HSt'.out, (by rw [List.drop_of_length_le (by simp; omega)]; exact HI.out), hown3, (hbel.trans (hb2.mono hbel.size)).trans (ht3.below z1 (by have := hown2.inside; omega))⟩
          case measure => simp [intOf]; omega
        · have hr1 : 0 < lfU lf s[k].toNat := by omega
          have HB := Lib.hid (fun w => rbegins_step _ _ _ _ _ hp hinv w (x := true) (y := false) (z := 0) (by unfold ansU; rw [if_pos hok, if_neg hz]))
          have HS := Lib.hid (fun w (h : Own w w1.heap.size 24 #[.int .i32 sg, .int .i64 lf]) => step_yes _ _ sg lf w h hst (Int.natCast_nonneg s[k].toNat) hok)
          rw [if_neg hz] at hinv'
          have HI := Lib.hid hinv'
          have HZ := Lib.hid hz
          have HJ := Lib.hid hjl
          have HLa := Lib.hid hla
          have HSt' := Lib.hid hst'
          clear hinv' hinv hjl hp hok hz hla hst' hst hr0
          generalize sgU sg lf s[k].toNat = v at *
          generalize lfU lf s[k].toNat = r at *
          go_wp2_with (first
            | (go_at_call 8; refine (HB.out _).mono ?_; rintro e w2 ⟨rfl, hb2⟩; have hown2 := hown.stay hb2 hown.inside)
            | (go_at_call 9; refine (HS.out _ hown2).mono ?_; rintro e w3 ⟨rfl, hown3, ht3⟩)
            | (go_at_call 10; refine (within_any _ _ _ _ hown3).mono ?_; rintro e w4 ⟨rfl, rfl⟩)
            | (go_at_call 11; refine (sign_any _ _ _ _ hown3).mono ?_; rintro e w4 ⟨rfl, rfl⟩))
          go_roundw
          case rel => exact ⟨j, k + 1, v, r, x, hkj, hlt, ⟨fun e => by omega, fun e => absurd e HZ.out⟩, rfl, by go_num, rfl, fun e => absurd e HZ.out, HSt'.out, (by rw [List.take_succ_eq_append_getElem hl, List.drop_append_of_le_length (by simp; omega)]; exact HI.out), hown3, (hbel.trans (hb2.mono hbel.size)).trans (ht3.below z1 (by have := hown2.inside; omega))⟩
          case measure => simp [intOf]; omega
      · have HB := Lib.hid (fun w => rbegins_step _ _ _ _ _ hp hinv w (x := false) (y := false) (z := 0) (by unfold ansU; rw [if_neg hok]))
        have HS := Lib.hid (fun w (h : Own w w1.heap.size 24 #[.int .i32 sg, .int .i64 lf]) => step_no _ s[k].toNat sg lf w h (by simpa using hok))
        by_cases hz : lf = 0
        · obtain rfl : j = k := hjl.2 hz
          obtain rfl : x = sg := hla hz
          subst hz
          have hv0 : 0 ≤ x := hst.1
          have hv9 : x ≤ 1114111 := by unfold StU at hst; omega
          clear hinv hjl hp hok hla hst
          go_wp2_with (first
            | (go_at_call 8; refine (HB.out _).mono ?_; rintro e w2 ⟨rfl, hb2⟩; have hown2 := hown.stay hb2 hown.inside)
            | (go_at_call 9; refine (HS.out _ hown2).mono ?_; rintro e w3 ⟨rfl, rfl⟩)
            | (go_at_call 10; refine (within_any _ _ _ _ hown2).mono ?_; rintro e w4 ⟨rfl, rfl⟩)
            | (go_at_call 11; refine (sign_any _ _ _ _ hown2).mono ?_; rintro e w4 ⟨rfl, rfl⟩))
          go_ret
          exact ⟨rfl, hbel.trans (hb2.mono hbel.size)⟩
        · have hjlt : j < k := by
            have : j ≠ k := fun e => hz (hjl.1 e)
            omega
          have hl0 : 0 < lf := by unfold StU at hst; omega
          clear hinv hjl hp hok hla hst hz
          go_wp2_with (first
            | (go_at_call 8; refine (HB.out _).mono ?_; rintro e w2 ⟨rfl, hb2⟩; have hown2 := hown.stay hb2 hown.inside)
            | (go_at_call 9; refine (HS.out _ hown2).mono ?_; rintro e w3 ⟨rfl, rfl⟩)
            | (go_at_call 10; refine (within_any _ _ _ _ hown2).mono ?_; rintro e w4 ⟨rfl, rfl⟩)
            | (go_at_call 11; refine (sign_any _ _ _ _ hown2).mono ?_; rintro e w4 ⟨rfl, rfl⟩))
          go_ret
          exact ⟨rfl, hbel.trans (hb2.mono hbel.size)⟩
    · clear hjl hla hinv
      go_wp2
      go_ret
      exact ⟨rfl, hbel⟩

end Go.Proofs.Ytcnhlcnkefnghaa
