/- The contracts of the document's Begins, as a walk's state says it, and Bad (riffleref02): as XRef02C, without package utf (for the layers above 2). -/
import Derived.Test.YtjnllbgkgdehaaaRef02B
import Derived.Outline
namespace Go.Proofs.Ytjnllbgkgdehaaa
open Go.RowKit

set_option maxRecDepth 100000 in
set_option maxHeartbeats 400000 in
theorem rbegins_zero (s : ByteArray) (W : World) (h1 : 0 < s.size) (hr : sizeR s[0].toNat = 0) :
    Calls Try.prog 13 #[.string s] W fun e w' => e = .returned (.tuple #[.bool false, .bool false, .int .i64 0]) ∧ W = w' := by
  have hs1 := fun w => rsize_any s[0].toNat w
  rw [hr] at hs1
  have HS := Lib.hid hs1
  clear hs1 hr
  go_enter Try.func13, Try.ntmps13
  go_wp2_with (first | (go_at_call 23; refine (HS.out _).mono ?_; rintro e w' ⟨rfl, rfl⟩))
  go_ret3
  exact ⟨rfl, rfl⟩

theorem rbegins_step (t : ByteArray) (l : List UInt8) (c : UInt8) (sg lf : Int) (ht : t.data.toList = l ++ [c]) (h : InvL l sg lf) (W : World) {x y : Bool} {z : Int} (hv : ansU sg lf c.toNat = (x, y, z)) :
    Calls Try.prog 13 #[.string t] W fun e w' => e = .returned (.tuple #[.bool x, .bool y, .int .i64 z]) ∧ Below W.heap.size W w' := by
  have hs : t.size = (l ++ [c]).length := by rw [← ht]; rfl
  have h1 : 0 < t.size := by rw [hs]; simp
  obtain ⟨r, hr⟩ := cons_of t h1
  have hb := beg_any l c sg lf h
  rw [← ht, hv] at hb
  rcases invL_size h t[0] r (by rw [← ht, hr]) with ⟨n, hn, hl, hz⟩ | hz
  · have := rbegins_core t W n hn h1 (by rw [hs]; exact hl) hz
    rw [hb] at this
    exact this
  · have e := begR_zero t[0] r hz
    rw [← hr, hb] at e
    simp only [Prod.mk.injEq] at e
    obtain ⟨rfl, rfl, rfl⟩ := e
    exact (rbegins_zero t W h1 hz).mono fun e w' ⟨he, hw⟩ => ⟨he, hw ▸ Below.refl _ _⟩

theorem part_snoc (s : ByteArray) (j k : Nat) (hjk : j ≤ k) (hk : k < s.size) : (s.extract j (k + 1)).data.toList = (s.data.toList.take k).drop j ++ [s[k]] := by
  have hl : k < s.data.toList.length := hk
  rw [ByteArray.data_extract, Array.toList_extract, List.extract_eq_take_drop]
  rw [show s[k] = s.data.toList[k] from rfl, ← List.drop_append_of_le_length (by simp; omega), ← List.take_succ_eq_append_getElem hl, List.drop_take]

/-- Where Bad's loop is: the last sign's end, and the state. -/
def RelRBad (s : ByteArray) (W wr : World) (fr i : Value) : Prop :=
  ∃ (j k : Nat) (sg lf : Int), j ≤ k ∧ k ≤ s.size ∧ (j = k ↔ lf = 0) ∧ fr = .int .i64 j ∧ i = .int .i64 k ∧ StU sg lf ∧ InvL ((s.data.toList.take k).drop j) sg lf ∧ Below W.heap.size W wr ∧ badU s.data.toList = runU sg lf (s.data.toList.drop k) k

set_option maxRecDepth 100000 in
set_option maxHeartbeats 1000000 in
theorem rbad_any (s : ByteArray) (W : World) (hs : s.size ≤ maxLen) :
    Calls Try.prog 9 #[.string s] W fun e w' => e = .returned (.int .i64 (badU s.data.toList)) ∧ Below W.heap.size W w' := by
  unfold maxLen at hs
  go_enter Try.func9, Try.ntmps9
  go_wp2
  go_loopw [3, 4] (fun f i wr => RelRBad s W wr f i) (fun _ i _ => s.size - (intOf i).toNat)
  case atStart => exact ⟨0, 0, 0, 0, by omega, by omega, by simp, rfl, rfl, stU_zero, rfl, Below.refl _ _, rfl⟩
  case round =>
    obtain ⟨j, k, sg, lf, hjk, hk, hjl, rfl, rfl, hst, hinv, hbel, hrun⟩ := hrel
    by_cases hlt : k < s.size
    · have hl : k < s.data.toList.length := hlt
      have hp := part_snoc s j k hjk hlt
      rw [runU_cons _ _ _ _ hl, show s.data.toList[k] = s[k] from rfl] at hrun
      have hkj : j ≤ k + 1 := by omega
      have hks : k + 1 ≤ s.size := by omega
      by_cases hok : okU sg lf s[k].toNat = true
      · have hst' := Lib.hid (stU_step hst (Int.natCast_nonneg _) hok)
        have hinv' := invL_step hinv hok
        rw [if_pos hok] at hrun
        by_cases hz : lfU lf s[k].toNat = 0
        · have HB := Lib.hid (fun w => rbegins_step _ _ _ _ _ hp hinv w (x := true) (y := true) (z := sgU sg lf s[k].toNat) (by unfold ansU; rw [if_pos hok, if_pos hz]))
          rw [if_pos hz] at hinv'
          have HI := Lib.hid hinv'
          have HRun := Lib.hid hrun
          have HZ := Lib.hid hz
          clear hinv' hinv hrun hjl hp hok hz
          go_wp2_with (go_at_call 13; refine (HB.out _).mono ?_; rintro e w' ⟨rfl, hb⟩)
          go_roundw
          case rel => exact ⟨k + 1, k + 1, _, _, Nat.le_refl _, hlt, by simp; exact HZ.out, by go_num, by go_num, hst'.out, (by rw [List.drop_of_length_le (by simp; omega)]; exact HI.out), hbel.trans (hb.mono hbel.size), HRun.out⟩
          case measure => simp [intOf]; omega
        · have HB := Lib.hid (fun w => rbegins_step _ _ _ _ _ hp hinv w (x := true) (y := false) (z := 0) (by unfold ansU; rw [if_pos hok, if_neg hz]))
          rw [if_neg hz] at hinv'
          have HI := Lib.hid hinv'
          have HRun := Lib.hid hrun
          have HZ := Lib.hid hz
          clear hinv' hinv hrun hjl hp hok hz
          go_wp2_with (go_at_call 13; refine (HB.out _).mono ?_; rintro e w' ⟨rfl, hb⟩)
          go_roundw
          case rel => exact ⟨j, k + 1, _, _, hkj, hlt, ⟨fun e => by omega, fun e => absurd e HZ.out⟩, rfl, by go_num, hst'.out, (by rw [List.take_succ_eq_append_getElem hl, List.drop_append_of_le_length (by simp; omega)]; exact HI.out), hbel.trans (hb.mono hbel.size), HRun.out⟩
          case measure => simp [intOf]; omega
      · have HB := Lib.hid (fun w => rbegins_step _ _ _ _ _ hp hinv w (x := false) (y := false) (z := 0) (by unfold ansU; rw [if_neg hok]))
        rw [if_neg hok] at hrun
        have HRun := Lib.hid hrun
        clear hinv hrun hjl hp hok
        go_wp2_with (go_at_call 13; refine (HB.out _).mono ?_; rintro e w' ⟨rfl, hb⟩)
        go_ret
        exact ⟨ret_i HRun.out.symm, hbel.trans (hb.mono hbel.size)⟩
    · obtain rfl : k = s.size := by omega
      rw [show s.data.toList.drop s.size = [] from List.drop_of_length_le (Nat.le_refl _)] at hrun
      have HR := Lib.hid hrun
      have hlf : 0 ≤ lf := by unfold StU at hst; omega
      have HJ := Lib.hid hjl
      clear hrun hinv hjl
      by_cases hj : j < s.size
      all_goals
        go_wp2
        go_ret
        exact ⟨ret_i (by rw [HR.out]; have := HJ.out; first | (rw [show runU sg lf [] s.size = if 0 < lf then (s.size : Int) else -1 from rfl, if_pos (by omega)]) | (rw [show runU sg lf [] s.size = if 0 < lf then (s.size : Int) else -1 from rfl, if_neg (by omega)])), hbel⟩

end Go.Proofs.Ytjnllbgkgdehaaa
