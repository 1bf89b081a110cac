/- The document's number (riffleref13). -/
import Derived.Test.YtgcknlfpedanpaaDoorJ08
namespace Go.Proofs.YtgcknlfpedanpaaDoor
open Go.RowKit
set_option linter.unusedVariables false

theorem digB_is (c : UInt8) : isDigitI c.toNat = digB c := by
  unfold isDigitI digB
  by_cases h : 48 ≤ c.toNat ∧ c.toNat ≤ 57
  · rw [decide_eq_true h, decide_eq_true (by omega)]
  · rw [decide_eq_false h, decide_eq_false (by omega)]
/-- Where number's loop is. -/
def RelNu (s : ByteArray) (W : World) (n v : Value) (wr : World) : Prop :=
  ∃ k u : Nat, k ≤ s.size ∧ k ≤ 16 ∧ n = .int .i64 k ∧ v = .int .i64 u ∧ u < 10 ^ k ∧ numGo 16 s.data.toList 0 0 = numGo (16 - k) (s.data.toList.drop k) u k ∧ wr = W
theorem pow_step {u k d : Nat} (h : u < 10 ^ k) (hd : d < 10) : u * 10 + d < 10 ^ (k + 1) := by rw [Nat.pow_succ]; omega
theorem pow_le {k : Nat} (h : k ≤ 16) : 10 ^ k ≤ 10000000000000000 := by
  have := Nat.pow_le_pow_right (show 0 < 10 by decide) h
  simpa using this

set_option maxRecDepth 100000 in
set_option maxHeartbeats 8000000 in
theorem number13_any (s : ByteArray) (W : World) (h9 : s.size ≤ 1000) :
    Calls Tryd.prog 27 #[.string s] W fun e w' => e = .returned (.tuple #[.int .i64 (numM s.data.toList).1, .int .i64 (numM s.data.toList).2]) ∧ w' = W := by
  have hsl : s.data.toList.length = s.size := rfl
  go_enter Tryd.func27, Tryd.ntmps27
  go_upto_block 0 with fail
  go_cut [4, 5] from 6 to 29 (fun n v wc => ∃ k u : Nat, k ≤ s.size ∧ k ≤ 16 ∧ n = .int .i64 k ∧ v = .int .i64 u ∧ u < 10 ^ k ∧ numGo 16 s.data.toList 0 0 = (u, k, s.data.toList.drop k) ∧ wc = W)
  case first =>
    go_wp2
    go_loopw [4, 5] (fun n v wr => RelNu s W n v wr) (fun n _ _ => 17 - (intOf n).toNat)
    case atStart => exact ⟨0, 0, by omega, by omega, rfl, rfl, by decide, rfl, rfl⟩
    case round =>
      obtain ⟨k, u, hk, hk16, rfl, rfl, hu, hrun, rfl⟩ := hrel
      have hkI : (k : Int) ≤ 16 := by omega
      by_cases hlt : k < s.size
      · have hl : k < s.data.toList.length := hlt
        have HD := Lib.hid (fun w => rdigit_any s[k].toNat w)
        rw [digB_is] at HD
        rw [List.drop_eq_getElem_cons hl, show s.data.toList[k] = s[k] from rfl] at hrun
        by_cases hd : digB s[k] = true
        · rw [hd] at HD
          have hdd : 48 ≤ s[k].toNat ∧ s[k].toNat ≤ 57 := of_decide_eq_true hd
          by_cases h16 : k < 16
          · have hp := pow_le (show k ≤ 16 by omega)
            have hu2 := pow_step (d := s[k].toNat - 48) hu (by omega)
            rw [show 16 - k = (16 - (k + 1)) + 1 by omega, numGo_cons, if_pos hd] at hrun
            have HU := Lib.hid hu2
            have HR := Lib.hid hrun
            have h16I : (k : Int) < 16 := by omega
            have huI : (u : Int) ≤ 10000000000000000 := by omega
            have c1 : 48 ≤ (s[k].toNat : Int) := by omega
            have c2 : (s[k].toNat : Int) ≤ 57 := by omega
            clear hrun hu hp hu2 hd hdd hsl
            go_wp2_with (go_at_call 41; refine (HD.out _).mono ?_; rintro e w' ⟨rfl, rfl⟩)
            go_roundw
            case rel => exact ⟨k + 1, u * 10 + (s[k].toNat - 48), by omega, by omega, by go_num, by go_num, HU.out, HR.out, rfl⟩
            case measure => simp [intOf]; omega
          · have h16I : ¬ (k : Int) < 16 := by omega
            have HR := Lib.hid (show numGo 16 s.data.toList 0 0 = (u, k, s.data.toList.drop k) by
              rw [hrun, show 16 - k = 0 by omega, List.drop_eq_getElem_cons hl]
              rfl)
            have HU := Lib.hid hu
            clear hrun hu hd hdd hsl
            go_wp2_with (go_at_call 41; refine (HD.out _).mono ?_; rintro e w' ⟨rfl, rfl⟩)
            go_meet
            case rel => exact ⟨k, u, hk, hk16, rfl, rfl, HU.out, HR.out, rfl⟩
        · have hdf := Bool.eq_false_iff.2 hd
          rw [hdf] at HD
          have HR := Lib.hid (show numGo 16 s.data.toList 0 0 = (u, k, s.data.toList.drop k) by
            rw [hrun, List.drop_eq_getElem_cons hl]
            cases hf : 16 - k with
            | zero => rfl
            | succ g => rw [numGo_cons, if_neg hd]; rfl)
          have HU := Lib.hid hu
          clear hrun hu hd hdf hsl
          go_wp2_with (go_at_call 41; refine (HD.out _).mono ?_; rintro e w' ⟨rfl, rfl⟩)
          go_meet
          case rel => exact ⟨k, u, hk, hk16, rfl, rfl, HU.out, HR.out, rfl⟩
      · have hltI : ¬ (k : Int) < s.size := by omega
        have HR := Lib.hid (show numGo 16 s.data.toList 0 0 = (u, k, s.data.toList.drop k) by
          rw [hrun, List.drop_of_length_le (by rw [hsl]; omega)]
          cases (16 - k) <;> rfl)
        have HU := Lib.hid hu
        clear hrun hu hsl
        go_wp2
        go_meet
        case rel => exact ⟨k, u, hk, hk16, rfl, rfl, HU.out, HR.out, rfl⟩
  case rest =>
  obtain ⟨k, u, hk, hk16, rfl, rfl, hu, hrun, rfl⟩ := hcut
  have hkI : (k : Int) ≤ 16 := by omega
  have hp := pow_le hk16
  have huI : (u : Int) ≤ 10000000000000000 := by omega
  have hM : numM s.data.toList = if (k > 1 ∧ s.data.toList.head? = some 48) ∨ u > 9007199254740991 ∨ (∃ c, (s.data.toList.drop k).head? = some c ∧ digB c = true) then (0, 0) else (u, k) := by
    unfold numM
    simp only [hrun]
  by_cases h1 : k > 1 ∧ s.data.toList.head? = some 48
  · have HM := Lib.hid (hM.trans (if_pos (.inl h1)))
    have h0 : 0 < s.size := by omega
    have hh := h1.2
    rw [head_is s h0] at hh
    have hh : s[0] = 48 := by simpa using hh
    have q1 : (k : Int) > 1 := by omega
    have q2 : ((s[0].toNat : Int) == 48) = true := by rw [hh]; rfl
    clear hM h1 hh hrun hsl hu hp
    go_wp2
    go_ret2
    rw [HM.out]
    exact ⟨rfl, rfl⟩
  have hway : (¬ (k : Int) > 1) ∨ (∃ h0 : 0 < s.size, (k : Int) > 1 ∧ ((s[0].toNat : Int) == 48) = false) := by
    by_cases hk1 : k > 1
    · have h0 : 0 < s.size := by omega
      refine .inr ⟨h0, by omega, beq_eq_false_iff_ne.2 fun e => h1 ⟨hk1, ?_⟩⟩
      rw [head_is s h0]
      have : s[0] = 48 := UInt8.toNat_inj.1 (by rw [show ((48 : UInt8).toNat) = 48 from rfl]; omega)
      rw [this]
      rfl
    · exact .inl (by omega)
  by_cases h2 : u > 9007199254740991
  · have HM := Lib.hid (hM.trans (if_pos (.inr (.inl h2))))
    have q3 : (u : Int) > 9007199254740991 := by omega
    clear hM h1 h2 hrun hsl hu hp
    rcases hway with q1 | ⟨h0, q1, q2⟩
    all_goals
      go_wp2
      go_ret2
      rw [HM.out]
      exact ⟨rfl, rfl⟩
  have q3 : ¬ (u : Int) > 9007199254740991 := by omega
  by_cases hlt : k < s.size
  · have hl : k < s.data.toList.length := hlt
    have hhk : (s.data.toList.drop k).head? = some s[k] := by rw [List.drop_eq_getElem_cons hl]; rfl
    have HD := Lib.hid (fun w => rdigit_any s[k].toNat w)
    rw [digB_is] at HD
    have q4 : (k : Int) < s.size := by omega
    by_cases hd : digB s[k] = true
    · have HM := Lib.hid (hM.trans (if_pos (.inr (.inr ⟨_, hhk, hd⟩))))
      rw [hd] at HD
      clear hM h1 h2 hrun hsl hu hp hhk hd
      rcases hway with q1 | ⟨h0, q1, q2⟩
      all_goals
        go_wp2_with (go_at_call 41; refine (HD.out _).mono ?_; rintro e w' ⟨rfl, rfl⟩)
        go_ret2
        rw [HM.out]
        exact ⟨rfl, rfl⟩
    · have HM := Lib.hid (hM.trans (if_neg (by
        rintro (h | h | ⟨c, hc1, hc2⟩)
        · exact h1 h
        · exact h2 h
        · rw [hhk] at hc1
          injection hc1 with hc1
          rw [← hc1] at hc2
          exact hd hc2)))
      rw [Bool.eq_false_iff.2 hd] at HD
      clear hM h1 h2 hrun hsl hu hp hhk hd
      rcases hway with q1 | ⟨h0, q1, q2⟩
      all_goals
        go_wp2_with (go_at_call 41; refine (HD.out _).mono ?_; rintro e w' ⟨rfl, rfl⟩)
        go_ret2
        rw [HM.out]
        exact ⟨rfl, rfl⟩
  · have HM := Lib.hid (hM.trans (if_neg (by
      rintro (h | h | ⟨c, hc1, hc2⟩)
      · exact h1 h
      · exact h2 h
      · rw [List.drop_of_length_le (by rw [hsl]; omega)] at hc1
        cases hc1)))
    have q4 : ¬ (k : Int) < s.size := by omega
    clear hM h1 h2 hrun hsl hu hp
    rcases hway with q1 | ⟨h0, q1, q2⟩
    all_goals
      go_wp2
      go_ret2
      rw [HM.out]
      exact ⟨rfl, rfl⟩

end Go.Proofs.YtgcknlfpedanpaaDoor
