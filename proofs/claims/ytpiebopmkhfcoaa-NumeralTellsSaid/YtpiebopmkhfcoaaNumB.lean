/- The contracts of numeral's Walk, Is, Fault and Count. -/
import Derived.Test.YtpiebopmkhfcoaaNum
namespace Go.Proofs.Ytpiebopmkhfcoaa
open Go.RowKit

set_option maxHeartbeats 400000 in
theorem nwhole_any (b : Nat) (a : Int) (w : World) (h : Own w b 24 #[.int .i64 a]) (ha : StA a) :
    Calls Try.prog 7 #[.pointer (some ⟨b, 0, none⟩)] w fun e w' => e = .returned (.bool (whI a)) ∧ w = w' := by
  have c0 := h.at 0
  simp at c0
  have HW := Lib.hid (whole_in a ha)
  go_enter Try.func7, Try.ntmps7
  go_wp2_with (go_at_call 16; refine (HW.out _).mono ?_; rintro e w' ⟨rfl, rfl⟩)
  go_ret
  exact ⟨rfl, rfl⟩

set_option maxHeartbeats 1000000 in
theorem nstep_goes (b : Nat) (c a : Int) (w : World) (h : Own w b 24 #[.int .i64 a]) (ha : StA a) (hc : nxI a c ≠ 0) :
    Calls Try.prog 9 #[.pointer (some ⟨b, 0, none⟩), .int .u8 c] w fun e w' => e = .returned (.int .i64 0) ∧ Own w' b 24 #[.int .i64 (nxI a c)] ∧ Turned b w w' := by
  have c0 := h.at 0
  have f0 := h.free 0
  simp at c0
  have HB := Lib.hid (behind_in a c ha)
  have hc' : (nxI a c == 0) = false := beq_eq_false_iff_ne.2 hc
  generalize nxI a c = x at *
  go_enter Try.func9, Try.ntmps9
  go_wp2_with (go_at_call 19; refine (HB.out _).mono ?_; rintro e w' ⟨rfl, rfl⟩)
  go_ret
  exact ⟨rfl, by simpa using h.put 0 (.int .i64 x), (Turned.refl b w).put 0 _⟩

set_option maxHeartbeats 1000000 in
theorem nstep_stays (b : Nat) (c a : Int) (w : World) (h : Own w b 24 #[.int .i64 a]) (ha : StA a) (hc : nxI a c = 0) :
    Calls Try.prog 9 #[.pointer (some ⟨b, 0, none⟩), .int .u8 c] w fun e w' => e = .returned (.int .i64 (anI a c)) ∧ w = w' := by
  have c0 := h.at 0
  simp at c0
  have hb := behind_in a c ha
  rw [hc] at hb
  have HB := Lib.hid hb
  have HN := Lib.hid (fun w hw => nwhole_any b a w hw ha)
  have HK := Lib.hid (sticks_any c)
  have HV := Lib.hid (show anI a c = if whI a && !stickI c then 1 else 2 by unfold anI; rw [if_neg (by simp [hc])])
  clear hc hb
  generalize whI a = x at *
  generalize stickI c = y at *
  cases x <;> cases y
  all_goals
    go_enter Try.func9, Try.ntmps9
    go_wp2_with (first
      | (go_at_call 19; refine (HB.out _).mono ?_; rintro e w' ⟨rfl, rfl⟩)
      | (go_at_call 7; refine (HN.out _ h).mono ?_; rintro e w' ⟨rfl, rfl⟩)
      | (go_at_call 20; refine (HK.out _).mono ?_; rintro e w' ⟨rfl, rfl⟩))
    go_ret
    exact ⟨ret_i (by rw [HV.out]; rfl), rfl⟩

def fRun (a : Int) : List UInt8 → Int → Int
  | [], k => if whI a then -1 else k
  | c :: t, k => if nxI a c.toNat = 0 then k else fRun (nxI a c.toNat) t (k + 1)
def cRun (a : Int) : List UInt8 → Int → Int → Int
  | [], _, n => n
  | c :: t, k, n => if nxI a c.toNat = 0 then n else cRun (nxI a c.toNat) t (k + 1) (if whI (nxI a c.toNat) then k + 1 else n)

theorem fRun_cons (a : Int) (l : List UInt8) (k : Nat) (h : k < l.length) (n : Int) :
    fRun a (l.drop k) n = if nxI a l[k].toNat = 0 then n else fRun (nxI a l[k].toNat) (l.drop (k + 1)) (n + 1) := by
  rw [List.drop_eq_getElem_cons h]; rfl
theorem cRun_cons (a : Int) (l : List UInt8) (k : Nat) (h : k < l.length) (n m : Int) :
    cRun a (l.drop k) n m = if nxI a l[k].toNat = 0 then m else cRun (nxI a l[k].toNat) (l.drop (k + 1)) (n + 1) (if whI (nxI a l[k].toNat) then n + 1 else m) := by
  rw [List.drop_eq_getElem_cons h]; rfl
theorem stA_zero : StA 0 := by unfold StA; omega

/-- Where Fault's loop is. -/
def RelFault (s : ByteArray) (W wr : World) (i : Value) : Prop :=
  ∃ (k : Nat) (a : Int), k ≤ s.size ∧ i = .int .i64 k ∧ StA a ∧ Own wr W.heap.size 24 #[.int .i64 a] ∧ Below W.heap.size W wr ∧ fRun 0 s.data.toList 0 = fRun a (s.data.toList.drop k) k

set_option maxHeartbeats 1000000 in
theorem fault_any (s : ByteArray) (W : World) (hs : s.size ≤ maxLen) :
    Calls Try.prog 12 #[.string s] W fun e w' => e = .returned (.int .i64 (fRun 0 s.data.toList 0)) ∧ Below W.heap.size W w' := by
  unfold maxLen at hs
  go_enter Try.func12, Try.ntmps12
  go_wp2
  go_loopw [7] (fun i wr => RelFault s W wr i) (fun i _ => s.size - (intOf i).toNat)
  case atStart => exact ⟨0, 0, Nat.zero_le _, rfl, stA_zero, Own.fresh _ _ _, (Below.refl _ _).alloc (Nat.le_refl _) _, rfl⟩
  case round =>
    obtain ⟨k, a, hk, rfl, hst, hown, hbel, hrun⟩ := hrel
    by_cases hlt : k < s.size
    · have hl : k < s.data.toList.length := hlt
      rw [fRun_cons _ _ _ hl] at hrun
      have hc : s.data.toList[k] = s[k] := rfl
      rw [hc] at hrun
      by_cases hok : nxI a s[k].toNat = 0
      · rw [if_pos hok] at hrun
        have HS := Lib.hid (nstep_stays _ _ a _ hown hst hok)
        have han : anI a s[k].toNat ≠ 0 := by
          unfold anI
          rw [if_neg (by simp [hok])]
          split <;> omega
        have han' : (anI a s[k].toNat == 0) = false := beq_eq_false_iff_ne.2 han
        have HR := Lib.hid hrun
        clear hrun hok hc han
        generalize anI a s[k].toNat = x at *
        go_wp2_with (go_at_call 9; refine HS.out.mono ?_; rintro e w' ⟨rfl, rfl⟩)
        go_ret
        exact ⟨ret_i HR.out.symm, hbel⟩
      · rw [if_neg hok] at hrun
        have HS := Lib.hid (nstep_goes _ _ a _ hown hst hok)
        have HR := Lib.hid hrun
        clear hrun hok hc
        go_wp2_with (go_at_call 9; refine HS.out.mono ?_; rintro e w' ⟨rfl, hown', htu⟩)
        go_roundw
        case rel => exact ⟨k + 1, _, hlt, by go_num, stA_next _ _, hown', hbel.trans (htu.below (Nat.le_refl _) hbel.size), HR.out⟩
        case measure => simp [intOf]; omega
    · obtain rfl : k = s.size := by omega
      rw [show s.data.toList.drop s.size = [] from List.drop_of_length_le (Nat.le_refl _)] at hrun
      have HW := Lib.hid (nwhole_any _ a _ hown hst)
      have HR := Lib.hid (show fRun 0 s.data.toList 0 = if whI a then -1 else (s.size : Int) from hrun)
      clear hrun
      generalize whI a = x at *
      cases x
      all_goals
        go_wp2_with (go_at_call 7; refine HW.out.mono ?_; rintro e w' ⟨rfl, rfl⟩)
        go_ret
        exact ⟨ret_i (by rw [HR.out]; rfl), hbel⟩

theorem fRun_ge (l : List UInt8) : ∀ (a k : Int), 0 ≤ k → (-1 ≤ fRun a l k ∧ fRun a l k ≤ k + l.length) := by
  induction l with
  | nil => intro a k h; show -1 ≤ (if whI a then -1 else k) ∧ (if whI a then -1 else k) ≤ _; split <;> simp <;> omega
  | cons c t ih =>
    intro a k h
    show -1 ≤ (if nxI a c.toNat = 0 then k else fRun _ t (k + 1)) ∧ (if nxI a c.toNat = 0 then k else fRun _ t (k + 1)) ≤ k + ((c :: t).length : Int)
    have e : ((c :: t).length : Int) = t.length + 1 := by simp
    rw [e]
    split
    · omega
    · have := ih (nxI a c.toNat) (k + 1) (by omega)
      omega

theorem fRun_neg (l : List UInt8) : ∀ (a k : Int), 0 ≤ k → decide (fRun a l k < 0) = acc a l := by
  induction l with
  | nil => intro a k h; show decide ((if whI a then -1 else k) < 0) = whI a; cases whI a <;> simp; omega
  | cons c t ih =>
    intro a k h
    show decide ((if nxI a c.toNat = 0 then k else fRun _ t (k + 1)) < 0) = (if nxI a c.toNat = 0 then false else acc _ t)
    split
    · simp; omega
    · exact ih _ _ (by omega)

set_option maxHeartbeats 1000000 in
theorem is_any (s : ByteArray) (W : World) (hs : s.size ≤ maxLen) :
    Calls Try.prog 11 #[.string s] W fun e w' => e = .returned (.bool (isR s.data.toList)) ∧ Below W.heap.size W w' := by
  have HF := Lib.hid (fault_any s W hs)
  have HN := Lib.hid ((fRun_neg s.data.toList 0 0 (Int.le_refl _)).trans (acc0 _))
  generalize isR s.data.toList = x at *
  generalize fRun 0 s.data.toList 0 = v at *
  go_enter Try.func11, Try.ntmps11
  go_wp2_with (go_at_call 12; refine HF.out.mono ?_; rintro e w' ⟨rfl, hb⟩)
  go_ret
  exact ⟨ret_b HN.out, hb⟩

def RelCount (s : ByteArray) (W wr : World) (m i : Value) : Prop :=
  ∃ (k : Nat) (a : Int) (n : Nat), k ≤ s.size ∧ n ≤ k ∧ i = .int .i64 k ∧ m = .int .i64 n ∧ StA a ∧ Own wr W.heap.size 24 #[.int .i64 a] ∧ Below W.heap.size W wr ∧ cRun 0 s.data.toList 0 0 = cRun a (s.data.toList.drop k) k n

set_option maxHeartbeats 1000000 in
theorem count_any (s : ByteArray) (W : World) (hs : s.size ≤ maxLen) :
    Calls Try.prog 14 #[.string s] W fun e w' => e = .returned (.int .i64 (cRun 0 s.data.toList 0 0)) ∧ Below W.heap.size W w' := by
  unfold maxLen at hs
  go_enter Try.func14, Try.ntmps14
  go_wp2
  go_loopw [4, 8] (fun m i wr => RelCount s W wr m i) (fun _ i _ => s.size - (intOf i).toNat)
  case atStart => exact ⟨0, 0, 0, Nat.zero_le _, Nat.le_refl _, rfl, rfl, stA_zero, Own.fresh _ _ _, (Below.refl _ _).alloc (Nat.le_refl _) _, rfl⟩
  case round =>
    obtain ⟨k, a, n, hk, hn, rfl, rfl, hst, hown, hbel, hrun⟩ := hrel
    by_cases hlt : k < s.size
    · have hl : k < s.data.toList.length := hlt
      rw [cRun_cons _ _ _ hl] at hrun
      have hc : s.data.toList[k] = s[k] := rfl
      rw [hc] at hrun
      by_cases hok : nxI a s[k].toNat = 0
      · rw [if_pos hok] at hrun
        have HS := Lib.hid (nstep_stays _ _ a _ hown hst hok)
        have han : anI a s[k].toNat ≠ 0 := by
          unfold anI
          rw [if_neg (by simp [hok])]
          split <;> omega
        have han' : (anI a s[k].toNat == 0) = false := beq_eq_false_iff_ne.2 han
        have HR := Lib.hid hrun
        clear hrun hok hc han
        generalize anI a s[k].toNat = x at *
        go_wp2_with (go_at_call 9; refine HS.out.mono ?_; rintro e w' ⟨rfl, rfl⟩)
        go_ret
        exact ⟨ret_i HR.out.symm, hbel⟩
      · rw [if_neg hok] at hrun
        have HS := Lib.hid (nstep_goes _ _ a _ hown hst hok)
        have hst' := stA_next a s[k].toNat
        have HN := Lib.hid (fun w hw => nwhole_any W.heap.size _ w hw hst')
        have HR := Lib.hid hrun
        clear hrun hok hc
        generalize nxI a s[k].toNat = y at *
        generalize whI y = x at *
        cases x
        · go_wp2_with (first
            | (go_at_call 9; refine HS.out.mono ?_; rintro e w' ⟨rfl, hown', htu⟩)
            | (go_at_call 7; refine (HN.out _ hown').mono ?_; rintro e w'' ⟨rfl, rfl⟩))
          go_roundw
          case rel => exact ⟨k + 1, _, n, hlt, by omega, by go_num, rfl, hst', hown', hbel.trans (htu.below (Nat.le_refl _) hbel.size), HR.out⟩
          case measure => simp [intOf]; omega
        · go_wp2_with (first
            | (go_at_call 9; refine HS.out.mono ?_; rintro e w' ⟨rfl, hown', htu⟩)
            | (go_at_call 7; refine (HN.out _ hown').mono ?_; rintro e w'' ⟨rfl, rfl⟩))
          go_roundw
          case rel => exact ⟨k + 1, _, k + 1, hlt, Nat.le_refl _, by go_num, by go_num, hst', hown', hbel.trans (htu.below (Nat.le_refl _) hbel.size), HR.out⟩
          case measure => simp [intOf]; omega
    · obtain rfl : k = s.size := by omega
      rw [show s.data.toList.drop s.size = [] from List.drop_of_length_le (Nat.le_refl _)] at hrun
      have HR := Lib.hid hrun
      clear hrun
      go_wp2
      go_ret
      exact ⟨ret_i (by rw [HR.out]; rfl), hbel⟩

end Go.Proofs.Ytpiebopmkhfcoaa
