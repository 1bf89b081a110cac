/- The walk of NumeralParts. -/
import Derived.Test.YtpiebopmkhfcoaaLaw04
namespace Go.Proofs.Ytpiebopmkhfcoaa
open Go.RowKit

/-- A byte that leads nowhere from any place. -/
def Ending0 (x : UInt8) : Prop := ∀ a, nxI a x.toNat = 0
theorem ending_of (x : UInt8) (h : x = 44 ∨ x = 93 ∨ x = 125 ∨ x = 32 ∨ x = 10 ∨ x = 58) : Ending0 x := by
  intro a
  rcases h with rfl | rfl | rfl | rfl | rfl | rfl <;> (unfold nxI isDigitI; simp)

theorem fRun_end (x : UInt8) (hx : Ending0 x) (l : List UInt8) : ∀ (a k : Int), acc a l = true → fRun a (l ++ [x]) k = k + l.length := by
  induction l with
  | nil => intro a k h; show (if nxI a x.toNat = 0 then k else _) = _; rw [if_pos (hx a)]; simp
  | cons c t ih =>
    intro a k h
    rw [acc_cons] at h
    show (if nxI a c.toNat = 0 then k else fRun (nxI a c.toNat) (t ++ [x]) (k + 1)) = k + ((c :: t).length : Int)
    split at h
    · cases h
    · rename_i hn
      rw [if_neg hn, ih _ _ h]
      simp
      omega

theorem cRun_end (x : UInt8) (hx : Ending0 x) (m : List UInt8) (l : List UInt8) : ∀ (a k n : Int), acc a l = true → (whI a = true → n = k) → cRun a (l ++ x :: m) k n = k + l.length := by
  induction l with
  | nil =>
    intro a k n h hn
    show (if nxI a x.toNat = 0 then n else _) = _
    rw [if_pos (hx a), hn h]
    simp
  | cons c t ih =>
    intro a k n h hn
    rw [acc_cons] at h
    show (if nxI a c.toNat = 0 then n else cRun (nxI a c.toNat) (t ++ x :: m) (k + 1) (if whI (nxI a c.toNat) then k + 1 else n)) = k + ((c :: t).length : Int)
    split at h
    · cases h
    · rename_i hz
      rw [if_neg hz, ih _ _ _ h (fun e => by rw [if_pos e])]
      simp
      omega

theorem fRun_early (l : List UInt8) : ∀ (a k : Int), StA a → 0 ≤ k → fRun a l k = k + l.length → acc a (l ++ [49]) = true := by
  induction l with
  | nil =>
    intro a k ha hk h
    have h : (if whI a then -1 else k) = k + ((([] : List UInt8).length : Nat) : Int) := h
    have hw := wh_one a ha
    cases hh : whI a with
    | true => rw [hh] at h; simp at h; omega
    | false => rw [hh] at hw; exact hw
  | cons c t ih =>
    intro a k ha hk h
    have h : (if nxI a c.toNat = 0 then k else fRun (nxI a c.toNat) t (k + 1)) = k + ((c :: t).length : Int) := h
    have e : ((c :: t).length : Int) = t.length + 1 := by simp
    rw [e] at h
    show (if nxI a c.toNat = 0 then false else acc (nxI a c.toNat) (t ++ [49])) = true
    split at h
    · omega
    · rename_i hn
      rw [if_neg hn]
      exact ih _ (k + 1) (stA_next _ _) (by omega) (by omega)

/-- The six ends. -/
def endsV : List Value := [.string ⟨#[44]⟩, .string ⟨#[93]⟩, .string ⟨#[125]⟩, .string ⟨#[32]⟩, .string ⟨#[10]⟩, .string ⟨#[58]⟩]

/-- Where NumeralParts' loop is. -/
def RelNP (W w2 wr : World) (i : Value) : Prop :=
  ∃ j : Nat, j ≤ 6 ∧ i = .int .i64 j ∧ Own wr w2.heap.size 9 endsV.toArray ∧ Below W.heap.size W wr

theorem is_end (s : ByteArray) (x : UInt8) (hs : s.size ≤ 300) (hx : Ending0 x) (h : isR s.data.toList = true) (w : World) :
    Calls Try.prog 12 #[.string (s ++ ⟨#[x]⟩)] w fun e w' => e = .returned (.int .i64 s.size) ∧ Below w.heap.size w w' := by
  have hz : (ByteArray.mk #[x]).size = 1 := rfl
  have := fault_any (s ++ ⟨#[x]⟩) w (by rw [ByteArray.size_append, hz]; unfold maxLen; omega)
  rw [cat_data, show (ByteArray.mk #[x]).data.toList = [x] from rfl, fRun_end x hx _ 0 0 (by rw [acc0]; exact h)] at this
  rw [show (0 : Int) + (s.data.toList.length : Int) = s.size by rw [Int.zero_add]; rfl] at this
  exact this
theorem count_end (s : ByteArray) (x : UInt8) (hs : s.size ≤ 300) (hx : Ending0 x) (h : isR s.data.toList = true) (w : World) :
    Calls Try.prog 14 #[.string (s ++ ⟨#[x]⟩ ++ ⟨#[49]⟩)] w fun e w' => e = .returned (.int .i64 s.size) ∧ Below w.heap.size w w' := by
  have hz : (ByteArray.mk #[x]).size = 1 := rfl
  have hz' : (ByteArray.mk #[49]).size = 1 := rfl
  have := count_any (s ++ ⟨#[x]⟩ ++ ⟨#[49]⟩) w (by rw [ByteArray.size_append, ByteArray.size_append, hz, hz']; unfold maxLen; omega)
  rw [cat_data, cat_data, show (ByteArray.mk #[x]).data.toList = [x] from rfl, show (ByteArray.mk #[49]).data.toList = [49] from rfl, show s.data.toList ++ [x] ++ [49] = s.data.toList ++ x :: [49] by simp, cRun_end x hx _ _ 0 0 0 (by rw [acc0]; exact h) (fun e => by cases e)] at this
  rw [show (0 : Int) + (s.data.toList.length : Int) = s.size by rw [Int.zero_add]; rfl] at this
  exact this
theorem is_early (s : ByteArray) (hs : s.size ≤ 300) (h : fRun 0 s.data.toList 0 = s.size) (w : World) :
    Calls Try.prog 11 #[.string (s ++ ⟨#[49]⟩)] w fun e w' => e = .returned (.bool true) ∧ Below w.heap.size w w' := by
  have hz' : (ByteArray.mk #[49]).size = 1 := rfl
  have := is_any (s ++ ⟨#[49]⟩) w (by rw [ByteArray.size_append, hz']; unfold maxLen; omega)
  rw [cat_data, show (ByteArray.mk #[49]).data.toList = [49] from rfl, ← acc0, fRun_early _ 0 0 stA_zero (Int.le_refl _) (by rw [h, Int.zero_add]; rfl)] at this
  exact this

set_option maxRecDepth 100000 in
set_option maxHeartbeats 4000000 in
theorem numeralParts_walk (s : ByteArray) (W : World) (hs : s.size ≤ maxLen) :
    Calls Try.prog 5 #[.string s] W fun e w' => e = .returned (.bool true) ∧ Below W.heap.size W w' := by
  by_cases h2 : 300 < (s.size : Int)
  · unfold maxLen at hs
    go_enter Try.func5, Try.ntmps5
    go_wp2_with (first
      | (go_at_call 6; refine (alive4_any _).mono ?_; rintro e w1 ⟨rfl, hb1⟩))
    go_ret
    exact ⟨rfl, hb1⟩
  have h2' : (s.size : Int) ≤ 300 := by omega
  have h2n : s.size ≤ 300 := by omega
  have KF := Lib.hid (fun w => fault_any s w hs)
  have KI := Lib.hid (fun w => is_any s w hs)
  have hge := fRun_ge s.data.toList 0 0 (Int.le_refl _)
  rw [show (s.data.toList.length : Int) = s.size from rfl, Int.zero_add] at hge
  have hneg := (fRun_neg s.data.toList 0 0 (Int.le_refl _)).trans (acc0 _)
  have KE := Lib.hid (is_early s h2n)
  have KX := Lib.hid (fun x hx => is_end s x h2n hx)
  have KC := Lib.hid (fun x hx => count_end s x h2n hx)
  generalize fRun 0 s.data.toList 0 = f at *
  generalize isR s.data.toList = v at *
  obtain ⟨g0, g9⟩ := hge
  clear hs
  by_cases hf : f = -1
  · subst hf
    obtain rfl : v = true := by rw [← hneg]; decide
    clear hneg KE
    have KX2 := Lib.hid (fun x hx => KX.out x hx rfl)
    have KC2 := Lib.hid (fun x hx => KC.out x hx rfl)
    clear KX KC
    go_enter Try.func5, Try.ntmps5
    go_wp2_with (first
      | (go_at_call 6; refine (alive4_any _).mono ?_; rintro e w1 ⟨rfl, hb1⟩)
      | (go_at_call 12; (with_reducible refine (KF.out _).mono ?_); rintro e w2 ⟨rfl, hb2⟩)
      | (go_at_call 11; (with_reducible refine (KI.out _).mono ?_); rintro e w3 ⟨rfl, hb3⟩))
    have z1 := hb1.size
    have z2 := hb2.size
    have z3 := hb3.size
    go_loopw [40] (fun i wr => RelNP W w3 wr i) (fun i _ => 6 - (intOf i).toNat)
    case atStart => exact ⟨0, by omega, rfl, Own.fresh _ _ _, ((hb1.trans (hb2.mono z1)).trans (hb3.mono (by omega))).alloc (by omega) _⟩
    case round =>
      obtain ⟨j, hj, rfl, hown, hbel⟩ := hrel
      have hj' : j = 0 ∨ j = 1 ∨ j = 2 ∨ j = 3 ∨ j = 4 ∨ j = 5 ∨ j = 6 := by omega
      have hin := hown.inside
      rcases hj' with rfl | rfl | rfl | rfl | rfl | rfl | rfl
      case inr.inr.inr.inr.inr.inr =>
        go_wp2
        go_ret
        exact ⟨rfl, hbel⟩
      case inl =>
        have c0 := hown.at 0
        simp [endsV] at c0
        have XE := Lib.hid (KX2.out 44 (ending_of 44 (by decide)))
        have CE := Lib.hid (KC2.out 44 (ending_of 44 (by decide)))
        have tok : True := trivial
        go_wp2_with (first
          | (go_at_call 11; (with_reducible refine (KI.out _).mono ?_); rintro e w4 ⟨rfl, hb4⟩)
          | (go_at_call 14; (with_reducible refine (CE.out _).mono ?_); rintro e w5 ⟨rfl, hb5⟩)
          | (go_at_call 12; (with_reducible refine (XE.out _).mono ?_); rintro e w6 ⟨rfl, hb6⟩))
        have z4 := hb4.size
        have z5 := hb5.size
        have z0 := hbel.size
        have b456 := (hb4.trans (hb5.mono z4)).trans (hb6.mono (by omega))
        go_roundw
        case rel => exact ⟨1, by omega, rfl, hown.stay b456 hin, hbel.trans (b456.mono z0)⟩
        case measure => simp [intOf]
      case inr.inl =>
        have c0 := hown.at 1
        simp [endsV] at c0
        have XE := Lib.hid (KX2.out 93 (ending_of 93 (by decide)))
        have CE := Lib.hid (KC2.out 93 (ending_of 93 (by decide)))
        have tok : True := trivial
        go_wp2_with (first
          | (go_at_call 11; (with_reducible refine (KI.out _).mono ?_); rintro e w4 ⟨rfl, hb4⟩)
          | (go_at_call 14; (with_reducible refine (CE.out _).mono ?_); rintro e w5 ⟨rfl, hb5⟩)
          | (go_at_call 12; (with_reducible refine (XE.out _).mono ?_); rintro e w6 ⟨rfl, hb6⟩))
        have z4 := hb4.size
        have z5 := hb5.size
        have z0 := hbel.size
        have b456 := (hb4.trans (hb5.mono z4)).trans (hb6.mono (by omega))
        go_roundw
        case rel => exact ⟨2, by omega, rfl, hown.stay b456 hin, hbel.trans (b456.mono z0)⟩
        case measure => simp [intOf]
      case inr.inr.inl =>
        have c0 := hown.at 2
        simp [endsV] at c0
        have XE := Lib.hid (KX2.out 125 (ending_of 125 (by decide)))
        have CE := Lib.hid (KC2.out 125 (ending_of 125 (by decide)))
        have tok : True := trivial
        go_wp2_with (first
          | (go_at_call 11; (with_reducible refine (KI.out _).mono ?_); rintro e w4 ⟨rfl, hb4⟩)
          | (go_at_call 14; (with_reducible refine (CE.out _).mono ?_); rintro e w5 ⟨rfl, hb5⟩)
          | (go_at_call 12; (with_reducible refine (XE.out _).mono ?_); rintro e w6 ⟨rfl, hb6⟩))
        have z4 := hb4.size
        have z5 := hb5.size
        have z0 := hbel.size
        have b456 := (hb4.trans (hb5.mono z4)).trans (hb6.mono (by omega))
        go_roundw
        case rel => exact ⟨3, by omega, rfl, hown.stay b456 hin, hbel.trans (b456.mono z0)⟩
        case measure => simp [intOf]
      case inr.inr.inr.inl =>
        have c0 := hown.at 3
        simp [endsV] at c0
        have XE := Lib.hid (KX2.out 32 (ending_of 32 (by decide)))
        have CE := Lib.hid (KC2.out 32 (ending_of 32 (by decide)))
        have tok : True := trivial
        go_wp2_with (first
          | (go_at_call 11; (with_reducible refine (KI.out _).mono ?_); rintro e w4 ⟨rfl, hb4⟩)
          | (go_at_call 14; (with_reducible refine (CE.out _).mono ?_); rintro e w5 ⟨rfl, hb5⟩)
          | (go_at_call 12; (with_reducible refine (XE.out _).mono ?_); rintro e w6 ⟨rfl, hb6⟩))
        have z4 := hb4.size
        have z5 := hb5.size
        have z0 := hbel.size
        have b456 := (hb4.trans (hb5.mono z4)).trans (hb6.mono (by omega))
        go_roundw
        case rel => exact ⟨4, by omega, rfl, hown.stay b456 hin, hbel.trans (b456.mono z0)⟩
        case measure => simp [intOf]
      case inr.inr.inr.inr.inl =>
        have c0 := hown.at 4
        simp [endsV] at c0
        have XE := Lib.hid (KX2.out 10 (ending_of 10 (by decide)))
        have CE := Lib.hid (KC2.out 10 (ending_of 10 (by decide)))
        have tok : True := trivial
        go_wp2_with (first
          | (go_at_call 11; (with_reducible refine (KI.out _).mono ?_); rintro e w4 ⟨rfl, hb4⟩)
          | (go_at_call 14; (with_reducible refine (CE.out _).mono ?_); rintro e w5 ⟨rfl, hb5⟩)
          | (go_at_call 12; (with_reducible refine (XE.out _).mono ?_); rintro e w6 ⟨rfl, hb6⟩))
        have z4 := hb4.size
        have z5 := hb5.size
        have z0 := hbel.size
        have b456 := (hb4.trans (hb5.mono z4)).trans (hb6.mono (by omega))
        go_roundw
        case rel => exact ⟨5, by omega, rfl, hown.stay b456 hin, hbel.trans (b456.mono z0)⟩
        case measure => simp [intOf]
      case inr.inr.inr.inr.inr.inl =>
        have c0 := hown.at 5
        simp [endsV] at c0
        have XE := Lib.hid (KX2.out 58 (ending_of 58 (by decide)))
        have CE := Lib.hid (KC2.out 58 (ending_of 58 (by decide)))
        have tok : True := trivial
        go_wp2_with (first
          | (go_at_call 11; (with_reducible refine (KI.out _).mono ?_); rintro e w4 ⟨rfl, hb4⟩)
          | (go_at_call 14; (with_reducible refine (CE.out _).mono ?_); rintro e w5 ⟨rfl, hb5⟩)
          | (go_at_call 12; (with_reducible refine (XE.out _).mono ?_); rintro e w6 ⟨rfl, hb6⟩))
        have z4 := hb4.size
        have z5 := hb5.size
        have z0 := hbel.size
        have b456 := (hb4.trans (hb5.mono z4)).trans (hb6.mono (by omega))
        go_roundw
        case rel => exact ⟨6, by omega, rfl, hown.stay b456 hin, hbel.trans (b456.mono z0)⟩
        case measure => simp [intOf]
  · have hf0 : 0 ≤ f := by omega
    obtain rfl : v = false := by rw [← hneg]; simp; omega
    clear hneg
    by_cases hfs : f = s.size
    · subst hfs
      have KE2 := Lib.hid (KE.out rfl)
      clear KE KX KC
      have g1 : ((s.size : Int) == -1) = false := beq_eq_false_iff_ne.2 (by omega)
      go_enter Try.func5, Try.ntmps5
      go_wp2_with (first
        | (go_at_call 6; refine (alive4_any _).mono ?_; rintro e w1 ⟨rfl, hb1⟩)
        | (go_at_call 12; (with_reducible refine (KF.out _).mono ?_); rintro e w2 ⟨rfl, hb2⟩)
        | (go_at_call 11; (with_reducible refine (KE2.out _).mono ?_); rintro e w4 ⟨rfl, hb4⟩)
        | (go_at_call 11; (with_reducible refine (KI.out _).mono ?_); rintro e w3 ⟨rfl, hb3⟩))
      have z1 := hb1.size
      have z2 := hb2.size
      have z3 := hb3.size
      go_loopw [40] (fun i wr => RelNP W w4 wr i) (fun i _ => 6 - (intOf i).toNat)
      case atStart => exact ⟨0, by omega, rfl, Own.fresh _ _ _, (((hb1.trans (hb2.mono z1)).trans (hb3.mono (by omega))).trans (hb4.mono (by omega))).alloc (by have := hb4.size; omega) _⟩
      case round =>
        obtain ⟨j, hj, rfl, hown, hbel⟩ := hrel
        have hj' : j = 0 ∨ j = 1 ∨ j = 2 ∨ j = 3 ∨ j = 4 ∨ j = 5 ∨ j = 6 := by omega
        have hin := hown.inside
        have c0 := hown.at 0
        have c1 := hown.at 1
        have c2 := hown.at 2
        have c3 := hown.at 3
        have c4 := hown.at 4
        have c5 := hown.at 5
        simp [endsV] at c0 c1 c2 c3 c4 c5
        rcases hj' with rfl | rfl | rfl | rfl | rfl | rfl | rfl
        case inr.inr.inr.inr.inr.inr =>
          go_wp2
          go_ret
          exact ⟨rfl, hbel⟩
        all_goals
          go_wp2_with (first
            | (go_at_call 11; (with_reducible refine (KI.out _).mono ?_); rintro e w5 ⟨rfl, hb5⟩))
          have z0 := hbel.size
          go_roundw
          case rel => exact ⟨_, (by decide), rfl, hown.stay hb5 hin, hbel.trans (hb5.mono z0)⟩
          case measure => simp [intOf]
    · have g1 : (f == -1) = false := beq_eq_false_iff_ne.2 hf
      have g2 : (f == (s.size : Int)) = false := beq_eq_false_iff_ne.2 hfs
      clear KE KX KC
      go_enter Try.func5, Try.ntmps5
      go_wp2_with (first
        | (go_at_call 6; refine (alive4_any _).mono ?_; rintro e w1 ⟨rfl, hb1⟩)
        | (go_at_call 12; (with_reducible refine (KF.out _).mono ?_); rintro e w2 ⟨rfl, hb2⟩)
        | (go_at_call 11; (with_reducible refine (KI.out _).mono ?_); rintro e w3 ⟨rfl, hb3⟩))
      have z1 := hb1.size
      have z2 := hb2.size
      have z3 := hb3.size
      go_loopw [40] (fun i wr => RelNP W w3 wr i) (fun i _ => 6 - (intOf i).toNat)
      case atStart => exact ⟨0, by omega, rfl, Own.fresh _ _ _, ((hb1.trans (hb2.mono z1)).trans (hb3.mono (by omega))).alloc (by omega) _⟩
      case round =>
        obtain ⟨j, hj, rfl, hown, hbel⟩ := hrel
        have hj' : j = 0 ∨ j = 1 ∨ j = 2 ∨ j = 3 ∨ j = 4 ∨ j = 5 ∨ j = 6 := by omega
        have hin := hown.inside
        have c0 := hown.at 0
        have c1 := hown.at 1
        have c2 := hown.at 2
        have c3 := hown.at 3
        have c4 := hown.at 4
        have c5 := hown.at 5
        simp [endsV] at c0 c1 c2 c3 c4 c5
        rcases hj' with rfl | rfl | rfl | rfl | rfl | rfl | rfl
        case inr.inr.inr.inr.inr.inr =>
          go_wp2
          go_ret
          exact ⟨rfl, hbel⟩
        all_goals
          go_wp2_with (first
            | (go_at_call 11; (with_reducible refine (KI.out _).mono ?_); rintro e w5 ⟨rfl, hb5⟩))
          have z0 := hbel.size
          go_roundw
          case rel => exact ⟨_, (by decide), rfl, hown.stay hb5 hin, hbel.trans (hb5.mono z0)⟩
          case measure => simp [intOf]

end Go.Proofs.Ytpiebopmkhfcoaa
