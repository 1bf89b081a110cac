/- The contracts of the document's answers for layer 4 (riffleref04). -/
import Derived.Test.YtaklbbkjhbkieaaJ04
import Derived.Deep.CutRange
import Derived.Deep.DeepMust
import Derived.Laws.BytesArg
import Derived.StillTailTactics
import Derived.Outline
namespace Go.Proofs.Ytaklbbkjhbkieaa
open Go.RowKit

theorem digL_at (l : List UInt8) (k : Nat) (h : k < l.length) : digL (l.drop k) = if isDigitI l[k].toNat then digL (l.drop (k + 1)) + 1 else 0 := by
  rw [List.drop_eq_getElem_cons h]; rfl

/-- Where digits' loop is. -/
def RelDig (s : ByteArray) (W wr : World) (i : Value) : Prop :=
  ∃ k : Nat, k ≤ s.size ∧ i = .int .i64 k ∧ W = wr ∧ digL s.data.toList = k + digL (s.data.toList.drop k)

set_option maxHeartbeats 1000000 in
theorem rdigits_any (s : ByteArray) (W : World) (hs : s.size ≤ 100000) :
    Calls Try.prog 50 #[.string s] W fun e w' => e = .returned (.int .i64 (digL s.data.toList)) ∧ W = w' := by
  go_enter Try.func50, Try.ntmps50
  go_wp2
  go_loopw [3] (fun i wr => RelDig s W wr i) (fun i _ => s.size - (intOf i).toNat)
  case atStart => exact ⟨0, Nat.zero_le _, rfl, rfl, by simp⟩
  case round =>
    obtain ⟨k, hk, rfl, rfl, hrun⟩ := hrel
    by_cases hlt : k < s.size
    · have hl : k < s.data.toList.length := hlt
      rw [digL_at _ _ hl, show s.data.toList[k] = s[k] from rfl] at hrun
      have HG := Lib.hid (rdigit_any s[k].toNat)
      have HR := Lib.hid hrun
      clear hrun
      generalize isDigitI s[k].toNat = d at *
      cases d
      · go_wp2_with (go_at_call 39; refine (HG.out _).mono ?_; rintro e w' ⟨rfl, rfl⟩)
        go_ret
        exact ⟨ret_i (by have := HR.out; simp at this; omega), rfl⟩
      · go_wp2_with (go_at_call 39; refine (HG.out _).mono ?_; rintro e w' ⟨rfl, rfl⟩)
        go_roundw
        case rel => exact ⟨k + 1, hlt, by go_num, rfl, by have := HR.out; simp at this; omega⟩
        case measure => simp [intOf]; omega
    · obtain rfl : k = s.size := by omega
      rw [show s.data.toList.drop s.size = [] from List.drop_of_length_le (Nat.le_refl _)] at hrun
      have HR := Lib.hid hrun
      clear hrun
      go_wp2
      go_ret
      exact ⟨ret_i (by rw [HR.out]; simp [digL]), rfl⟩

theorem hd_some (s : ByteArray) (h : 0 < s.size) (c : Int) : hdIs s.data.toList c = decide ((s[0].toNat : Int) = c) := by
  have hl : 0 < s.data.toList.length := h
  have e : s.data.toList = s[0] :: s.data.toList.drop 1 := by
    have := List.drop_eq_getElem_cons hl
    rw [List.drop_zero] at this
    exact this
  rw [e]; rfl
theorem hd_none (s : ByteArray) (h : s.size = 0) (c : Int) : hdIs s.data.toList c = false := by
  have e : s.data.toList = [] := List.eq_nil_of_length_eq_zero h
  rw [e]; rfl
/-- The rest of a text. -/
theorem tail_is (s : ByteArray) (k : Nat) : (s.extract k s.size).data.toList = s.data.toList.drop k ∧ (s.extract k s.size).size = s.size - k := by
  refine ⟨?_, by simp⟩
  rw [ByteArray.data_extract, Array.toList_extract, List.extract_eq_take_drop]
  exact List.take_of_length_le (by simp)

theorem rdigits_tail (s : ByteArray) (k : Nat) (hs : s.size ≤ 100000) (w : World) :
    Calls Try.prog 50 #[.string (s.extract k s.size)] w fun e w' => e = .returned (.int .i64 (digL (s.data.toList.drop k))) ∧ w = w' := by
  have h := rdigits_any (s.extract k s.size) w (by simp; omega)
  rw [(tail_is s k).1] at h
  exact h

theorem intR_is (l : List UInt8) {n : Nat} (hn : digL l = n) {b : Bool} (hb : decide (n = 0 ∨ 1 < n ∧ hdIs l 48 = true) = b) : intR l = if b then false else pointR (l.drop n) := by
  unfold intR
  rw [hn]
  cases b
  · rw [if_neg (of_decide_eq_false hb), if_neg (by decide)]
  · rw [if_pos (of_decide_eq_true hb), if_pos rfl]

set_option maxRecDepth 100000 in
set_option maxHeartbeats 4000000 in
theorem ris_any (s : ByteArray) (W : World) (hs : s.size ≤ 100000) :
    Calls Try.prog 43 #[.string s] W fun e w' => e = .returned (.bool (isR s.data.toList)) ∧ W = w' := by
  obtain ⟨v, hv⟩ : ∃ v, isR s.data.toList = v := ⟨_, rfl⟩
  rw [hv]
  have hsl : s.data.toList.length = s.size := rfl
  go_enter Try.func43, Try.ntmps43
  go_upto_region 1 with fail
  go_cut [11] from 4 (fun x w => x = .bool (hdIs s.data.toList 45) ∧ w = W)
  case first =>
    by_cases h0 : 0 < s.size
    · have hh := hd_some s h0 45
      by_cases h45 : (s[0].toNat : Int) = 45
      all_goals
        go_wp2
        go_meet
        case rel => exact ⟨by rw [hh]; simp [h45], rfl⟩
    · have hh := hd_none s (by omega) 45
      go_wp2
      go_meet
      case rel => exact ⟨by rw [hh], rfl⟩
  case rest =>
  obtain ⟨rfl, rfl⟩ := hcut
  unfold isR at hv
  have hpos : hdIs s.data.toList 45 = true → 0 < s.size := fun e => by
    by_cases h0 : 0 < s.size
    · exact h0
    · rw [hd_none s (by omega) 45] at e; cases e
  generalize hdIs s.data.toList 45 = m at *
  go_upto_if 11 with fail
  go_cut [0] from 4 (fun x w => ∃ t : ByteArray, x = .string t ∧ t.size ≤ 100000 ∧ intR t.data.toList = v ∧ w = wc)
  case first =>
    cases m
    · go_wp2
      go_meet
      case rel => exact ⟨s, rfl, hs, hv, rfl⟩
    · have h1 : 0 < s.size := hpos rfl
      have hv' : intR (s.data.toList.drop 1) = v := hv
      clear hv hpos
      go_wp2
      go_meet
      case rel => exact ⟨_, rfl, by simp; omega, by rw [(tail_is s 1).1]; exact hv', rfl⟩
  case rest =>
  clear hv hpos hs hsl
  obtain ⟨t, rfl, hs, hv, rfl⟩ := hcut
  have hnl : digL t.data.toList ≤ t.size := digL_le _
  obtain ⟨n, hn⟩ : ∃ n, digL t.data.toList = n := ⟨_, rfl⟩
  have HD := rdigits_any t wc hs
  rw [hn] at HD hnl
  have HD := Lib.hid HD
  go_upto_region 4 with (go_at_call 50; refine HD.out.mono ?_; rintro e w' ⟨rfl, rfl⟩)
  go_cut [26] from 4 (fun x w => x = .bool (decide (n = 0 ∨ 1 < n ∧ hdIs t.data.toList 48 = true)) ∧ w = wc)
  case first =>
    clear hn hv HD
    by_cases hz : n = 0
    · subst hz
      go_wp2
      go_meet
      case rel => exact ⟨by simp, rfl⟩
    · have h0 : 0 < t.size := by omega
      have hh := hd_some t h0 48
      by_cases h1 : n = 1
      · subst h1
        go_wp2
        go_meet
        case rel => exact ⟨by simp, rfl⟩
      · have h2 : 1 < n := by omega
        have h2' : (1 : Int) < n := by omega
        by_cases h48 : (t[0].toNat : Int) = 48
        all_goals
          go_wp2
          go_meet
          case rel => exact ⟨by rw [hh]; simp [h48, hz, h2], rfl⟩
  case rest =>
  obtain ⟨rfl, rfl⟩ := hcut
  obtain ⟨b, hb⟩ : ∃ b, decide (n = 0 ∨ 1 < n ∧ hdIs t.data.toList 48 = true) = b := ⟨_, rfl⟩
  rw [intR_is _ hn hb] at hv
  rw [hb]
  clear hb hn HD
  cases b
  case true =>
    subst hv
    go_wp2
    go_ret
    exact ⟨rfl, rfl⟩
  rw [if_neg (by decide)] at hv
  go_upto_region 7 with fail
  obtain ⟨hu1, hu2⟩ := tail_is t n
  rw [← hu1] at hv
  generalize t.extract n t.size = u at *
  have hus : u.size ≤ 100000 := by omega
  clear hu1 hu2 hnl hs
  go_cut [37] from 4 (fun x w => x = .bool (hdIs u.data.toList 46) ∧ w = wc)
  case first =>
    by_cases h0 : 0 < u.size
    · have hh := hd_some u h0 46
      by_cases h46 : (u[0].toNat : Int) = 46
      all_goals
        go_wp2
        go_meet
        case rel => exact ⟨by rw [hh]; simp [h46], rfl⟩
    · have hh := hd_none u (by omega) 46
      go_wp2
      go_meet
      case rel => exact ⟨by rw [hh], rfl⟩
  case rest =>
  obtain ⟨rfl, rfl⟩ := hcut
  unfold pointR at hv
  have hpos : hdIs u.data.toList 46 = true → 0 < u.size := fun e => by
    by_cases h0 : 0 < u.size
    · exact h0
    · rw [hd_none u (by omega) 46] at e; cases e
  generalize hdIs u.data.toList 46 = m at *
  go_upto_if 37 with fail
  go_cut [0] from 4 (fun x w => ∃ y : ByteArray, x = .string y ∧ y.size ≤ 100000 ∧ tailR y.data.toList = v ∧ w = wc)
  case first =>
    cases m
    · go_wp2
      go_meet
      case rel => exact ⟨u, rfl, hus, hv, rfl⟩
    · have h1 : 0 < u.size := hpos rfl
      have hv' : fracR (u.data.toList.drop 1) = v := hv
      have HD := rdigits_tail u 1 hus wc
      have hkl : digL (u.data.toList.drop 1) ≤ u.size - 1 := by
        have := digL_le (u.data.toList.drop 1)
        simpa using this
      unfold fracR at hv'
      obtain ⟨k, hk⟩ : ∃ k, digL (u.data.toList.drop 1) = k := ⟨_, rfl⟩
      rw [hk] at HD hkl hv'
      have HD := Lib.hid HD
      have HV := Lib.hid hv'
      clear hv hpos hv' hk
      by_cases hz : k = 0
      · subst hz
        go_wp2_with (go_at_call 50; refine HD.out.mono ?_; rintro e w' ⟨rfl, rfl⟩)
        go_ret
        exact ⟨ret_b HV.out, rfl⟩
      · have hz' : ((k : Int) == 0) = false := beq_eq_false_iff_ne.2 (by omega)
        have hk1 : 1 + k ≤ u.size := by omega
        go_wp2_with (go_at_call 50; refine HD.out.mono ?_; rintro e w' ⟨rfl, rfl⟩)
        go_meet
        case rel => exact ⟨_, rfl, by simp; omega, by have := HV.out; rw [if_neg hz, List.drop_drop] at this; rw [(tail_is u (1 + k)).1]; exact this, rfl⟩
  case rest =>
  clear hv hpos hus
  obtain ⟨y, rfl, hs, hv, rfl⟩ := hcut
  unfold tailR at hv
  by_cases h0 : 0 < y.size
  case neg =>
    have hz : y.size = 0 := by omega
    have HV := Lib.hid (show true = v by rw [if_pos (show y.data.toList.length = 0 from hz)] at hv; exact hv)
    clear hv
    go_wp2
    go_ret
    exact ⟨ret_b HV.out, rfl⟩
  rw [if_neg (show ¬ y.data.toList.length = 0 from by have : y.data.toList.length = y.size := rfl; omega)] at hv
  have h0' : ((y.size : Int) == 0) = false := beq_eq_false_iff_ne.2 (by omega)
  go_upto_region 14 with fail
  go_cut [57] from 4 (fun x w => x = .bool (!(hdIs y.data.toList 101 || hdIs y.data.toList 69)) ∧ w = wc)
  case first =>
    have hh1 := hd_some y h0 101
    have hh2 := hd_some y h0 69
    by_cases h1 : (y[0].toNat : Int) = 101
    · go_wp2
      go_meet
      case rel => exact ⟨by rw [hh1]; simp [h1], rfl⟩
    · by_cases h2 : (y[0].toNat : Int) = 69
      all_goals
        go_wp2
        go_meet
        case rel => exact ⟨by rw [hh1, hh2]; simp [h1, h2], rfl⟩
  case rest =>
  obtain ⟨rfl, rfl⟩ := hcut
  generalize (hdIs y.data.toList 101 || hdIs y.data.toList 69) = b at *
  cases b
  case false =>
    have HV := Lib.hid (show false = v from hv)
    clear hv
    go_wp2
    go_ret
    exact ⟨ret_b HV.out, rfl⟩
  have hv1 : signR (y.data.toList.drop 1) = v := hv
  clear hv
  go_upto_region 17 with fail
  obtain ⟨hu1, hu2⟩ := tail_is y 1
  rw [← hu1] at hv1
  generalize y.extract 1 y.size = z at *
  have hzs : z.size ≤ 100000 := by omega
  clear hu1 hu2 hs h0 h0'
  go_cut [72] from 4 (fun x w => x = .bool (hdIs z.data.toList 43 || hdIs z.data.toList 45) ∧ w = wc)
  case first =>
    by_cases h0 : 0 < z.size
    · have hh1 := hd_some z h0 43
      have hh2 := hd_some z h0 45
      by_cases h1 : (z[0].toNat : Int) = 43
      · go_wp2
        go_meet
        case rel => exact ⟨by rw [hh1]; simp [h1], rfl⟩
      · by_cases h2 : (z[0].toNat : Int) = 45
        all_goals
          go_wp2
          go_meet
          case rel => exact ⟨by rw [hh1, hh2]; simp [h1, h2], rfl⟩
    · have hh1 := hd_none z (by omega) 43
      have hh2 := hd_none z (by omega) 45
      go_wp2
      go_meet
      case rel => exact ⟨by rw [hh1, hh2]; rfl, rfl⟩
  case rest =>
  obtain ⟨rfl, rfl⟩ := hcut
  unfold signR at hv1
  have hpos : (hdIs z.data.toList 43 || hdIs z.data.toList 45) = true → 0 < z.size := fun e => by
    by_cases h0 : 0 < z.size
    · exact h0
    · rw [hd_none z (by omega) 43, hd_none z (by omega) 45] at e; cases e
  generalize (hdIs z.data.toList 43 || hdIs z.data.toList 45) = m at *
  go_upto_if 72 with fail
  go_cut [0] from 4 (fun x w => ∃ t : ByteArray, x = .string t ∧ t.size ≤ 100000 ∧ expR t.data.toList = v ∧ w = wc)
  case first =>
    cases m
    · go_wp2
      go_meet
      case rel => exact ⟨z, rfl, hzs, hv1, rfl⟩
    · have h1 : 0 < z.size := hpos rfl
      have hv' : expR (z.data.toList.drop 1) = v := hv1
      clear hv1 hpos
      go_wp2
      go_meet
      case rel => exact ⟨_, rfl, by simp; omega, by rw [(tail_is z 1).1]; exact hv', rfl⟩
  case rest =>
  clear hv1 hpos hzs
  obtain ⟨t, rfl, hs, hv, rfl⟩ := hcut
  have HD := Lib.hid (rdigits_any t wc hs)
  have HV := Lib.hid (show decide (0 < t.size ∧ digL t.data.toList = t.size) = v from hv)
  have hle : digL t.data.toList ≤ t.size := digL_le _
  clear hv
  generalize digL t.data.toList = k at *
  by_cases h0 : 0 < t.size
  · go_wp2_with (go_at_call 50; refine HD.out.mono ?_; rintro e w' ⟨rfl, rfl⟩)
    go_ret
    exact ⟨ret_b (by rw [← HV.out, Bool.eq_iff_iff]; simp; omega), rfl⟩
  · go_wp2
    go_ret
    exact ⟨ret_b (by rw [← HV.out]; simp [h0]), rfl⟩

end Go.Proofs.Ytaklbbkjhbkieaa

namespace Go.Proofs.Ytaklbbkjhbkieaa
open Go.RowKit

theorem cat_data (s t : ByteArray) : (s ++ t).data.toList = s.data.toList ++ t.data.toList := by simp
theorem one_data (c : UInt8) : (strOfNums [(c.toNat : Int)]).data.toList = [c] := by
  rw [strOfNums_data]; simp

set_option maxRecDepth 100000 in
set_option maxHeartbeats 4000000 in
theorem rstep_at (s : ByteArray) (c : UInt8) (a : Int) (h : At a s.data.toList) (W : World) (hs : s.size ≤ 90000) :
    Calls Try.prog 42 #[.string s, .int .u8 c.toNat] W fun e w' => e = .returned (.int .i64 (anI a c.toNat)) ∧ Below W.heap.size W w' := by
  have hcv := conv_one
  have hz1 : (strOfNums [(c.toNat : Int)]).size = 1 := rfl
  have hg := at_goes h c
  have kt := fun w => ris_any (s ++ strOfNums [(c.toNat : Int)]) w (by simp [hz1]; omega)
  have ku := fun w => ris_any (s ++ strOfNums [(c.toNat : Int)] ++ ⟨#[49]⟩) w (by rw [ByteArray.size_append, ByteArray.size_append, hz1]; show _ + 1 ≤ _; omega)
  have ks := fun w => ris_any s w (by omega)
  rw [cat_data, one_data] at kt
  rw [cat_data, cat_data, one_data] at ku
  rw [at_is h] at ks
  rw [show (ByteArray.mk #[49]).data.toList = [49] from rfl] at ku
  have KT := Lib.hid kt
  have KU := Lib.hid ku
  have KS := Lib.hid ks
  have HV := Lib.hid (show anI a c.toNat = if decide (nxI a c.toNat ≠ 0) then 0 else if whI a && !stickI c.toNat then 1 else 2 by unfold anI; simp)
  clear kt ku ks
  have hsz : s.size ≤ 90000 := hs
  generalize isR (s.data.toList ++ [c]) = x at *
  generalize isR (s.data.toList ++ [c] ++ [49]) = y at *
  rw [← hg] at HV
  generalize whI a = z at *
  have HG := Lib.hid (rdigit_any c.toNat)
  have HL := Lib.hid (ralpha_any c.toNat)
  have HK := Lib.hid (show stickI c.toNat = (isDigitI c.toNat || isAlphaI c.toNat || decide ((c.toNat : Int) = 46) || decide ((c.toNat : Int) = 43) || decide ((c.toNat : Int) = 45)) from rfl)
  clear hg h hs
  generalize isDigitI c.toNat = d at *
  generalize isAlphaI c.toNat = b at *
  generalize stickI c.toNat = k at *
  generalize anI a c.toNat = r at *
  generalize (c.toNat : Int) = n at *
  cases x
  case true =>
    go_enter Try.func42, Try.ntmps42
    go_wp2_with (first
      | (go_at_call 43; (with_reducible refine (KT.out _).mono ?_); rintro e w1 ⟨rfl, rfl⟩)
      | (go_at_call 43; (with_reducible refine (KU.out _).mono ?_); rintro e w1 ⟨rfl, rfl⟩)
      | (go_at_call 43; (with_reducible refine (KS.out _).mono ?_); rintro e w1 ⟨rfl, rfl⟩)
      | (go_at_call 39; refine (HG.out _).mono ?_; rintro e w1 ⟨rfl, rfl⟩)
      | (go_at_call 49; refine (HL.out _).mono ?_; rintro e w1 ⟨rfl, rfl⟩))
    go_ret
    exact ⟨ret_i (by rw [HV.out]; rfl), (Below.refl _ _).alloc (Nat.le_refl _) _⟩
  cases y
  case true =>
    go_enter Try.func42, Try.ntmps42
    go_wp2_with (first
      | (go_at_call 43; (with_reducible refine (KT.out _).mono ?_); rintro e w1 ⟨rfl, rfl⟩)
      | (go_at_call 43; (with_reducible refine (KU.out _).mono ?_); rintro e w1 ⟨rfl, rfl⟩)
      | (go_at_call 43; (with_reducible refine (KS.out _).mono ?_); rintro e w1 ⟨rfl, rfl⟩)
      | (go_at_call 39; refine (HG.out _).mono ?_; rintro e w1 ⟨rfl, rfl⟩)
      | (go_at_call 49; refine (HL.out _).mono ?_; rintro e w1 ⟨rfl, rfl⟩))
    go_ret
    exact ⟨ret_i (by rw [HV.out]; rfl), (Below.refl _ _).alloc (Nat.le_refl _) _⟩
  cases z
  case false =>
    go_enter Try.func42, Try.ntmps42
    go_wp2_with (first
      | (go_at_call 43; (with_reducible refine (KT.out _).mono ?_); rintro e w1 ⟨rfl, rfl⟩)
      | (go_at_call 43; (with_reducible refine (KU.out _).mono ?_); rintro e w1 ⟨rfl, rfl⟩)
      | (go_at_call 43; (with_reducible refine (KS.out _).mono ?_); rintro e w1 ⟨rfl, rfl⟩)
      | (go_at_call 39; refine (HG.out _).mono ?_; rintro e w1 ⟨rfl, rfl⟩)
      | (go_at_call 49; refine (HL.out _).mono ?_; rintro e w1 ⟨rfl, rfl⟩))
    go_ret
    exact ⟨ret_i (by rw [HV.out]; rfl), (Below.refl _ _).alloc (Nat.le_refl _) _⟩
  by_cases h1 : n = 46
  · subst h1
    cases d <;> cases b
    all_goals
      go_enter Try.func42, Try.ntmps42
      go_wp2_with (first
      | (go_at_call 43; (with_reducible refine (KT.out _).mono ?_); rintro e w1 ⟨rfl, rfl⟩)
      | (go_at_call 43; (with_reducible refine (KU.out _).mono ?_); rintro e w1 ⟨rfl, rfl⟩)
      | (go_at_call 43; (with_reducible refine (KS.out _).mono ?_); rintro e w1 ⟨rfl, rfl⟩)
      | (go_at_call 39; refine (HG.out _).mono ?_; rintro e w1 ⟨rfl, rfl⟩)
      | (go_at_call 49; refine (HL.out _).mono ?_; rintro e w1 ⟨rfl, rfl⟩))
      go_ret
      exact ⟨ret_i (by rw [HV.out, HK.out]; rfl), (Below.refl _ _).alloc (Nat.le_refl _) _⟩
  have g1 : (n != 46) = true := by simp [h1]
  by_cases h2 : n = 43
  · subst h2
    cases d <;> cases b
    all_goals
      go_enter Try.func42, Try.ntmps42
      go_wp2_with (first
      | (go_at_call 43; (with_reducible refine (KT.out _).mono ?_); rintro e w1 ⟨rfl, rfl⟩)
      | (go_at_call 43; (with_reducible refine (KU.out _).mono ?_); rintro e w1 ⟨rfl, rfl⟩)
      | (go_at_call 43; (with_reducible refine (KS.out _).mono ?_); rintro e w1 ⟨rfl, rfl⟩)
      | (go_at_call 39; refine (HG.out _).mono ?_; rintro e w1 ⟨rfl, rfl⟩)
      | (go_at_call 49; refine (HL.out _).mono ?_; rintro e w1 ⟨rfl, rfl⟩))
      go_ret
      exact ⟨ret_i (by rw [HV.out, HK.out]; rfl), (Below.refl _ _).alloc (Nat.le_refl _) _⟩
  have g2 : (n != 43) = true := by simp [h2]
  by_cases h3 : n = 45
  · subst h3
    cases d <;> cases b
    all_goals
      go_enter Try.func42, Try.ntmps42
      go_wp2_with (first
      | (go_at_call 43; (with_reducible refine (KT.out _).mono ?_); rintro e w1 ⟨rfl, rfl⟩)
      | (go_at_call 43; (with_reducible refine (KU.out _).mono ?_); rintro e w1 ⟨rfl, rfl⟩)
      | (go_at_call 43; (with_reducible refine (KS.out _).mono ?_); rintro e w1 ⟨rfl, rfl⟩)
      | (go_at_call 39; refine (HG.out _).mono ?_; rintro e w1 ⟨rfl, rfl⟩)
      | (go_at_call 49; refine (HL.out _).mono ?_; rintro e w1 ⟨rfl, rfl⟩))
      go_ret
      exact ⟨ret_i (by rw [HV.out, HK.out]; rfl), (Below.refl _ _).alloc (Nat.le_refl _) _⟩
  have g3 : (n != 45) = true := by simp [h3]
  cases d <;> cases b
  all_goals
    go_enter Try.func42, Try.ntmps42
    go_wp2_with (first
      | (go_at_call 43; (with_reducible refine (KT.out _).mono ?_); rintro e w1 ⟨rfl, rfl⟩)
      | (go_at_call 43; (with_reducible refine (KU.out _).mono ?_); rintro e w1 ⟨rfl, rfl⟩)
      | (go_at_call 43; (with_reducible refine (KS.out _).mono ?_); rintro e w1 ⟨rfl, rfl⟩)
      | (go_at_call 39; refine (HG.out _).mono ?_; rintro e w1 ⟨rfl, rfl⟩)
      | (go_at_call 49; refine (HL.out _).mono ?_; rintro e w1 ⟨rfl, rfl⟩))
    go_ret
    exact ⟨ret_i (by rw [HV.out, HK.out]; simp [h1, h2, h3]), (Below.refl _ _).alloc (Nat.le_refl _) _⟩

theorem head_is (s : ByteArray) (k : Nat) : (s.extract 0 k).data.toList = s.data.toList.take k := by
  rw [ByteArray.data_extract, Array.toList_extract, List.extract_eq_take_drop]
  simp
theorem an_zero {a c : Int} (h : nxI a c ≠ 0) : anI a c = 0 := by unfold anI; rw [if_pos h]
theorem an_more {a c : Int} (h : nxI a c = 0) : anI a c ≠ 0 := by
  unfold anI
  rw [if_neg (by simp [h])]
  split <;> omega
theorem at_take {a : Int} {l : List UInt8} (k : Nat) (hk : k < l.length) (h : At a (l.take k)) (hc : nxI a l[k].toNat ≠ 0) : At (nxI a l[k].toNat) (l.take (k + 1)) := by
  rw [List.take_succ_eq_append_getElem hk]
  exact at_step h _ hc

/-- Where the document's Fault's loop is. -/
def RelRF (s : ByteArray) (W wr : World) (i : Value) : Prop :=
  ∃ (k : Nat) (a : Int), k ≤ s.size ∧ i = .int .i64 k ∧ At a (s.data.toList.take k) ∧ Below W.heap.size W wr ∧ fRun 0 s.data.toList 0 = fRun a (s.data.toList.drop k) k

theorem take_snoc (l : List UInt8) (k : Nat) (h : k < l.length) : l.take (k + 1) = l.take k ++ [l[k]] := List.take_succ_eq_append_getElem h

/-- Behind a byte that led nowhere nothing is whole. -/
def Dead (l : List UInt8) : Prop := ∀ r, isR (l ++ r) = false
theorem dead_more {l : List UInt8} (h : Dead l) (m : List UInt8) : Dead (l ++ m) := fun r => by rw [List.append_assoc]; exact h _
theorem dead_now {l : List UInt8} (h : Dead l) : isR l = false := by have := h []; rwa [List.append_nil] at this

/-- Where the document's Count's loop is: k bytes are looked at; n: what was found. -/
def CntAt (l : List UInt8) (k : Nat) (n : Int) : Prop :=
  (∃ a, At a (l.take k) ∧ cRun 0 l 0 0 = cRun a (l.drop k) k n) ∨ (Dead (l.take k) ∧ cRun 0 l 0 0 = n)

theorem cnt_step {l : List UInt8} {k : Nat} {n : Int} (h : CntAt l k n) (hk : k < l.length) : CntAt l (k + 1) (if isR (l.take (k + 1)) then k + 1 else n) := by
  rcases h with ⟨a, hat, hc⟩ | ⟨hd, hc⟩
  · rw [cRun_cons _ _ _ hk] at hc
    by_cases hok : nxI a l[k].toNat = 0
    · rw [if_pos hok] at hc
      have hd : Dead (l.take (k + 1)) := fun r => by rw [take_snoc l k hk, List.append_assoc]; exact at_dead hat _ hok r
      rw [dead_now hd]
      exact .inr ⟨hd, hc⟩
    · rw [if_neg hok] at hc
      have hat' := at_take k hk hat hok
      rw [at_is hat']
      exact .inl ⟨_, hat', hc⟩
  · have hd' : Dead (l.take (k + 1)) := by rw [take_snoc l k hk]; exact dead_more hd _
    rw [dead_now hd']
    exact .inr ⟨hd', hc⟩

theorem cnt_end {l : List UInt8} {n : Int} (h : CntAt l l.length n) : cRun 0 l 0 0 = n := by
  rcases h with ⟨a, _, hc⟩ | ⟨_, hc⟩
  · rw [List.drop_of_length_le (Nat.le_refl _)] at hc
    exact hc
  · exact hc

def RelRC (s : ByteArray) (W wr : World) (m i : Value) : Prop :=
  ∃ (k n : Nat), k ≤ s.size ∧ n ≤ k ∧ i = .int .i64 ((k + 1 : Nat) : Int) ∧ m = .int .i64 n ∧ W = wr ∧ CntAt s.data.toList k n

end Go.Proofs.Ytaklbbkjhbkieaa

namespace Go.Proofs.Ytaklbbkjhbkieaa
open Go.RowKit

theorem one_is (c : UInt8) : strOfNums [(c.toNat : Int)] = ⟨#[c]⟩ := ba_ext (by rw [one_data])

set_option maxHeartbeats 400000 in
theorem rwords_any (W : World) :
    Calls Try.prog 51 #[] W fun e w' => e = .returned (.slice (some ⟨W.heap.size, 0, none⟩) 3 3) ∧ w' = W.alloc (.cells #[.string wT, .string wF, .string wN] 9) := by
  go_enter Try.func51, Try.ntmps51
  go_wp2
  go_ret
  exact ⟨rfl, rfl⟩

theorem hit_cases (lw l : List UInt8) : hit lw l = 1 ∨ hit lw l = 0 ∨ hit lw l = 2 := by unfold hit; (repeat' split) <;> simp
/-- The tests of one word. -/
theorem opt (w x : ByteArray) :
    ((w.toList == x.toList) = true ∧ hit w.data.toList x.data.toList = 1) ∨
    ((w.toList == x.toList) = false ∧ x.size < w.size ∧ ((w.extract 0 x.size).toList == x.toList) = true ∧ hit w.data.toList x.data.toList = 0) ∨
    ((w.toList == x.toList) = false ∧ x.size < w.size ∧ ((w.extract 0 x.size).toList == x.toList) = false ∧ hit w.data.toList x.data.toList = 2) ∨
    ((w.toList == x.toList) = false ∧ w.size ≤ x.size ∧ hit w.data.toList x.data.toList = 2) := by
  rw [ByteArray.toList_eq, ByteArray.toList_eq, ByteArray.toList_eq, head_list]
  have e1 : w.data.toList.length = w.size := rfl
  have e2 : x.data.toList.length = x.size := rfl
  unfold hit
  by_cases h1 : x.data.toList = w.data.toList
  · exact .inl ⟨by rw [h1]; simp, if_pos h1⟩
  rw [if_neg h1]
  have n1 : (w.data.toList == x.data.toList) = false := beq_eq_false_iff_ne.2 (Ne.symm h1)
  by_cases h2 : x.size < w.size
  · by_cases h3 : w.data.toList.take x.size = x.data.toList
    · exact .inr (.inl ⟨n1, h2, by rw [h3]; simp, if_pos ⟨by omega, h3⟩⟩)
    · exact .inr (.inr (.inl ⟨n1, h2, beq_eq_false_iff_ne.2 h3, if_neg (fun e => h3 e.2)⟩))
  · exact .inr (.inr (.inr ⟨n1, by omega, if_neg (fun e => by omega)⟩))

set_option maxRecDepth 100000 in
set_option maxHeartbeats 4000000 in
theorem rstep_any (P : ByteArray) (c : UInt8) (W : World) (hs : P.size ≤ 90000) :
    Calls Try.prog 44 #[.string P, .int .u8 c.toNat] W fun e w' => e = .returned (.int .i64 (refL (P.data.toList ++ [c]))) ∧ Below W.heap.size W w' := by
  have hcv := conv_one
  have hz1 : (strOfNums [(c.toNat : Int)]).size = 1 := rfl
  obtain ⟨x, hx⟩ : ∃ x, P ++ strOfNums [(c.toNat : Int)] = x := ⟨_, rfl⟩
  have hxs : x.size ≤ 90001 := by rw [← hx, ByteArray.size_append, hz1]; omega
  have hxl : P.data.toList ++ [c] = x.data.toList := by rw [← hx, cat_list, one_data]
  rw [hxl]
  unfold refL
  have HT := Lib.hid (opt wT x)
  have HF := Lib.hid (opt wF x)
  have HN := Lib.hid (opt wN x)
  rw [show wT.data.toList = lT from rfl, zT] at HT
  rw [show wF.data.toList = lF from rfl, zF] at HF
  rw [show wN.data.toList = lN from rfl, zN] at HN
  clear hxl
  generalize hit lT x.data.toList = vT at *
  generalize hit lF x.data.toList = vF at *
  generalize hit lN x.data.toList = vN at *
  generalize (c.toNat : Int) = n at *
  have zt := zT
  have zf := zF
  have zn := zN
  go_enter Try.func44, Try.ntmps44
  go_wp2_with (go_at_call 51; refine (rwords_any _).mono ?_; rintro e w' ⟨rfl, rfl⟩)
  rcases HT.out with ⟨q1, rfl⟩ | ⟨q1, q2, q3, rfl⟩ | ⟨q1, q2, q3, rfl⟩ | ⟨q1, q2, rfl⟩
  case inl =>
    refine wp_loop_rounds 4 ?_
    rw [rounds_succ]
    go_wp2
    go_ret
    exact ⟨rfl, below2 _ _ _⟩
  case inr.inl =>
    refine wp_loop_rounds 4 ?_
    rw [rounds_succ]
    go_wp2
    go_ret
    exact ⟨rfl, below2 _ _ _⟩
  all_goals
    rcases HF.out with ⟨p1, rfl⟩ | ⟨p1, p2, p3, rfl⟩ | ⟨p1, p2, p3, rfl⟩ | ⟨p1, p2, rfl⟩
    case inl =>
      refine wp_loop_rounds 4 ?_
      rw [rounds_succ]
      go_wp2
      rw [rounds_succ]
      go_wp2
      go_ret
      exact ⟨rfl, below2 _ _ _⟩
    case inr.inl =>
      refine wp_loop_rounds 4 ?_
      rw [rounds_succ]
      go_wp2
      rw [rounds_succ]
      go_wp2
      go_ret
      exact ⟨rfl, below2 _ _ _⟩
    all_goals
      rcases HN.out with ⟨r1, rfl⟩ | ⟨r1, r2, r3, rfl⟩ | ⟨r1, r2, r3, rfl⟩ | ⟨r1, r2, rfl⟩
      all_goals first
        | (exfalso; omega)
        | (refine wp_loop_rounds 4 ?_
           rw [rounds_succ]
           go_wp2
           rw [rounds_succ]
           go_wp2
           rw [rounds_succ]
           go_wp2
           (try (rw [rounds_succ]; go_wp2))
           go_ret
           exact ⟨rfl, below2 _ _ _⟩)

set_option maxHeartbeats 400000 in
theorem rkind_n (w : World) :
    Calls Try.prog 45 #[.string wN] w fun e w' => e = .returned (.tuple #[.int .i64 0, .bool true]) ∧ w = w' := by
  have e1 : wN.toList = [110, 117, 108, 108] := by rw [ByteArray.toList_eq]; rfl
  go_enter Try.func45, Try.ntmps45
  go_wp2
  go_ret2
  exact ⟨rfl, rfl⟩

set_option maxHeartbeats 400000 in
theorem rkind_t (w : World) :
    Calls Try.prog 45 #[.string wT] w fun e w' => e = .returned (.tuple #[.int .i64 1, .bool true]) ∧ w = w' := by
  have e1 : wT.toList = [116, 114, 117, 101] := by rw [ByteArray.toList_eq]; rfl
  go_enter Try.func45, Try.ntmps45
  go_wp2
  go_ret2
  exact ⟨rfl, rfl⟩

set_option maxHeartbeats 400000 in
theorem rkind_f (w : World) :
    Calls Try.prog 45 #[.string wF] w fun e w' => e = .returned (.tuple #[.int .i64 1, .bool true]) ∧ w = w' := by
  have e1 : wF.toList = [102, 97, 108, 115, 101] := by rw [ByteArray.toList_eq]; rfl
  go_enter Try.func45, Try.ntmps45
  go_wp2
  go_ret2
  exact ⟨rfl, rfl⟩

set_option maxHeartbeats 400000 in
theorem rkind_no (s : ByteArray) (h1 : s ≠ wT) (h2 : s ≠ wF) (h3 : s ≠ wN) (w : World) :
    Calls Try.prog 45 #[.string s] w fun e w' => e = .returned (.tuple #[.int .i64 0, .bool false]) ∧ w = w' := by
  have g1 : ¬ s.toList = [116, 114, 117, 101] := fun e => h1 (ba_ext (by rw [← ByteArray.toList_eq, e]; rfl))
  have g1b : (s.toList == [116, 114, 117, 101]) = false := beq_eq_false_iff_ne.2 g1
  have g2 : ¬ s.toList = [102, 97, 108, 115, 101] := fun e => h2 (ba_ext (by rw [← ByteArray.toList_eq, e]; rfl))
  have g2b : (s.toList == [102, 97, 108, 115, 101]) = false := beq_eq_false_iff_ne.2 g2
  have g3 : ¬ s.toList = [110, 117, 108, 108] := fun e => h3 (ba_ext (by rw [← ByteArray.toList_eq, e]; rfl))
  have g3b : (s.toList == [110, 117, 108, 108]) = false := beq_eq_false_iff_ne.2 g3
  go_enter Try.func45, Try.ntmps45
  go_wp2
  go_ret2
  exact ⟨rfl, rfl⟩

end Go.Proofs.Ytaklbbkjhbkieaa

namespace Go.Proofs.Ytaklbbkjhbkieaa
open Go.RowKit
set_option linter.unusedVariables false

theorem getD_at (s : ByteArray) (k : Nat) (h : k < s.size) : s.data.toList.getD k 0 = s[k] := by
  have hl : k < s.data.toList.length := h
  rw [List.getD_eq_getElem?_getD, List.getElem?_eq_getElem hl]
  rfl
theorem drop_at (s : ByteArray) (k : Nat) (h : k < s.size) : s.data.toList.drop k = s[k] :: s.data.toList.drop (k + 1) := List.drop_eq_getElem_cons (l := s.data.toList) h
theorem drop_none (s : ByteArray) (k : Nat) (h : s.size ≤ k) : s.data.toList.drop k = [] := List.drop_of_length_le h

theorem blankN_le : ∀ l : List UInt8, blankN l ≤ l.length
  | [] => Nat.le_refl _
  | c :: t => by
    unfold blankN
    split
    · have := blankN_le t; simp; omega
    · omega
theorem blankR_le (l : List UInt8) (k : Nat) (h : k ≤ l.length) : k ≤ blankR l k ∧ blankR l k ≤ l.length := by
  have := blankN_le (l.drop k)
  unfold blankR
  simp at this
  omega
theorem blankR_step (s : ByteArray) (k : Nat) (h : k < s.size) : blankR s.data.toList k = if isBlankI s[k].toNat then blankR s.data.toList (k + 1) else k := by
  unfold blankR
  rw [drop_at s k h]
  show k + (if isBlankI s[k].toNat then blankN (s.data.toList.drop (k + 1)) + 1 else 0) = _
  split <;> omega
theorem blankR_end (s : ByteArray) (k : Nat) (h : s.size ≤ k) : blankR s.data.toList k = k := by
  unfold blankR
  rw [drop_none s k h]
  rfl

def RelBkR (s : ByteArray) (k0 : Nat) (a : Value) : Prop := ∃ k : Nat, k ≤ s.size ∧ a = .int .i64 k ∧ blankR s.data.toList k0 = blankR s.data.toList k
set_option maxRecDepth 100000 in
theorem rblankR_any (s : ByteArray) (k : Nat) (hk : k ≤ s.size) (hs : s.size ≤ 100000) (W : World) :
    Calls Try.prog 16 #[.string s, .int .i64 k] W fun e w' => e = .returned (.int .i64 (blankR s.data.toList k)) ∧ W = w' := by
  go_enter Try.func16, Try.ntmps16
  go_wp2
  go_loop [1] (fun a => RelBkR s k a) (fun a => s.size - (intOf a).toNat)
  case atStart => exact ⟨k, hk, rfl, rfl⟩
  case round =>
    obtain ⟨j, hj, rfl, hb⟩ := hrel
    by_cases hlt : j < s.size
    · rw [blankR_step s j hlt] at hb
      by_cases hc : isBlankI s[j].toNat = true
      · rw [if_pos hc] at hb
        have HB := Lib.hid hb
        have HC := Lib.hid hc
        clear hb hc
        go_wp2_with (go_at_call 24; refine (rblank_any _ _).mono ?_; rintro e w' ⟨rfl, rfl⟩; rw [HC.out])
        go_round
        case rel => exact ⟨j + 1, by omega, by go_num, HB.out⟩
        case measure => simp [intOf]; omega
      · rw [if_neg hc] at hb
        have HB := Lib.hid hb
        have HC := Lib.hid (Bool.eq_false_iff.2 hc)
        clear hb hc
        go_wp2_with (go_at_call 24; refine (rblank_any _ _).mono ?_; rintro e w' ⟨rfl, rfl⟩; rw [HC.out])
        go_ret
        exact ⟨ret_i (by rw [HB.out]), rfl⟩
    · rw [blankR_end s j (by omega)] at hb
      have HB := Lib.hid hb
      clear hb
      go_wp2
      go_ret
      exact ⟨ret_i (by rw [HB.out]), rfl⟩

end Go.Proofs.Ytaklbbkjhbkieaa

namespace Go.Proofs.Ytaklbbkjhbkieaa
open Go.RowKit
set_option linter.unusedVariables false

theorem alive_text : ParseR [91, 32, 49, 44, 32, 123, 34, 97, 34, 32, 58, 50, 125, 32, 93] 9 = (.mk 4 0 15 [] [.mk 2 2 3 [49] [] [], .mk 5 5 13 [] [.mk 2 11 12 [50] [] []] [[97]]] [], 1, 15) := by kernel_rfl

theorem hexI_bd (c : Int) (h : isHexI c = true) : 0 ≤ hexI c ∧ hexI c ≤ 15 := by
  unfold isHexI at h
  unfold hexI
  simp at h ⊢
  (repeat' split) <;> omega
theorem hexGo_cons (f : Nat) (c : UInt8) (t : List UInt8) (v : Int) : hexGo (f + 1) (c :: t) v = if isHexI c.toNat then ((hexGo f t (v * 16 + hexI c.toNat)).1 + 1, (hexGo f t (v * 16 + hexI c.toNat)).2) else (0, v) := rfl
theorem hexGo_nil (f : Nat) (v : Int) : hexGo f [] v = (0, v) := by cases f <;> rfl
def RelHx (s : ByteArray) (v i : Value) : Prop :=
  ∃ (k : Nat) (x : Int), k ≤ 4 ∧ k ≤ s.size ∧ i = .int .i64 k ∧ v = .int .i64 x ∧ 0 ≤ x ∧ x < ((16 ^ k : Nat) : Int) ∧ hexR s.data.toList = ((hexGo (4 - k) (s.data.toList.drop k) x).1 + k, (hexGo (4 - k) (s.data.toList.drop k) x).2)
set_option maxRecDepth 100000 in
theorem rhexR_any (s : ByteArray) (hs : s.size ≤ 100000) (W : World) :
    Calls Try.prog 63 #[.string s] W fun e w' => e = .returned (.tuple #[.int .i64 (hexR s.data.toList).1, .int .i64 (hexR s.data.toList).2]) ∧ W = w' := by
  go_enter Try.func63, Try.ntmps63
  go_wp2
  go_loop [4, 5] (fun v i => RelHx s v i) (fun _ i => 5 - (intOf i).toNat)
  case atStart => exact ⟨0, 0, by omega, Nat.zero_le _, rfl, rfl, by omega, by decide, rfl⟩
  case round =>
    obtain ⟨k, x, hk4, hks, rfl, rfl, h0, h1, hh⟩ := hrel
    have hp : 16 ^ k ≤ 16 ^ 4 := Nat.pow_le_pow_right (by decide) hk4
    have hpw : (16 : Nat) ^ (k + 1) = 16 ^ k * 16 := Nat.pow_succ _ _
    have hx : x ≤ 65535 := by omega
    by_cases h4 : k < 4
    · obtain ⟨f, hf⟩ : ∃ f, 4 - k = f + 1 := ⟨3 - k, by omega⟩
      by_cases hlt : k < s.size
      · rw [hf, drop_at s k hlt, hexGo_cons] at hh
        have hc0 : (0 : Int) ≤ s[k].toNat := Int.natCast_nonneg _
        have hc1 : (s[k].toNat : Int) ≤ 255 := by have := UInt8.toNat_lt s[k]; omega
        by_cases hc : isHexI s[k].toNat = true
        · rw [if_pos hc] at hh
          obtain ⟨d0, d1⟩ := hexI_bd _ hc
          have HH := Lib.hid hh
          have HC := Lib.hid hc
          have HP := Lib.hid hpw
          have HX := Lib.hid h1
          have kt := Lib.hid (fun w => rhex_any _ w hc0 hc1)
          clear hh hc hpw h1 hp
          generalize hexI s[k].toNat = d at *
          go_wp2_with (go_at_call 64; refine (kt.out _).mono ?_; rintro e w' ⟨rfl, rfl⟩; rw [HC.out])
          go_round
          case rel => exact ⟨k + 1, x * 16 + d, by omega, hlt, by go_num, by go_num, by omega, (by have := HP.out; have := HX.out; omega), (by rw [HH.out, show 4 - (k + 1) = f by omega]; simp; omega)⟩
          case measure => simp [intOf]; omega
        · rw [if_neg hc] at hh
          have HH := Lib.hid hh
          have HC := Lib.hid (Bool.eq_false_iff.2 hc)
          have kt := Lib.hid (fun w => rhex_any _ w hc0 hc1)
          clear hh hc hpw h1 hp
          go_wp2_with (go_at_call 64; refine (kt.out _).mono ?_; rintro e w' ⟨rfl, rfl⟩; rw [HC.out])
          go_ret2
          exact ⟨(by rw [HH.out]; simp), rfl⟩
      · rw [drop_none s k (by omega), hexGo_nil] at hh
        have HH := Lib.hid hh
        clear hh hpw h1 hp
        go_wp2
        go_ret2
        exact ⟨(by rw [HH.out]; simp), rfl⟩
    · obtain rfl : k = 4 := by omega
      have HH := Lib.hid (show hexR s.data.toList = (4, x) by rw [hh]; rfl)
      clear hh hpw h1 hp
      go_wp2
      go_ret2
      exact ⟨(by rw [HH.out]; rfl), rfl⟩

end Go.Proofs.Ytaklbbkjhbkieaa

namespace Go.Proofs.Ytaklbbkjhbkieaa
open Go.RowKit
set_option linter.unusedVariables false

set_option maxRecDepth 100000 in
set_option maxHeartbeats 4000000 in
theorem rlet_47 (W : World) : Calls Try.prog 22 #[.int .u8 47] W fun e w' => e = .returned (.int .u8 47) ∧ Below W.heap.size W w' := by
  go_enter Try.func22, Try.ntmps22
  go_wp2
  refine wp_loop_rounds 9 ?_
  rw [rounds_succ]
  go_wp2
  rw [rounds_succ]
  go_wp2
  rw [rounds_succ]
  go_wp2
  go_ret
  exact ⟨rfl, below2 _ _ _⟩

set_option maxRecDepth 100000 in
set_option maxHeartbeats 4000000 in
theorem rlet_no (c : Int) (W : World) (h1 : ¬ (34 : Int) = c) (h2 : ¬ (92 : Int) = c) (h3 : ¬ (47 : Int) = c) (h4 : ¬ (98 : Int) = c) (h5 : ¬ (102 : Int) = c) (h6 : ¬ (110 : Int) = c) (h7 : ¬ (114 : Int) = c) (h8 : ¬ (116 : Int) = c) :
    Calls Try.prog 22 #[.int .u8 c] W fun e w' => e = .returned (.int .u8 0) ∧ Below W.heap.size W w' := by
  have b1 : ((34 : Int) == c) = false := beq_eq_false_iff_ne.2 h1
  have b2 : ((92 : Int) == c) = false := beq_eq_false_iff_ne.2 h2
  have b3 : ((47 : Int) == c) = false := beq_eq_false_iff_ne.2 h3
  have b4 : ((98 : Int) == c) = false := beq_eq_false_iff_ne.2 h4
  have b5 : ((102 : Int) == c) = false := beq_eq_false_iff_ne.2 h5
  have b6 : ((110 : Int) == c) = false := beq_eq_false_iff_ne.2 h6
  have b7 : ((114 : Int) == c) = false := beq_eq_false_iff_ne.2 h7
  have b8 : ((116 : Int) == c) = false := beq_eq_false_iff_ne.2 h8
  go_enter Try.func22, Try.ntmps22
  go_wp2
  refine wp_loop_rounds 10 ?_
  rw [rounds_succ]
  go_wp2
  rw [rounds_succ]
  go_wp2
  rw [rounds_succ]
  go_wp2
  rw [rounds_succ]
  go_wp2
  rw [rounds_succ]
  go_wp2
  rw [rounds_succ]
  go_wp2
  rw [rounds_succ]
  go_wp2
  rw [rounds_succ]
  go_wp2
  rw [rounds_succ]
  go_wp2
  go_ret
  exact ⟨rfl, below2 _ _ _⟩

theorem u8_ne {c : UInt8} {n : Nat} (h : c ≠ UInt8.ofNat n) : ¬ ((n : Nat) : Int) = c.toNat := by
  intro e
  apply h
  have : n = c.toNat := by omega
  rw [this]
  simp
theorem rletR_any (c : UInt8) (W : World) : Calls Try.prog 22 #[.int .u8 c.toNat] W fun e w' => e = .returned (.int .u8 (letR c).toNat) ∧ Below W.heap.size W w' := by
  by_cases h1 : c = 34
  · subst h1; exact rlet_34 W
  by_cases h2 : c = 92
  · subst h2; exact rlet_92 W
  by_cases h3 : c = 47
  · subst h3; exact rlet_47 W
  by_cases h4 : c = 98
  · subst h4; exact rlet_98 W
  by_cases h5 : c = 102
  · subst h5; exact rlet_102 W
  by_cases h6 : c = 110
  · subst h6; exact rlet_110 W
  by_cases h7 : c = 114
  · subst h7; exact rlet_114 W
  by_cases h8 : c = 116
  · subst h8; exact rlet_116 W
  have e : letR c = 0 := by unfold letR; rw [if_neg h1, if_neg h2, if_neg h3, if_neg h4, if_neg h5, if_neg h6, if_neg h7, if_neg h8]
  rw [e]
  have ne := fun (n : Nat) (hn : n < 256) (h : c ≠ UInt8.ofNat n) => u8_ne h
  exact rlet_no c.toNat W (ne 34 (by decide) h1) (ne 92 (by decide) h2) (ne 47 (by decide) h3) (ne 98 (by decide) h4) (ne 102 (by decide) h5) (ne 110 (by decide) h6) (ne 114 (by decide) h7) (ne 116 (by decide) h8)

end Go.Proofs.Ytaklbbkjhbkieaa
