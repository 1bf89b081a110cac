/- The walk of QuoteBack, over what package quote's Put and Read are proved to do. -/
import Derived.Test.YtjnllbgkgdehaaaLaw06
namespace Go.Proofs.Ytjnllbgkgdehaaa
open Go.RowKit

/-- A string's bytes, and those behind its first mark. -/
theorem put_facts (l : List UInt8) : ∃ x y : ByteArray, (ByteArray.mk (34 :: putL l ++ [34]).toArray) = x ∧ (ByteArray.mk (putL l ++ [34]).toArray) = y ∧
    x.size = (putL l).length + 2 ∧ (∀ h : 0 < x.size, (x[0].toNat : Int) = 34) ∧ x.extract 1 x.size = y := by
  refine ⟨_, _, rfl, rfl, ?_, fun h => rfl, ?_⟩
  · show (34 :: putL l ++ [34]).toArray.size = _
    simp
  · have e : ∀ a b : ByteArray, a.data.toList = b.data.toList → a = b := fun a b h => by
      cases a with | mk x => cases b with | mk y => exact congrArg ByteArray.mk (Array.toList_inj.1 h)
    apply e
    rw [ByteArray.data_extract, Array.toList_extract, List.extract_eq_take_drop]
    show ((34 :: putL l ++ [34]).drop 1).take _ = putL l ++ [34]
    rw [List.cons_append, List.drop_succ_cons, List.drop_zero, List.take_of_length_le]
    show (putL l ++ [34]).length ≤ (34 :: putL l ++ [34]).toArray.size - 1
    simp

set_option maxRecDepth 100000 in
set_option maxHeartbeats 1000000 in
theorem quoteBack_core {T : World → Prop} (hL : Lasts T) (hP : PutC T) (hR : ReadC T) (s raw : ByteArray) (W : World) (hT : T W) (hs : s.size ≤ maxLen) (hr : raw.size ≤ maxLen) :
    Calls Try.prog 4 #[.string s, .string raw] W fun e w' => e = .returned (.bool true) ∧ Below W.heap.size W w' := by
  unfold maxLen at hs hr
  have KA := Lib.hid (fun w h => alive6_any hL hR w h)
  by_cases h2 : 1000 < (s.size : Int)
  · clear hP hR
    go_enter Try.func4, Try.ntmps4
    go_wp2_with (first
      | (go_at_call 5; refine (KA.out _ hT).mono ?_; rintro e w1 ⟨rfl, hb1⟩))
    go_ret
    exact ⟨rfl, hb1⟩
  by_cases h3 : 1000 < (raw.size : Int)
  · clear hP hR
    go_enter Try.func4, Try.ntmps4
    go_wp2_with (first
      | (go_at_call 5; refine (KA.out _ hT).mono ?_; rintro e w1 ⟨rfl, hb1⟩))
    go_ret
    exact ⟨rfl, hb1⟩
  have h2' : (s.size : Int) ≤ 1000 := by omega
  have h3' : (raw.size : Int) ≤ 1000 := by omega
  have hsl : s.data.toList.length = s.size := rfl
  have hrl : raw.data.toList.length = raw.size := rfl
  have hpl := putL_len s.data.toList
  -- the first string
  have KP1 := fun w h => hP s w (by omega) h
  have KR1 := fun w h => read_at hR (putL s.data.toList ++ [34]) _ _ _ (readR_back s.data.toList) (by simp; omega) w h
  obtain ⟨x, y, hx, hy, hxs, hx0, hxy⟩ := put_facts s.data.toList
  rw [hx] at KP1
  rw [hy] at KR1
  have KB0 := fun w => rbad_any s w (by unfold maxLen; omega)
  have hnl : (normL s.data.toList).length ≤ 40000 := by
    have h := read_back s.data.toList
    have := read_len _ _ _ _ _ _ h
    simp [pendQ] at this
    omega
  have KB1 := fun w => rbad_any ⟨(normL s.data.toList).toArray⟩ w (by show (normL s.data.toList).toArray.size ≤ _; simp [maxLen]; omega)
  rw [show (ByteArray.mk (normL s.data.toList).toArray).data.toList = normL s.data.toList from rfl, bad_norm] at KB1
  have hid := fun h => norm_id (l := s.data.toList) h
  obtain ⟨t, ht⟩ : ∃ t : ByteArray, (ByteArray.mk (normL s.data.toList).toArray) = t := ⟨_, rfl⟩
  have hts : badU s.data.toList = -1 → t = s := fun h => by rw [← ht, hid h]
  rw [ht] at KR1 KB1
  have gn : ((((putL s.data.toList).length + 1 : Nat) : Int) != (x.size : Int) - 1) = false := by
    rw [bne_eq_false_iff_eq]; omega
  generalize ((putL s.data.toList).length + 1) = n at *
  have hx2 : (2 : Int) ≤ x.size := by omega
  have hxm : (x.size : Int) ≤ 10000 := by omega
  have hxp : 0 < x.size := by omega
  have hx00 := hx0 hxp
  have hx1 : 1 ≤ x.size := by omega
  clear hid hnl hpl hx hy hx0 ht hxs
  -- what is read of raw
  have KR2 := fun w h => hR raw w (by omega) h
  replace KP1 := Lib.hid KP1
  replace KR1 := Lib.hid KR1
  replace KB0 := Lib.hid KB0
  replace KB1 := Lib.hid KB1
  have HTS := Lib.hid hts
  clear hts
  obtain ⟨b, hb⟩ : ∃ b, badU s.data.toList = b := ⟨_, rfl⟩
  rw [hb] at KB0 HTS
  clear hb
  have t1 : True := trivial
  have t2 : True := trivial
  have t3 : True := trivial
  have t4 : True := trivial
  have t5 : True := trivial
  have t6 : True := trivial
  have t7 : True := trivial
  have t8 : True := trivial
  rcases readR_cases raw.data.toList .plain [] 0 with ⟨u, m, h1, h2⟩ | ⟨h1, m, j, h2, h4, h5⟩
  case inr =>
    rw [h2] at KR2
    replace KR2 := Lib.hid (show ∀ w, T w → Calls Try.prog 8 #[.string raw] w fun e w' => e = .returned (.tuple #[.string ⟨#[]⟩, .int .i64 m, .int .i64 j]) ∧ Below w.heap.size w w' from KR2)
    have gj : (j != 1) = true := by simp [h4]
    have hm : (m : Int) ≤ raw.size := by omega
    clear h1 h2 h4 h5 hP hR hsl hrl
    by_cases hb : b = -1
    · have gt2 : t.toList = s.toList := by rw [HTS.out hb]
      have gt3 : (s.toList != s.toList) = false := by simp
      subst hb
      go_enter Try.func4, Try.ntmps4
      go_wp2_with (first
        | (go_at_call 5; refine (KA.out _ hT).mono ?_; rintro e w1 ⟨rfl, hb1⟩; have hT1 := hL _ _ hT hb1)
        | (go_at_call 6; clear t1; refine (KP1.out _ hT1).mono ?_; rintro e w2 ⟨rfl, hb2⟩; have hT2 := hL _ _ hT1 hb2)
        | (go_at_call 8; clear t2; refine (KR1.out _ hT2).mono ?_; rintro e w3 ⟨rfl, hb3⟩; have hT3 := hL _ _ hT2 hb3)
        | (go_at_call 9; clear t3; refine (KB0.out _).mono ?_; rintro e w4 ⟨rfl, hb4⟩; have hT4 := hL _ _ hT3 hb4)
        | (go_at_call 9; clear t4; refine (KB1.out _).mono ?_; rintro e w5 ⟨rfl, hb5⟩; have hT5 := hL _ _ hT4 hb5)
        | (go_at_call 8; clear t5; refine (KR2.out _ hT5).mono ?_; rintro e w6 ⟨rfl, hb6⟩; have hT6 := hL _ _ hT5 hb6))
      go_ret
      have z1 := hb1.size
      have z2 := hb2.size
      have z3 := hb3.size
      have z4 := hb4.size
      have z5 := hb5.size
      exact ⟨rfl, (((((hb1.trans (hb2.mono (by omega))).trans (hb3.mono (by omega))).trans (hb4.mono (by omega))).trans (hb5.mono (by omega))).trans (hb6.mono (by omega)))⟩
    · have gb : (b == -1) = false := beq_eq_false_iff_ne.2 hb
      clear hb
      go_enter Try.func4, Try.ntmps4
      go_wp2_with (first
        | (go_at_call 5; refine (KA.out _ hT).mono ?_; rintro e w1 ⟨rfl, hb1⟩; have hT1 := hL _ _ hT hb1)
        | (go_at_call 6; clear t1; refine (KP1.out _ hT1).mono ?_; rintro e w2 ⟨rfl, hb2⟩; have hT2 := hL _ _ hT1 hb2)
        | (go_at_call 8; clear t2; refine (KR1.out _ hT2).mono ?_; rintro e w3 ⟨rfl, hb3⟩; have hT3 := hL _ _ hT2 hb3)
        | (go_at_call 9; clear t3; refine (KB0.out _).mono ?_; rintro e w4 ⟨rfl, hb4⟩; have hT4 := hL _ _ hT3 hb4)
        | (go_at_call 9; clear t4; refine (KB1.out _).mono ?_; rintro e w5 ⟨rfl, hb5⟩; have hT5 := hL _ _ hT4 hb5)
        | (go_at_call 8; clear t5; refine (KR2.out _ hT5).mono ?_; rintro e w6 ⟨rfl, hb6⟩; have hT6 := hL _ _ hT5 hb6))
      go_ret
      have z1 := hb1.size
      have z2 := hb2.size
      have z3 := hb3.size
      have z4 := hb4.size
      have z5 := hb5.size
      exact ⟨rfl, (((((hb1.trans (hb2.mono (by omega))).trans (hb3.mono (by omega))).trans (hb4.mono (by omega))).trans (hb5.mono (by omega))).trans (hb6.mono (by omega)))⟩
  case inl =>
    rw [h2] at KR2
    have hub := read_valid _ _ _ _ _ _ (show WQ .plain from trivial) rfl h1
    have hul := read_len _ _ _ _ _ _ h1
    have hul : u.length ≤ 4000 := by simp [pendQ] at hul; omega
    have hpl := putL_len u
    have KP2 := fun w h => hP ⟨u.toArray⟩ w hul h
    rw [show (ByteArray.mk u.toArray).data.toList = u from rfl] at KP2
    have KR3 := fun w h => read_at hR (putL u ++ [34]) _ _ _ (readR_back u) (by simp; omega) w h
    rw [norm_id hub] at KR3
    obtain ⟨x2, y2, hx2', hy2', hs2, h02, hxy2⟩ := put_facts u
    have hxs2 : 1 ≤ x2.size := by rw [← hx2']; show 1 ≤ (34 :: putL u ++ [34]).toArray.size; simp
    rw [hx2'] at KP2
    rw [hy2'] at KR3
    have KB2 := fun w => rbad_any ⟨u.toArray⟩ w (by show u.toArray.size ≤ _; simp [maxLen]; omega)
    rw [show (ByteArray.mk u.toArray).data.toList = u from rfl, hub] at KB2
    generalize (ByteArray.mk u.toArray) = ub at *
    have gu : (ub.toList == ub.toList) = true := by simp
    generalize (putL u).length + 1 = n2 at *
    replace KR2 := Lib.hid KR2
    replace KP2 := Lib.hid KP2
    replace KR3 := Lib.hid KR3
    replace KB2 := Lib.hid KB2
    clear h1 h2 hub hul hpl hP hR hsl hrl hx2' hy2' hs2 h02
    by_cases hb : b = -1
    · have gt2 : t.toList = s.toList := by rw [HTS.out hb]
      have gt3 : (s.toList != s.toList) = false := by simp
      subst hb
      go_enter Try.func4, Try.ntmps4
      go_wp2_with (first
        | (go_at_call 5; refine (KA.out _ hT).mono ?_; rintro e w1 ⟨rfl, hb1⟩; have hT1 := hL _ _ hT hb1)
        | (go_at_call 6; clear t1; refine (KP1.out _ hT1).mono ?_; rintro e w2 ⟨rfl, hb2⟩; have hT2 := hL _ _ hT1 hb2)
        | (go_at_call 8; clear t2; refine (KR1.out _ hT2).mono ?_; rintro e w3 ⟨rfl, hb3⟩; have hT3 := hL _ _ hT2 hb3)
        | (go_at_call 9; clear t3; refine (KB0.out _).mono ?_; rintro e w4 ⟨rfl, hb4⟩; have hT4 := hL _ _ hT3 hb4)
        | (go_at_call 9; clear t4; refine (KB1.out _).mono ?_; rintro e w5 ⟨rfl, hb5⟩; have hT5 := hL _ _ hT4 hb5)
        | (go_at_call 8; clear t5; refine (KR2.out _ hT5).mono ?_; rintro e w6 ⟨rfl, hb6⟩; have hT6 := hL _ _ hT5 hb6)
        | (go_at_call 6; clear t6; refine (KP2.out _ hT6).mono ?_; rintro e w7 ⟨rfl, hb7⟩; have hT7 := hL _ _ hT6 hb7)
        | (go_at_call 8; clear t7; refine (KR3.out _ hT7).mono ?_; rintro e w8 ⟨rfl, hb8⟩)
        | (go_at_call 9; clear t8; refine (KB2.out _).mono ?_; rintro e w9 ⟨rfl, hb9⟩))
      go_ret
      have z1 := hb1.size
      have z2 := hb2.size
      have z3 := hb3.size
      have z4 := hb4.size
      have z5 := hb5.size
      have z6 := hb6.size
      have z7 := hb7.size
      have z8 := hb8.size
      exact ⟨rfl, ((((((((hb1.trans (hb2.mono (by omega))).trans (hb3.mono (by omega))).trans (hb4.mono (by omega))).trans (hb5.mono (by omega))).trans (hb6.mono (by omega))).trans (hb7.mono (by omega))).trans (hb8.mono (by omega))).trans (hb9.mono (by omega)))⟩
    · have gb : (b == -1) = false := beq_eq_false_iff_ne.2 hb
      clear hb
      go_enter Try.func4, Try.ntmps4
      go_wp2_with (first
        | (go_at_call 5; refine (KA.out _ hT).mono ?_; rintro e w1 ⟨rfl, hb1⟩; have hT1 := hL _ _ hT hb1)
        | (go_at_call 6; clear t1; refine (KP1.out _ hT1).mono ?_; rintro e w2 ⟨rfl, hb2⟩; have hT2 := hL _ _ hT1 hb2)
        | (go_at_call 8; clear t2; refine (KR1.out _ hT2).mono ?_; rintro e w3 ⟨rfl, hb3⟩; have hT3 := hL _ _ hT2 hb3)
        | (go_at_call 9; clear t3; refine (KB0.out _).mono ?_; rintro e w4 ⟨rfl, hb4⟩; have hT4 := hL _ _ hT3 hb4)
        | (go_at_call 9; clear t4; refine (KB1.out _).mono ?_; rintro e w5 ⟨rfl, hb5⟩; have hT5 := hL _ _ hT4 hb5)
        | (go_at_call 8; clear t5; refine (KR2.out _ hT5).mono ?_; rintro e w6 ⟨rfl, hb6⟩; have hT6 := hL _ _ hT5 hb6)
        | (go_at_call 6; clear t6; refine (KP2.out _ hT6).mono ?_; rintro e w7 ⟨rfl, hb7⟩; have hT7 := hL _ _ hT6 hb7)
        | (go_at_call 8; clear t7; refine (KR3.out _ hT7).mono ?_; rintro e w8 ⟨rfl, hb8⟩)
        | (go_at_call 9; clear t8; refine (KB2.out _).mono ?_; rintro e w9 ⟨rfl, hb9⟩))
      go_ret
      have z1 := hb1.size
      have z2 := hb2.size
      have z3 := hb3.size
      have z4 := hb4.size
      have z5 := hb5.size
      have z6 := hb6.size
      have z7 := hb7.size
      have z8 := hb8.size
      exact ⟨rfl, ((((((((hb1.trans (hb2.mono (by omega))).trans (hb3.mono (by omega))).trans (hb4.mono (by omega))).trans (hb5.mono (by omega))).trans (hb6.mono (by omega))).trans (hb7.mono (by omega))).trans (hb8.mono (by omega))).trans (hb9.mono (by omega)))⟩

end Go.Proofs.Ytjnllbgkgdehaaa
