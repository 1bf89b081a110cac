/- Package quote's Walk: Step within escapes and pairs. -/
import Derived.Test.YtclcjngdpicjjaaJ11
namespace Go.Proofs.Ytclcjngdpicjjaa
open Go.RowKit
set_option linter.unusedVariables false

theorem hex_of (c : UInt8) (d : Int) (h : hexB c = some d) (w : World) :
    Calls Try.prog 75 #[.int .u8 c.toNat] w fun e w' => e = .returned (.tuple #[.int .i64 d, .bool true]) ∧ w = w' := by
  have hc := UInt8.toNat_lt c
  have := hex_any c.toNat w (by omega) (by omega)
  rw [hexB_is] at h
  split at h
  · rename_i h1
    rw [h1, Option.some.inj h] at this
    exact this
  · cases h
theorem hex_not (c : UInt8) (h : hexB c = none) (w : World) :
    Calls Try.prog 75 #[.int .u8 c.toNat] w fun e w' => e = .returned (.tuple #[.int .i64 0, .bool false]) ∧ w = w' := by
  have hc := UInt8.toNat_lt c
  have := hex_any c.toNat w (by omega) (by omega)
  rw [hexB_is] at h
  split at h
  · cases h
  · rename_i h1
    have h0 : hexI c.toNat = 0 := by
      unfold isHexI at h1
      unfold hexI
      simp at h1
      rw [if_neg (by omega), if_neg (by omega), if_neg (by omega)]
    rw [show isHexI c.toNat = false by simpa using h1, h0] at this
    exact this

set_option maxHeartbeats 1000000 in
theorem seconds_one (n : Int) (h0 : 0 ≤ n) (h9 : n ≤ 15) (x : Bool) (hx : decide (n = 13) = x) (w : World) :
    Calls Try.prog 76 #[.int .i64 n, .int .i64 1] w fun e w' => e = .returned (.bool x) ∧ w = w' := by
  have hu := fun w => unit_any ((n + 1) * 4096 - 1) w
  have he : unitI ((n + 1) * 4096 - 1) = if x then 2 else 0 := by
    subst hx
    unfold unitI
    by_cases h : n = 13
    · subst h; rfl
    · rw [decide_eq_false h, if_neg (by omega), if_neg (by omega)]; rfl
  rw [he] at hu
  have HU := Lib.hid hu
  clear he hu hx
  cases x
  all_goals
    go_enter Try.func76, Try.ntmps76
    go_wp2_with (go_at_call 81; refine (HU.out _).mono ?_; rintro e w' ⟨rfl, rfl⟩)
    go_ret
    exact ⟨rfl, rfl⟩

set_option maxHeartbeats 1000000 in
theorem seconds_two (n : Int) (h0 : 0 ≤ n) (h9 : n ≤ 255) (x : Bool) (hx : decide (220 ≤ n ∧ n ≤ 223) = x) (w : World) :
    Calls Try.prog 76 #[.int .i64 n, .int .i64 2] w fun e w' => e = .returned (.bool x) ∧ w = w' := by
  have hu := fun w => unit_any ((n + 1) * 256 - 1) w
  have he : unitI ((n + 1) * 256 - 1) = 2 ∧ x = true ∨ (unitI ((n + 1) * 256 - 1) = 0 ∨ unitI ((n + 1) * 256 - 1) = 1) ∧ x = false := by
    subst hx
    unfold unitI
    by_cases h : 220 ≤ n ∧ n ≤ 223
    · rw [if_neg (by omega), if_pos (by omega)]; simp [h]
    · refine .inr ⟨?_, decide_eq_false h⟩
      (repeat' split) <;> omega
  clear hx
  generalize unitI ((n + 1) * 256 - 1) = u at *
  have HU := Lib.hid hu
  clear hu
  rcases he with ⟨rfl, rfl⟩ | ⟨rfl | rfl, rfl⟩
  all_goals
    go_enter Try.func76, Try.ntmps76
    go_wp2_with (go_at_call 81; refine (HU.out _).mono ?_; rintro e w' ⟨rfl, rfl⟩)
    go_ret
    exact ⟨rfl, rfl⟩

set_option maxHeartbeats 1000000 in
theorem half_on (w : World) (b : Nat) (a sg lf num cnt fst : Int) (acc : List UInt8) (c nx : Int) (h : QT w b a sg lf num cnt fst acc) :
    Calls Try.prog 67 #[.pointer (some ⟨b, 0, none⟩), .int .u8 c, .int .u8 c, .int .i64 nx] w fun e w' => e = .returned (.int .i64 0) ∧ QT w' b nx sg lf num cnt fst acc ∧ Turned b w w' := by
  have c0 := h.c0
  have f0 := h.free 0
  have H := Lib.hid h
  have g : (c != c) = false := by simp
  clear h
  go_enter Try.func67, Try.ntmps67
  go_wp2
  go_ret
  exact ⟨rfl, H.out.put0 nx, (Turned.refl b w).put 0 _⟩
set_option maxHeartbeats 1000000 in
theorem half_no (w : World) (b : Nat) (c x nx : Int) (hne : c ≠ x) :
    Calls Try.prog 67 #[.pointer (some ⟨b, 0, none⟩), .int .u8 c, .int .u8 x, .int .i64 nx] w fun e w' => e = .returned (.int .i64 4) ∧ w = w' := by
  have g : (c != x) = true := bne_iff_ne.2 hne
  clear hne
  go_enter Try.func67, Try.ntmps67
  go_wp2
  go_ret
  exact ⟨rfl, rfl⟩

theorem add_lit (b : Nat) (at_ sg lf num cnt fst : Int) (acc : List UInt8) (x v : Int) (l : List UInt8) (hx : x = v) (hv : Sgn v) (hl : ofB v = l) (w : World) (h : QT w b at_ sg lf num cnt fst acc) :
    Calls Try.prog 72 #[.pointer (some ⟨b, 0, none⟩), .int .i32 x] w fun e w' => e = .returned (.tuple #[]) ∧ QT w' b at_ sg lf num cnt fst (acc ++ l) ∧ Turned b w w' := by
  subst hx hl
  exact (add_any b at_ sg lf num cnt fst acc x hv w h).mono fun e w' h => h

theorem qidx (c : UInt8) (k : Int) (h : Lib.indexByte [34, 92, 98, 102, 110, 114, 116] c = k) (x : Int) (hx : (c.toNat : Int) = x) (w : World) :
    Calls Try.prog 74 #[.string ⟨#[34, 92, 98, 102, 110, 114, 116]⟩, .int .u8 x] w fun e w' => e = .returned (.int .i64 k) ∧ w' = w := by
  subst hx
  have := Try.strings_IndexByte ⟨#[34, 92, 98, 102, 110, 114, 116]⟩ c.toNat w
  rw [show (c.toNat : Int).toNat.toUInt8 = c by simp, show (ByteArray.mk #[34, 92, 98, 102, 110, 114, 116]).data.toList = [34, 92, 98, 102, 110, 114, 116] from rfl, h] at this
  exact this

set_option maxHeartbeats 1000000 in
theorem escape_u (w : World) (b : Nat) (a sg lf num cnt fst : Int) (acc : List UInt8) (h : QT w b a sg lf num cnt fst acc) :
    Calls Try.prog 65 #[.pointer (some ⟨b, 0, none⟩), .int .u8 117] w fun e w' => e = .returned (.int .i64 0) ∧ QT w' b 2 sg lf num cnt fst acc ∧ Turned b w w' := by
  have c0 := h.c0
  have f0 := h.free 0
  have H := Lib.hid h
  have HI := Lib.hid (qidx 117 (-1) (by decide +kernel) 117 rfl w)
  clear h
  go_enter Try.func65, Try.ntmps65
  go_wp2_with (go_at_call 74; refine HI.out.mono ?_; rintro e w' ⟨rfl, rfl⟩)
  go_ret
  exact ⟨rfl, H.out.put0 2, (Turned.refl b _).put 0 _⟩

/-- An escape of one letter. -/
def EscOn (w : World) (b : Nat) (sg lf num cnt fst : Int) (acc : List UInt8) (e : Ending) (w' : World) : Prop := e = .returned (.int .i64 0) ∧ QT w' b 0 sg lf num cnt fst acc ∧ Turned b w w'

set_option maxHeartbeats 1000000 in
theorem escape_34 (w : World) (b : Nat) (a sg lf num cnt fst : Int) (acc : List UInt8) (h : QT w b a sg lf num cnt fst acc) :
    Calls Try.prog 65 #[.pointer (some ⟨b, 0, none⟩), .int .u8 34] w (EscOn w b sg lf num cnt fst (acc ++ [34])) := by
  have H := Lib.hid h
  have HI := Lib.hid (qidx 34 (0) (by decide +kernel) 34 rfl w)
  have e0 : wrap32 (((ByteArray.mk #[34, 92, 8, 12, 10, 13, 9])[0].toNat : Int)) = 34 := by decide +kernel
  clear h
  go_enter Try.func65, Try.ntmps65
  go_wp2_with (first
    | (go_at_call 74; refine HI.out.mono ?_; rintro e w' ⟨rfl, rfl⟩)
    | (go_at_call 72; refine (add_lit b _ _ _ _ _ _ _ _ 34 [34] rfl (by unfold Sgn; decide) (by decide +kernel) _ H.out).mono ?_; rintro e w1 ⟨rfl, h1, t1⟩; have c0 := h1.c0; have f0 := h1.free 0; have H1 := Lib.hid h1; have T1 := Lib.hid t1; clear h1 t1))
  go_ret
  exact ⟨rfl, H1.out.put0 0, T1.out.put 0 _⟩

set_option maxHeartbeats 1000000 in
theorem escape_92 (w : World) (b : Nat) (a sg lf num cnt fst : Int) (acc : List UInt8) (h : QT w b a sg lf num cnt fst acc) :
    Calls Try.prog 65 #[.pointer (some ⟨b, 0, none⟩), .int .u8 92] w (EscOn w b sg lf num cnt fst (acc ++ [92])) := by
  have H := Lib.hid h
  have HI := Lib.hid (qidx 92 (1) (by decide +kernel) 92 rfl w)
  have e0 : wrap32 (((ByteArray.mk #[34, 92, 8, 12, 10, 13, 9])[1].toNat : Int)) = 92 := by decide +kernel
  clear h
  go_enter Try.func65, Try.ntmps65
  go_wp2_with (first
    | (go_at_call 74; refine HI.out.mono ?_; rintro e w' ⟨rfl, rfl⟩)
    | (go_at_call 72; refine (add_lit b _ _ _ _ _ _ _ _ 92 [92] rfl (by unfold Sgn; decide) (by decide +kernel) _ H.out).mono ?_; rintro e w1 ⟨rfl, h1, t1⟩; have c0 := h1.c0; have f0 := h1.free 0; have H1 := Lib.hid h1; have T1 := Lib.hid t1; clear h1 t1))
  go_ret
  exact ⟨rfl, H1.out.put0 0, T1.out.put 0 _⟩

set_option maxHeartbeats 1000000 in
theorem escape_98 (w : World) (b : Nat) (a sg lf num cnt fst : Int) (acc : List UInt8) (h : QT w b a sg lf num cnt fst acc) :
    Calls Try.prog 65 #[.pointer (some ⟨b, 0, none⟩), .int .u8 98] w (EscOn w b sg lf num cnt fst (acc ++ [8])) := by
  have H := Lib.hid h
  have HI := Lib.hid (qidx 98 (2) (by decide +kernel) 98 rfl w)
  have e0 : wrap32 (((ByteArray.mk #[34, 92, 8, 12, 10, 13, 9])[2].toNat : Int)) = 8 := by decide +kernel
  clear h
  go_enter Try.func65, Try.ntmps65
  go_wp2_with (first
    | (go_at_call 74; refine HI.out.mono ?_; rintro e w' ⟨rfl, rfl⟩)
    | (go_at_call 72; refine (add_lit b _ _ _ _ _ _ _ _ 8 [8] rfl (by unfold Sgn; decide) (by decide +kernel) _ H.out).mono ?_; rintro e w1 ⟨rfl, h1, t1⟩; have c0 := h1.c0; have f0 := h1.free 0; have H1 := Lib.hid h1; have T1 := Lib.hid t1; clear h1 t1))
  go_ret
  exact ⟨rfl, H1.out.put0 0, T1.out.put 0 _⟩

set_option maxHeartbeats 1000000 in
theorem escape_102 (w : World) (b : Nat) (a sg lf num cnt fst : Int) (acc : List UInt8) (h : QT w b a sg lf num cnt fst acc) :
    Calls Try.prog 65 #[.pointer (some ⟨b, 0, none⟩), .int .u8 102] w (EscOn w b sg lf num cnt fst (acc ++ [12])) := by
  have H := Lib.hid h
  have HI := Lib.hid (qidx 102 (3) (by decide +kernel) 102 rfl w)
  have e0 : wrap32 (((ByteArray.mk #[34, 92, 8, 12, 10, 13, 9])[3].toNat : Int)) = 12 := by decide +kernel
  clear h
  go_enter Try.func65, Try.ntmps65
  go_wp2_with (first
    | (go_at_call 74; refine HI.out.mono ?_; rintro e w' ⟨rfl, rfl⟩)
    | (go_at_call 72; refine (add_lit b _ _ _ _ _ _ _ _ 12 [12] rfl (by unfold Sgn; decide) (by decide +kernel) _ H.out).mono ?_; rintro e w1 ⟨rfl, h1, t1⟩; have c0 := h1.c0; have f0 := h1.free 0; have H1 := Lib.hid h1; have T1 := Lib.hid t1; clear h1 t1))
  go_ret
  exact ⟨rfl, H1.out.put0 0, T1.out.put 0 _⟩

set_option maxHeartbeats 1000000 in
theorem escape_110 (w : World) (b : Nat) (a sg lf num cnt fst : Int) (acc : List UInt8) (h : QT w b a sg lf num cnt fst acc) :
    Calls Try.prog 65 #[.pointer (some ⟨b, 0, none⟩), .int .u8 110] w (EscOn w b sg lf num cnt fst (acc ++ [10])) := by
  have H := Lib.hid h
  have HI := Lib.hid (qidx 110 (4) (by decide +kernel) 110 rfl w)
  have e0 : wrap32 (((ByteArray.mk #[34, 92, 8, 12, 10, 13, 9])[4].toNat : Int)) = 10 := by decide +kernel
  clear h
  go_enter Try.func65, Try.ntmps65
  go_wp2_with (first
    | (go_at_call 74; refine HI.out.mono ?_; rintro e w' ⟨rfl, rfl⟩)
    | (go_at_call 72; refine (add_lit b _ _ _ _ _ _ _ _ 10 [10] rfl (by unfold Sgn; decide) (by decide +kernel) _ H.out).mono ?_; rintro e w1 ⟨rfl, h1, t1⟩; have c0 := h1.c0; have f0 := h1.free 0; have H1 := Lib.hid h1; have T1 := Lib.hid t1; clear h1 t1))
  go_ret
  exact ⟨rfl, H1.out.put0 0, T1.out.put 0 _⟩

set_option maxHeartbeats 1000000 in
theorem escape_114 (w : World) (b : Nat) (a sg lf num cnt fst : Int) (acc : List UInt8) (h : QT w b a sg lf num cnt fst acc) :
    Calls Try.prog 65 #[.pointer (some ⟨b, 0, none⟩), .int .u8 114] w (EscOn w b sg lf num cnt fst (acc ++ [13])) := by
  have H := Lib.hid h
  have HI := Lib.hid (qidx 114 (5) (by decide +kernel) 114 rfl w)
  have e0 : wrap32 (((ByteArray.mk #[34, 92, 8, 12, 10, 13, 9])[5].toNat : Int)) = 13 := by decide +kernel
  clear h
  go_enter Try.func65, Try.ntmps65
  go_wp2_with (first
    | (go_at_call 74; refine HI.out.mono ?_; rintro e w' ⟨rfl, rfl⟩)
    | (go_at_call 72; refine (add_lit b _ _ _ _ _ _ _ _ 13 [13] rfl (by unfold Sgn; decide) (by decide +kernel) _ H.out).mono ?_; rintro e w1 ⟨rfl, h1, t1⟩; have c0 := h1.c0; have f0 := h1.free 0; have H1 := Lib.hid h1; have T1 := Lib.hid t1; clear h1 t1))
  go_ret
  exact ⟨rfl, H1.out.put0 0, T1.out.put 0 _⟩

set_option maxHeartbeats 1000000 in
theorem escape_116 (w : World) (b : Nat) (a sg lf num cnt fst : Int) (acc : List UInt8) (h : QT w b a sg lf num cnt fst acc) :
    Calls Try.prog 65 #[.pointer (some ⟨b, 0, none⟩), .int .u8 116] w (EscOn w b sg lf num cnt fst (acc ++ [9])) := by
  have H := Lib.hid h
  have HI := Lib.hid (qidx 116 (6) (by decide +kernel) 116 rfl w)
  have e0 : wrap32 (((ByteArray.mk #[34, 92, 8, 12, 10, 13, 9])[6].toNat : Int)) = 9 := by decide +kernel
  clear h
  go_enter Try.func65, Try.ntmps65
  go_wp2_with (first
    | (go_at_call 74; refine HI.out.mono ?_; rintro e w' ⟨rfl, rfl⟩)
    | (go_at_call 72; refine (add_lit b _ _ _ _ _ _ _ _ 9 [9] rfl (by unfold Sgn; decide) (by decide +kernel) _ H.out).mono ?_; rintro e w1 ⟨rfl, h1, t1⟩; have c0 := h1.c0; have f0 := h1.free 0; have H1 := Lib.hid h1; have T1 := Lib.hid t1; clear h1 t1))
  go_ret
  exact ⟨rfl, H1.out.put0 0, T1.out.put 0 _⟩

set_option maxHeartbeats 1000000 in
theorem escape_47 (w : World) (b : Nat) (a sg lf num cnt fst : Int) (acc : List UInt8) (h : QT w b a sg lf num cnt fst acc) :
    Calls Try.prog 65 #[.pointer (some ⟨b, 0, none⟩), .int .u8 47] w (EscOn w b sg lf num cnt fst (acc ++ [47])) := by
  have H := Lib.hid h
  have HI := Lib.hid (qidx 47 (-1) (by decide +kernel) 47 rfl w)
  clear h
  go_enter Try.func65, Try.ntmps65
  go_wp2_with (first
    | (go_at_call 74; refine HI.out.mono ?_; rintro e w' ⟨rfl, rfl⟩)
    | (go_at_call 72; refine (add_lit b _ _ _ _ _ _ _ _ 47 [47] rfl (by unfold Sgn; decide) (by decide +kernel) _ H.out).mono ?_; rintro e w1 ⟨rfl, h1, t1⟩; have c0 := h1.c0; have f0 := h1.free 0; have H1 := Lib.hid h1; have T1 := Lib.hid t1; clear h1 t1))
  go_ret
  exact ⟨rfl, H1.out.put0 0, T1.out.put 0 _⟩

theorem let_cases (c : UInt8) : (c = 34 ∨ c = 92 ∨ c = 98 ∨ c = 102 ∨ c = 110 ∨ c = 114 ∨ c = 116 ∨ c = 47) ∨ (letB c = 0 ∧ c ≠ 47 ∧ Lib.indexByte [34, 92, 98, 102, 110, 114, 116] c = -1) := by
  by_cases h1 : c = 34
  · exact .inl (.inl h1)
  by_cases h2 : c = 92
  · exact .inl (.inr (.inl h2))
  by_cases h3 : c = 98
  · exact .inl (.inr (.inr (.inl h3)))
  by_cases h4 : c = 102
  · exact .inl (.inr (.inr (.inr (.inl h4))))
  by_cases h5 : c = 110
  · exact .inl (.inr (.inr (.inr (.inr (.inl h5)))))
  by_cases h6 : c = 114
  · exact .inl (.inr (.inr (.inr (.inr (.inr (.inl h6))))))
  by_cases h7 : c = 116
  · exact .inl (.inr (.inr (.inr (.inr (.inr (.inr (.inl h7)))))))
  by_cases h8 : c = 47
  · exact .inl (.inr (.inr (.inr (.inr (.inr (.inr (.inr h8)))))))
  refine .inr ⟨by simp [letB, *], h8, ?_⟩
  have g : ∀ x : UInt8, c ≠ x → (x == c) = false := fun x h => beq_eq_false_iff_ne.2 (fun e => h e.symm)
  simp [Lib.indexByte, g 34 h1, g 92 h2, g 98 h3, g 102 h4, g 110 h5, g 114 h6, g 116 h7]

set_option maxHeartbeats 1000000 in
theorem escape_no (w : World) (b : Nat) (c : UInt8) (h1 : c ≠ 117) (h2 : c ≠ 47) (hi : Lib.indexByte [34, 92, 98, 102, 110, 114, 116] c = -1) :
    Calls Try.prog 65 #[.pointer (some ⟨b, 0, none⟩), .int .u8 c.toNat] w fun e w' => e = .returned (.int .i64 3) ∧ w = w' := by
  have HI := Lib.hid (qidx c (-1) hi c.toNat rfl w)
  have g1 : ((c.toNat : Int) == 117) = false := beq_eq_false_iff_ne.2 (fun e => h1 (UInt8.toNat_inj.1 (by show c.toNat = 117; omega)))
  have g2 : ((c.toNat : Int) == 47) = false := beq_eq_false_iff_ne.2 (fun e => h2 (UInt8.toNat_inj.1 (by show c.toNat = 47; omega)))
  clear h1 h2 hi
  go_enter Try.func65, Try.ntmps65
  go_wp2_with (go_at_call 74; refine HI.out.mono ?_; rintro e w' ⟨rfl, rfl⟩)
  go_ret
  exact ⟨rfl, rfl⟩

set_option maxHeartbeats 1000000 in
/-- A number's end. -/
theorem endNumber_first (w : World) (b : Nat) (a sg lf num cnt fst : Int) (acc : List UInt8) (hn : 55296 ≤ num ∧ num ≤ 56319) (h : QT w b a sg lf num cnt fst acc) :
    Calls Try.prog 77 #[.pointer (some ⟨b, 0, none⟩)] w fun e w' => e = .returned (.tuple #[]) ∧ QT w' b 3 sg lf 0 0 num acc ∧ Turned b w w' := by
  have c0 := h.c0
  have c3 := h.c3
  have c4 := h.c4
  have c5 := h.c5
  have f0 := h.free 0
  have f3 := h.free 3
  have f4 := h.free 4
  have f5 := h.free 5
  have hu := fun w => unit_any num w
  rw [show unitI num = 1 by unfold unitI; rw [if_pos (by omega)]] at hu
  have HU := Lib.hid hu
  have H := Lib.hid h
  clear h hu
  go_enter Try.func77, Try.ntmps77
  go_wp2
  go_quiet (fail)
  have h1 : QT (w.drewN nq) b a sg lf num cnt fst acc := H.out.turned rfl ((Turned.refl b w))
  have t1 : Turned b w (w.drewN nq) := Turned.refl b w
  generalize w.drewN nq = w1 at *
  clear c0 c3 c4 c5 f0 f3 f4 f5
  have c0 := h1.c0
  have c3 := h1.c3
  have c4 := h1.c4
  have c5 := h1.c5
  have f0 := h1.free 0
  have f3 := h1.free 3
  have f4 := h1.free 4
  have f5 := h1.free 5
  have H1 := Lib.hid h1
  have T1 := Lib.hid t1
  clear h1 t1
  go_wp2_with (go_at_call 81; refine (HU.out _).mono ?_; rintro e w' ⟨rfl, rfl⟩)
  refine bodyPost_ret (results_none rfl _ _ _) rfl ?_
  exact ⟨rfl, (((((H1.out.put3 0).put4 0).put5 0).put0 3).put5 num), ((((T1.out.put 3 _).put 4 _).put 5 _).put 0 _).put 5 _⟩

set_option maxHeartbeats 1000000 in
theorem endNumber_plain (w : World) (b : Nat) (a sg lf num cnt fst : Int) (acc : List UInt8) (hf : fst = 0) (hn : 0 ≤ num ∧ num ≤ 65535 ∧ (num < 55296 ∨ 57343 < num)) (h : QT w b a sg lf num cnt fst acc) :
    Calls Try.prog 77 #[.pointer (some ⟨b, 0, none⟩)] w fun e w' => e = .returned (.tuple #[]) ∧ QT w' b 0 sg lf 0 0 0 (acc ++ ofB num) ∧ Turned b w w' := by
  have c0 := h.c0
  have c3 := h.c3
  have c4 := h.c4
  have c5 := h.c5
  have f0 := h.free 0
  have f3 := h.free 3
  have f4 := h.free 4
  have f5 := h.free 5
  have hu := fun w => unit_any num w
  rw [show unitI num = 0 by unfold unitI; rw [if_neg (by omega), if_neg (by omega)]] at hu
  have HU := Lib.hid hu
  have H := Lib.hid h
  have n0 : 0 ≤ num := hn.1
  have n9 : num ≤ 65535 := hn.2.1
  clear h hu
  go_enter Try.func77, Try.ntmps77
  go_wp2
  go_quiet (fail)
  have h1 : QT (w.drewN nq) b a sg lf num cnt fst acc := H.out.turned rfl ((Turned.refl b w))
  have t1 : Turned b w (w.drewN nq) := Turned.refl b w
  generalize w.drewN nq = w1 at *
  clear c0 c3 c4 c5 f0 f3 f4 f5
  have c0 := h1.c0
  have c3 := h1.c3
  have c4 := h1.c4
  have c5 := h1.c5
  have f0 := h1.free 0
  have f3 := h1.free 3
  have f4 := h1.free 4
  have f5 := h1.free 5
  have H1 := Lib.hid h1
  have T1 := Lib.hid t1
  clear h1 t1
  have h2 := ((((H1.out.put3 0).put4 0).put5 0).put0 0)
  have t2 := ((((T1.out.put 3 (.int .i64 0)).put 4 (.int .i64 0)).put 5 (.int .i64 0)).put 0 (.int .i64 0))
  have H2 := Lib.hid h2
  have T2 := Lib.hid t2
  clear h2 t2
  go_wp2_with (first
    | (go_at_call 81; refine (HU.out _).mono ?_; rintro e w' ⟨rfl, rfl⟩)
    | (go_at_call 72; refine (add_lit b _ _ _ _ _ _ _ _ num _ (by first | rfl | exact e0) (by unfold Sgn; omega) rfl _ H2.out).mono ?_; rintro e w3 ⟨rfl, h3, t3⟩))
  go_end0
  exact ⟨rfl, h3, T2.out.trans t3⟩

set_option maxHeartbeats 1000000 in
theorem endNumber_pair (w : World) (b : Nat) (a sg lf num cnt fst : Int) (acc : List UInt8) (hf : 55296 ≤ fst ∧ fst ≤ 56319) (hn : 56320 ≤ num ∧ num ≤ 57343) (h : QT w b a sg lf num cnt fst acc) :
    Calls Try.prog 77 #[.pointer (some ⟨b, 0, none⟩)] w fun e w' => e = .returned (.tuple #[]) ∧ QT w' b 0 sg lf 0 0 0 (acc ++ ofB (65536 + (fst - 55296) * 1024 + (num - 56320))) ∧ Turned b w w' := by
  have c0 := h.c0
  have c3 := h.c3
  have c4 := h.c4
  have c5 := h.c5
  have f0 := h.free 0
  have f3 := h.free 3
  have f4 := h.free 4
  have f5 := h.free 5
  have hu := fun w => unit_any num w
  rw [show unitI num = 2 by unfold unitI; rw [if_neg (by omega), if_pos (by omega)]] at hu
  have HU := Lib.hid hu
  have H := Lib.hid h
  obtain ⟨f00, f99⟩ := hf
  obtain ⟨n0, n9⟩ := hn
  have gf : (fst != 0) = true := bne_iff_ne.2 (by omega)
  clear h hu
  go_enter Try.func77, Try.ntmps77
  go_wp2
  go_quiet (fail)
  have h1 : QT (w.drewN nq) b a sg lf num cnt fst acc := H.out.turned rfl ((Turned.refl b w))
  have t1 : Turned b w (w.drewN nq) := Turned.refl b w
  generalize w.drewN nq = w1 at *
  clear c0 c3 c4 c5 f0 f3 f4 f5
  have c0 := h1.c0
  have c3 := h1.c3
  have c4 := h1.c4
  have c5 := h1.c5
  have f0 := h1.free 0
  have f3 := h1.free 3
  have f4 := h1.free 4
  have f5 := h1.free 5
  have H1 := Lib.hid h1
  have T1 := Lib.hid t1
  clear h1 t1
  have h2 := ((((H1.out.put3 0).put4 0).put5 0).put0 0)
  have t2 := ((((T1.out.put 3 (.int .i64 0)).put 4 (.int .i64 0)).put 5 (.int .i64 0)).put 0 (.int .i64 0))
  have H2 := Lib.hid h2
  have T2 := Lib.hid t2
  clear h2 t2
  go_wp2_with (first
    | (go_at_call 81; refine (HU.out _).mono ?_; rintro e w' ⟨rfl, rfl⟩)
    | (go_at_call 72; refine (add_lit b _ _ _ _ _ _ _ _ (65536 + (fst - 55296) * 1024 + (num - 56320)) _ (by first | rfl | omega) (by unfold Sgn; omega) rfl _ H2.out).mono ?_; rintro e w3 ⟨rfl, h3, t3⟩))
  go_end0
  exact ⟨rfl, h3, T2.out.trans t3⟩

end Go.Proofs.Ytclcjngdpicjjaa
