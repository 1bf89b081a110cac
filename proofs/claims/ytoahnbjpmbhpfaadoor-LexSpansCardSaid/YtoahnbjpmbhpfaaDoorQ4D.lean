/- Package quote's Walk: a digit of an escape. -/
import Derived.Test.YtoahnbjpmbhpfaaDoorQ4C
namespace Go.Proofs.YtoahnbjpmbhpfaaDoor.K4
open Go.RowKit
variable {Rs : Rest}
set_option linter.unusedVariables false

theorem i64_or16 (n d : Int) (h0 : 0 ≤ n) (h9 : n ≤ 1000000) (d0 : 0 ≤ d) (d9 : d ≤ 15) : bits .or .i64 (n * 16) d = n * 16 + d := by
  obtain ⟨a, rfl⟩ := Int.eq_ofNat_of_zero_le h0
  obtain ⟨b, rfl⟩ := Int.eq_ofNat_of_zero_le d0
  have e1 : (BitVec.ofInt 64 ((a : Int) * 16)).toNat = a * 16 := by
    rw [show (a : Int) * 16 = ((a * 16 : Nat) : Int) by simp, BitVec.ofInt_natCast, BitVec.toNat_ofNat]
    exact Nat.mod_eq_of_lt (by omega)
  have e2 : (BitVec.ofInt 64 (b : Int)).toNat = b := by rw [BitVec.ofInt_natCast, BitVec.toNat_ofNat]; exact Nat.mod_eq_of_lt (by omega)
  have e3 : a * 16 ||| b = a * 16 + b := by
    have := Nat.shiftLeft_add_eq_or_of_lt (show b < 2 ^ 4 by omega) a
    rw [Nat.shiftLeft_eq] at this
    exact this.symm
  show IntKind.i64.wrap ((BitVec.ofInt 64 ((a : Int) * 16) ||| BitVec.ofInt 64 (b : Int)).toNat : Int) = _
  rw [BitVec.toNat_or, e1, e2, e3]
  simp [IntKind.wrap, IntKind.bits, IntKind.signed]
  omega

set_option maxHeartbeats 1000000 in
theorem dz0_not (w : World) (b : Nat) (a sg lf num fst : Int) (acc : List UInt8) (hn : 0 ≤ num ∧ num ≤ 0) (hf : fst = 0) (c : UInt8) (hd : hexB c = none) (h : QT Rs w b a sg lf num 0 fst acc) :
    Calls Tryd.prog 27 #[.pointer (some ⟨b, 4, none⟩), .int .u8 c.toNat] w (fun e w' => e = .returned (.int .i64 3) ∧ QT Rs w' b a sg lf num 0 fst acc ∧ Turned b w w') := by
  have c3 := h.c3
  have c4 := h.c4
  have c5 := h.c5
  have f3 := h.free 7
  have f4 := h.free 8
  obtain ⟨n0, n9⟩ := hn
  have gf : (fst != 0) = false := by rw [hf]; rfl
  have gf2 : (fst == 0) = true := by rw [hf]; rfl
  have hor := i64_or16 num 0 n0 (by omega) (by omega) (by omega)
  have HX := Lib.hid (hex_not c hd)
  have H := Lib.hid h
  clear h hd hf
  go_enter Tryd.func27, Tryd.ntmps27
  go_wp2_with (go_at_call 40; refine (HX.out _).mono ?_; rintro e w' ⟨rfl, rfl⟩)
  go_quiet (fail)
  have h1 : QT Rs (w.drewN nq) b a sg lf num 0 fst acc := H.out.turned rfl ((Turned.refl b w))
  have t1 : Turned b w (w.drewN nq) := Turned.refl b w
  generalize w.drewN nq = w1 at *
  clear c3 c4 c5 f3 f4
  have c3 := h1.c3
  have c4 := h1.c4
  have c5 := h1.c5
  have f3 := h1.free 7
  have f4 := h1.free 8
  have H1 := Lib.hid h1
  have T1 := Lib.hid t1
  clear h1 t1
  go_wp2
  go_ret
  exact ⟨rfl, H1.out, T1.out⟩

set_option maxHeartbeats 1000000 in
theorem dz0_on (w : World) (b : Nat) (a sg lf num fst : Int) (acc : List UInt8) (hn : 0 ≤ num ∧ num ≤ 0) (hf : fst = 0) (c : UInt8) (d : Int) (hd : hexB c = some d) (h : QT Rs w b a sg lf num 0 fst acc) :
    Calls Tryd.prog 27 #[.pointer (some ⟨b, 4, none⟩), .int .u8 c.toNat] w (fun e w' => e = .returned (.int .i64 0) ∧ QT Rs w' b a sg lf (num * 16 + d) 1 fst acc ∧ Turned b w w') := by
  have c3 := h.c3
  have c4 := h.c4
  have c5 := h.c5
  have f3 := h.free 7
  have f4 := h.free 8
  obtain ⟨n0, n9⟩ := hn
  have gf : (fst != 0) = false := by rw [hf]; rfl
  have gf2 : (fst == 0) = true := by rw [hf]; rfl
  obtain ⟨d0, d9⟩ := hexB_in hd
  have hor := i64_or16 num d n0 (by omega) d0 d9
  have HX := Lib.hid (hex_of c d hd)
  have H := Lib.hid h
  clear h hd hf
  go_enter Tryd.func27, Tryd.ntmps27
  go_wp2_with (go_at_call 40; refine (HX.out _).mono ?_; rintro e w' ⟨rfl, rfl⟩)
  go_quiet (fail)
  have h1 : QT Rs (w.drewN nq) b a sg lf num 0 fst acc := H.out.turned rfl ((Turned.refl b w))
  have t1 : Turned b w (w.drewN nq) := Turned.refl b w
  generalize w.drewN nq = w1 at *
  clear c3 c4 c5 f3 f4
  have c3 := h1.c3
  have c4 := h1.c4
  have c5 := h1.c5
  have f3 := h1.free 7
  have f4 := h1.free 8
  have H1 := Lib.hid h1
  have T1 := Lib.hid t1
  clear h1 t1
  go_wp2
  go_ret
  exact ⟨rfl, (H1.out.put3 _).put4 1, (T1.out.put 7 _).put 8 _⟩

set_option maxHeartbeats 1000000 in
theorem df0_not (w : World) (b : Nat) (a sg lf num fst : Int) (acc : List UInt8) (hn : 0 ≤ num ∧ num ≤ 0) (hf : fst ≠ 0) (c : UInt8) (hd : hexB c = none) (h : QT Rs w b a sg lf num 0 fst acc) :
    Calls Tryd.prog 27 #[.pointer (some ⟨b, 4, none⟩), .int .u8 c.toNat] w (fun e w' => e = .returned (.int .i64 4) ∧ QT Rs w' b a sg lf num 0 fst acc ∧ Turned b w w') := by
  have c3 := h.c3
  have c4 := h.c4
  have c5 := h.c5
  have f3 := h.free 7
  have f4 := h.free 8
  obtain ⟨n0, n9⟩ := hn
  have gf : (fst != 0) = true := bne_iff_ne.2 hf
  have gf2 : (fst == 0) = false := beq_eq_false_iff_ne.2 hf
  have hor := i64_or16 num 0 n0 (by omega) (by omega) (by omega)
  have HX := Lib.hid (hex_not c hd)
  have H := Lib.hid h
  clear h hd hf
  go_enter Tryd.func27, Tryd.ntmps27
  go_wp2_with (go_at_call 40; refine (HX.out _).mono ?_; rintro e w' ⟨rfl, rfl⟩)
  go_quiet (fail)
  have h1 : QT Rs (w.drewN nq) b a sg lf num 0 fst acc := H.out.turned rfl ((Turned.refl b w))
  have t1 : Turned b w (w.drewN nq) := Turned.refl b w
  generalize w.drewN nq = w1 at *
  clear c3 c4 c5 f3 f4
  have c3 := h1.c3
  have c4 := h1.c4
  have c5 := h1.c5
  have f3 := h1.free 7
  have f4 := h1.free 8
  have H1 := Lib.hid h1
  have T1 := Lib.hid t1
  clear h1 t1
  go_wp2
  go_ret
  exact ⟨rfl, H1.out, T1.out⟩

set_option maxHeartbeats 1000000 in
theorem df0_pair (w : World) (b : Nat) (a sg lf num fst : Int) (acc : List UInt8) (hn : 0 ≤ num ∧ num ≤ 0) (hf : fst ≠ 0) (c : UInt8) (d : Int) (hd : hexB c = some d) (hs : decide (num * 16 + d = 13) = false) (h : QT Rs w b a sg lf num 0 fst acc) :
    Calls Tryd.prog 27 #[.pointer (some ⟨b, 4, none⟩), .int .u8 c.toNat] w (fun e w' => e = .returned (.int .i64 4) ∧ QT Rs w' b a sg lf num 0 fst acc ∧ Turned b w w') := by
  have c3 := h.c3
  have c4 := h.c4
  have c5 := h.c5
  have f3 := h.free 7
  have f4 := h.free 8
  obtain ⟨n0, n9⟩ := hn
  have gf : (fst != 0) = true := bne_iff_ne.2 hf
  have gf2 : (fst == 0) = false := beq_eq_false_iff_ne.2 hf
  obtain ⟨d0, d9⟩ := hexB_in hd
  have hor := i64_or16 num d n0 (by omega) d0 d9
  have HX := Lib.hid (hex_of c d hd)
  have HS := Lib.hid (fun w => seconds_one (num * 16 + d) (by omega) (by omega) false hs w)
  clear hs
  have H := Lib.hid h
  clear h hd hf
  go_enter Tryd.func27, Tryd.ntmps27
  go_wp2_with (go_at_call 40; refine (HX.out _).mono ?_; rintro e w' ⟨rfl, rfl⟩)
  go_quiet (fail)
  have h1 : QT Rs (w.drewN nq) b a sg lf num 0 fst acc := H.out.turned rfl ((Turned.refl b w))
  have t1 : Turned b w (w.drewN nq) := Turned.refl b w
  generalize w.drewN nq = w1 at *
  clear c3 c4 c5 f3 f4
  have c3 := h1.c3
  have c4 := h1.c4
  have c5 := h1.c5
  have f3 := h1.free 7
  have f4 := h1.free 8
  have H1 := Lib.hid h1
  have T1 := Lib.hid t1
  clear h1 t1
  go_wp2_with (first | (go_at_call 41; refine (HS.out _).mono ?_; rintro e w' ⟨rfl, rfl⟩))
  go_ret
  exact ⟨rfl, H1.out, T1.out⟩

set_option maxHeartbeats 1000000 in
theorem df0_on (w : World) (b : Nat) (a sg lf num fst : Int) (acc : List UInt8) (hn : 0 ≤ num ∧ num ≤ 0) (hf : fst ≠ 0) (c : UInt8) (d : Int) (hd : hexB c = some d) (hs : decide (num * 16 + d = 13) = true) (h : QT Rs w b a sg lf num 0 fst acc) :
    Calls Tryd.prog 27 #[.pointer (some ⟨b, 4, none⟩), .int .u8 c.toNat] w (fun e w' => e = .returned (.int .i64 0) ∧ QT Rs w' b a sg lf (num * 16 + d) 1 fst acc ∧ Turned b w w') := by
  have c3 := h.c3
  have c4 := h.c4
  have c5 := h.c5
  have f3 := h.free 7
  have f4 := h.free 8
  obtain ⟨n0, n9⟩ := hn
  have gf : (fst != 0) = true := bne_iff_ne.2 hf
  have gf2 : (fst == 0) = false := beq_eq_false_iff_ne.2 hf
  obtain ⟨d0, d9⟩ := hexB_in hd
  have hor := i64_or16 num d n0 (by omega) d0 d9
  have HX := Lib.hid (hex_of c d hd)
  have HS := Lib.hid (fun w => seconds_one (num * 16 + d) (by omega) (by omega) true hs w)
  clear hs
  have H := Lib.hid h
  clear h hd hf
  go_enter Tryd.func27, Tryd.ntmps27
  go_wp2_with (go_at_call 40; refine (HX.out _).mono ?_; rintro e w' ⟨rfl, rfl⟩)
  go_quiet (fail)
  have h1 : QT Rs (w.drewN nq) b a sg lf num 0 fst acc := H.out.turned rfl ((Turned.refl b w))
  have t1 : Turned b w (w.drewN nq) := Turned.refl b w
  generalize w.drewN nq = w1 at *
  clear c3 c4 c5 f3 f4
  have c3 := h1.c3
  have c4 := h1.c4
  have c5 := h1.c5
  have f3 := h1.free 7
  have f4 := h1.free 8
  have H1 := Lib.hid h1
  have T1 := Lib.hid t1
  clear h1 t1
  go_wp2_with (first | (go_at_call 41; refine (HS.out _).mono ?_; rintro e w' ⟨rfl, rfl⟩))
  go_ret
  exact ⟨rfl, (H1.out.put3 _).put4 1, (T1.out.put 7 _).put 8 _⟩

set_option maxHeartbeats 1000000 in
theorem dz1_not (w : World) (b : Nat) (a sg lf num fst : Int) (acc : List UInt8) (hn : 0 ≤ num ∧ num ≤ 15) (hf : fst = 0) (c : UInt8) (hd : hexB c = none) (h : QT Rs w b a sg lf num 1 fst acc) :
    Calls Tryd.prog 27 #[.pointer (some ⟨b, 4, none⟩), .int .u8 c.toNat] w (fun e w' => e = .returned (.int .i64 3) ∧ QT Rs w' b a sg lf num 1 fst acc ∧ Turned b w w') := by
  have c3 := h.c3
  have c4 := h.c4
  have c5 := h.c5
  have f3 := h.free 7
  have f4 := h.free 8
  obtain ⟨n0, n9⟩ := hn
  have gf : (fst != 0) = false := by rw [hf]; rfl
  have gf2 : (fst == 0) = true := by rw [hf]; rfl
  have hor := i64_or16 num 0 n0 (by omega) (by omega) (by omega)
  have HX := Lib.hid (hex_not c hd)
  have H := Lib.hid h
  clear h hd hf
  go_enter Tryd.func27, Tryd.ntmps27
  go_wp2_with (go_at_call 40; refine (HX.out _).mono ?_; rintro e w' ⟨rfl, rfl⟩)
  go_quiet (fail)
  have h1 : QT Rs (w.drewN nq) b a sg lf num 1 fst acc := H.out.turned rfl ((Turned.refl b w))
  have t1 : Turned b w (w.drewN nq) := Turned.refl b w
  generalize w.drewN nq = w1 at *
  clear c3 c4 c5 f3 f4
  have c3 := h1.c3
  have c4 := h1.c4
  have c5 := h1.c5
  have f3 := h1.free 7
  have f4 := h1.free 8
  have H1 := Lib.hid h1
  have T1 := Lib.hid t1
  clear h1 t1
  go_wp2
  go_ret
  exact ⟨rfl, H1.out, T1.out⟩

set_option maxHeartbeats 1000000 in
theorem dz1_pair (w : World) (b : Nat) (a sg lf num fst : Int) (acc : List UInt8) (hn : 0 ≤ num ∧ num ≤ 15) (hf : fst = 0) (c : UInt8) (d : Int) (hd : hexB c = some d) (hs : decide (220 ≤ num * 16 + d ∧ num * 16 + d ≤ 223) = true) (h : QT Rs w b a sg lf num 1 fst acc) :
    Calls Tryd.prog 27 #[.pointer (some ⟨b, 4, none⟩), .int .u8 c.toNat] w (fun e w' => e = .returned (.int .i64 4) ∧ QT Rs w' b a sg lf num 1 fst acc ∧ Turned b w w') := by
  have c3 := h.c3
  have c4 := h.c4
  have c5 := h.c5
  have f3 := h.free 7
  have f4 := h.free 8
  obtain ⟨n0, n9⟩ := hn
  have gf : (fst != 0) = false := by rw [hf]; rfl
  have gf2 : (fst == 0) = true := by rw [hf]; rfl
  obtain ⟨d0, d9⟩ := hexB_in hd
  have hor := i64_or16 num d n0 (by omega) d0 d9
  have HX := Lib.hid (hex_of c d hd)
  have HS := Lib.hid (fun w => seconds_two (num * 16 + d) (by omega) (by omega) true hs w)
  clear hs
  have H := Lib.hid h
  clear h hd hf
  go_enter Tryd.func27, Tryd.ntmps27
  go_wp2_with (go_at_call 40; refine (HX.out _).mono ?_; rintro e w' ⟨rfl, rfl⟩)
  go_quiet (fail)
  have h1 : QT Rs (w.drewN nq) b a sg lf num 1 fst acc := H.out.turned rfl ((Turned.refl b w))
  have t1 : Turned b w (w.drewN nq) := Turned.refl b w
  generalize w.drewN nq = w1 at *
  clear c3 c4 c5 f3 f4
  have c3 := h1.c3
  have c4 := h1.c4
  have c5 := h1.c5
  have f3 := h1.free 7
  have f4 := h1.free 8
  have H1 := Lib.hid h1
  have T1 := Lib.hid t1
  clear h1 t1
  go_wp2_with (first | (go_at_call 41; refine (HS.out _).mono ?_; rintro e w' ⟨rfl, rfl⟩))
  go_ret
  exact ⟨rfl, H1.out, T1.out⟩

set_option maxHeartbeats 1000000 in
theorem dz1_on (w : World) (b : Nat) (a sg lf num fst : Int) (acc : List UInt8) (hn : 0 ≤ num ∧ num ≤ 15) (hf : fst = 0) (c : UInt8) (d : Int) (hd : hexB c = some d) (hs : decide (220 ≤ num * 16 + d ∧ num * 16 + d ≤ 223) = false) (h : QT Rs w b a sg lf num 1 fst acc) :
    Calls Tryd.prog 27 #[.pointer (some ⟨b, 4, none⟩), .int .u8 c.toNat] w (fun e w' => e = .returned (.int .i64 0) ∧ QT Rs w' b a sg lf (num * 16 + d) 2 fst acc ∧ Turned b w w') := by
  have c3 := h.c3
  have c4 := h.c4
  have c5 := h.c5
  have f3 := h.free 7
  have f4 := h.free 8
  obtain ⟨n0, n9⟩ := hn
  have gf : (fst != 0) = false := by rw [hf]; rfl
  have gf2 : (fst == 0) = true := by rw [hf]; rfl
  obtain ⟨d0, d9⟩ := hexB_in hd
  have hor := i64_or16 num d n0 (by omega) d0 d9
  have HX := Lib.hid (hex_of c d hd)
  have HS := Lib.hid (fun w => seconds_two (num * 16 + d) (by omega) (by omega) false hs w)
  clear hs
  have H := Lib.hid h
  clear h hd hf
  go_enter Tryd.func27, Tryd.ntmps27
  go_wp2_with (go_at_call 40; refine (HX.out _).mono ?_; rintro e w' ⟨rfl, rfl⟩)
  go_quiet (fail)
  have h1 : QT Rs (w.drewN nq) b a sg lf num 1 fst acc := H.out.turned rfl ((Turned.refl b w))
  have t1 : Turned b w (w.drewN nq) := Turned.refl b w
  generalize w.drewN nq = w1 at *
  clear c3 c4 c5 f3 f4
  have c3 := h1.c3
  have c4 := h1.c4
  have c5 := h1.c5
  have f3 := h1.free 7
  have f4 := h1.free 8
  have H1 := Lib.hid h1
  have T1 := Lib.hid t1
  clear h1 t1
  go_wp2_with (first | (go_at_call 41; refine (HS.out _).mono ?_; rintro e w' ⟨rfl, rfl⟩))
  go_ret
  exact ⟨rfl, (H1.out.put3 _).put4 2, (T1.out.put 7 _).put 8 _⟩

set_option maxHeartbeats 1000000 in
theorem df1_not (w : World) (b : Nat) (a sg lf num fst : Int) (acc : List UInt8) (hn : 0 ≤ num ∧ num ≤ 15) (hf : fst ≠ 0) (c : UInt8) (hd : hexB c = none) (h : QT Rs w b a sg lf num 1 fst acc) :
    Calls Tryd.prog 27 #[.pointer (some ⟨b, 4, none⟩), .int .u8 c.toNat] w (fun e w' => e = .returned (.int .i64 4) ∧ QT Rs w' b a sg lf num 1 fst acc ∧ Turned b w w') := by
  have c3 := h.c3
  have c4 := h.c4
  have c5 := h.c5
  have f3 := h.free 7
  have f4 := h.free 8
  obtain ⟨n0, n9⟩ := hn
  have gf : (fst != 0) = true := bne_iff_ne.2 hf
  have gf2 : (fst == 0) = false := beq_eq_false_iff_ne.2 hf
  have hor := i64_or16 num 0 n0 (by omega) (by omega) (by omega)
  have HX := Lib.hid (hex_not c hd)
  have H := Lib.hid h
  clear h hd hf
  go_enter Tryd.func27, Tryd.ntmps27
  go_wp2_with (go_at_call 40; refine (HX.out _).mono ?_; rintro e w' ⟨rfl, rfl⟩)
  go_quiet (fail)
  have h1 : QT Rs (w.drewN nq) b a sg lf num 1 fst acc := H.out.turned rfl ((Turned.refl b w))
  have t1 : Turned b w (w.drewN nq) := Turned.refl b w
  generalize w.drewN nq = w1 at *
  clear c3 c4 c5 f3 f4
  have c3 := h1.c3
  have c4 := h1.c4
  have c5 := h1.c5
  have f3 := h1.free 7
  have f4 := h1.free 8
  have H1 := Lib.hid h1
  have T1 := Lib.hid t1
  clear h1 t1
  go_wp2
  go_ret
  exact ⟨rfl, H1.out, T1.out⟩

set_option maxHeartbeats 1000000 in
theorem df1_pair (w : World) (b : Nat) (a sg lf num fst : Int) (acc : List UInt8) (hn : 0 ≤ num ∧ num ≤ 15) (hf : fst ≠ 0) (c : UInt8) (d : Int) (hd : hexB c = some d) (hs : decide (220 ≤ num * 16 + d ∧ num * 16 + d ≤ 223) = false) (h : QT Rs w b a sg lf num 1 fst acc) :
    Calls Tryd.prog 27 #[.pointer (some ⟨b, 4, none⟩), .int .u8 c.toNat] w (fun e w' => e = .returned (.int .i64 4) ∧ QT Rs w' b a sg lf num 1 fst acc ∧ Turned b w w') := by
  have c3 := h.c3
  have c4 := h.c4
  have c5 := h.c5
  have f3 := h.free 7
  have f4 := h.free 8
  obtain ⟨n0, n9⟩ := hn
  have gf : (fst != 0) = true := bne_iff_ne.2 hf
  have gf2 : (fst == 0) = false := beq_eq_false_iff_ne.2 hf
  obtain ⟨d0, d9⟩ := hexB_in hd
  have hor := i64_or16 num d n0 (by omega) d0 d9
  have HX := Lib.hid (hex_of c d hd)
  have HS := Lib.hid (fun w => seconds_two (num * 16 + d) (by omega) (by omega) false hs w)
  clear hs
  have H := Lib.hid h
  clear h hd hf
  go_enter Tryd.func27, Tryd.ntmps27
  go_wp2_with (go_at_call 40; refine (HX.out _).mono ?_; rintro e w' ⟨rfl, rfl⟩)
  go_quiet (fail)
  have h1 : QT Rs (w.drewN nq) b a sg lf num 1 fst acc := H.out.turned rfl ((Turned.refl b w))
  have t1 : Turned b w (w.drewN nq) := Turned.refl b w
  generalize w.drewN nq = w1 at *
  clear c3 c4 c5 f3 f4
  have c3 := h1.c3
  have c4 := h1.c4
  have c5 := h1.c5
  have f3 := h1.free 7
  have f4 := h1.free 8
  have H1 := Lib.hid h1
  have T1 := Lib.hid t1
  clear h1 t1
  go_wp2_with (first | (go_at_call 41; refine (HS.out _).mono ?_; rintro e w' ⟨rfl, rfl⟩))
  go_ret
  exact ⟨rfl, H1.out, T1.out⟩

set_option maxHeartbeats 1000000 in
theorem df1_on (w : World) (b : Nat) (a sg lf num fst : Int) (acc : List UInt8) (hn : 0 ≤ num ∧ num ≤ 15) (hf : fst ≠ 0) (c : UInt8) (d : Int) (hd : hexB c = some d) (hs : decide (220 ≤ num * 16 + d ∧ num * 16 + d ≤ 223) = true) (h : QT Rs w b a sg lf num 1 fst acc) :
    Calls Tryd.prog 27 #[.pointer (some ⟨b, 4, none⟩), .int .u8 c.toNat] w (fun e w' => e = .returned (.int .i64 0) ∧ QT Rs w' b a sg lf (num * 16 + d) 2 fst acc ∧ Turned b w w') := by
  have c3 := h.c3
  have c4 := h.c4
  have c5 := h.c5
  have f3 := h.free 7
  have f4 := h.free 8
  obtain ⟨n0, n9⟩ := hn
  have gf : (fst != 0) = true := bne_iff_ne.2 hf
  have gf2 : (fst == 0) = false := beq_eq_false_iff_ne.2 hf
  obtain ⟨d0, d9⟩ := hexB_in hd
  have hor := i64_or16 num d n0 (by omega) d0 d9
  have HX := Lib.hid (hex_of c d hd)
  have HS := Lib.hid (fun w => seconds_two (num * 16 + d) (by omega) (by omega) true hs w)
  clear hs
  have H := Lib.hid h
  clear h hd hf
  go_enter Tryd.func27, Tryd.ntmps27
  go_wp2_with (go_at_call 40; refine (HX.out _).mono ?_; rintro e w' ⟨rfl, rfl⟩)
  go_quiet (fail)
  have h1 : QT Rs (w.drewN nq) b a sg lf num 1 fst acc := H.out.turned rfl ((Turned.refl b w))
  have t1 : Turned b w (w.drewN nq) := Turned.refl b w
  generalize w.drewN nq = w1 at *
  clear c3 c4 c5 f3 f4
  have c3 := h1.c3
  have c4 := h1.c4
  have c5 := h1.c5
  have f3 := h1.free 7
  have f4 := h1.free 8
  have H1 := Lib.hid h1
  have T1 := Lib.hid t1
  clear h1 t1
  go_wp2_with (first | (go_at_call 41; refine (HS.out _).mono ?_; rintro e w' ⟨rfl, rfl⟩))
  go_ret
  exact ⟨rfl, (H1.out.put3 _).put4 2, (T1.out.put 7 _).put 8 _⟩

set_option maxHeartbeats 1000000 in
theorem dz2_not (w : World) (b : Nat) (a sg lf num fst : Int) (acc : List UInt8) (hn : 0 ≤ num ∧ num ≤ 255) (hf : fst = 0) (c : UInt8) (hd : hexB c = none) (h : QT Rs w b a sg lf num 2 fst acc) :
    Calls Tryd.prog 27 #[.pointer (some ⟨b, 4, none⟩), .int .u8 c.toNat] w (fun e w' => e = .returned (.int .i64 3) ∧ QT Rs w' b a sg lf num 2 fst acc ∧ Turned b w w') := by
  have c3 := h.c3
  have c4 := h.c4
  have c5 := h.c5
  have f3 := h.free 7
  have f4 := h.free 8
  obtain ⟨n0, n9⟩ := hn
  have gf : (fst != 0) = false := by rw [hf]; rfl
  have gf2 : (fst == 0) = true := by rw [hf]; rfl
  have hor := i64_or16 num 0 n0 (by omega) (by omega) (by omega)
  have HX := Lib.hid (hex_not c hd)
  have H := Lib.hid h
  clear h hd hf
  go_enter Tryd.func27, Tryd.ntmps27
  go_wp2_with (go_at_call 40; refine (HX.out _).mono ?_; rintro e w' ⟨rfl, rfl⟩)
  go_quiet (fail)
  have h1 : QT Rs (w.drewN nq) b a sg lf num 2 fst acc := H.out.turned rfl ((Turned.refl b w))
  have t1 : Turned b w (w.drewN nq) := Turned.refl b w
  generalize w.drewN nq = w1 at *
  clear c3 c4 c5 f3 f4
  have c3 := h1.c3
  have c4 := h1.c4
  have c5 := h1.c5
  have f3 := h1.free 7
  have f4 := h1.free 8
  have H1 := Lib.hid h1
  have T1 := Lib.hid t1
  clear h1 t1
  go_wp2
  go_ret
  exact ⟨rfl, H1.out, T1.out⟩

set_option maxHeartbeats 1000000 in
theorem dz2_on (w : World) (b : Nat) (a sg lf num fst : Int) (acc : List UInt8) (hn : 0 ≤ num ∧ num ≤ 255) (hf : fst = 0) (c : UInt8) (d : Int) (hd : hexB c = some d) (h : QT Rs w b a sg lf num 2 fst acc) :
    Calls Tryd.prog 27 #[.pointer (some ⟨b, 4, none⟩), .int .u8 c.toNat] w (fun e w' => e = .returned (.int .i64 0) ∧ QT Rs w' b a sg lf (num * 16 + d) 3 fst acc ∧ Turned b w w') := by
  have c3 := h.c3
  have c4 := h.c4
  have c5 := h.c5
  have f3 := h.free 7
  have f4 := h.free 8
  obtain ⟨n0, n9⟩ := hn
  have gf : (fst != 0) = false := by rw [hf]; rfl
  have gf2 : (fst == 0) = true := by rw [hf]; rfl
  obtain ⟨d0, d9⟩ := hexB_in hd
  have hor := i64_or16 num d n0 (by omega) d0 d9
  have HX := Lib.hid (hex_of c d hd)
  have H := Lib.hid h
  clear h hd hf
  go_enter Tryd.func27, Tryd.ntmps27
  go_wp2_with (go_at_call 40; refine (HX.out _).mono ?_; rintro e w' ⟨rfl, rfl⟩)
  go_quiet (fail)
  have h1 : QT Rs (w.drewN nq) b a sg lf num 2 fst acc := H.out.turned rfl ((Turned.refl b w))
  have t1 : Turned b w (w.drewN nq) := Turned.refl b w
  generalize w.drewN nq = w1 at *
  clear c3 c4 c5 f3 f4
  have c3 := h1.c3
  have c4 := h1.c4
  have c5 := h1.c5
  have f3 := h1.free 7
  have f4 := h1.free 8
  have H1 := Lib.hid h1
  have T1 := Lib.hid t1
  clear h1 t1
  go_wp2
  go_ret
  exact ⟨rfl, (H1.out.put3 _).put4 3, (T1.out.put 7 _).put 8 _⟩

set_option maxHeartbeats 1000000 in
theorem df2_not (w : World) (b : Nat) (a sg lf num fst : Int) (acc : List UInt8) (hn : 0 ≤ num ∧ num ≤ 255) (hf : fst ≠ 0) (c : UInt8) (hd : hexB c = none) (h : QT Rs w b a sg lf num 2 fst acc) :
    Calls Tryd.prog 27 #[.pointer (some ⟨b, 4, none⟩), .int .u8 c.toNat] w (fun e w' => e = .returned (.int .i64 3) ∧ QT Rs w' b a sg lf num 2 fst acc ∧ Turned b w w') := by
  have c3 := h.c3
  have c4 := h.c4
  have c5 := h.c5
  have f3 := h.free 7
  have f4 := h.free 8
  obtain ⟨n0, n9⟩ := hn
  have gf : (fst != 0) = true := bne_iff_ne.2 hf
  have gf2 : (fst == 0) = false := beq_eq_false_iff_ne.2 hf
  have hor := i64_or16 num 0 n0 (by omega) (by omega) (by omega)
  have HX := Lib.hid (hex_not c hd)
  have H := Lib.hid h
  clear h hd hf
  go_enter Tryd.func27, Tryd.ntmps27
  go_wp2_with (go_at_call 40; refine (HX.out _).mono ?_; rintro e w' ⟨rfl, rfl⟩)
  go_quiet (fail)
  have h1 : QT Rs (w.drewN nq) b a sg lf num 2 fst acc := H.out.turned rfl ((Turned.refl b w))
  have t1 : Turned b w (w.drewN nq) := Turned.refl b w
  generalize w.drewN nq = w1 at *
  clear c3 c4 c5 f3 f4
  have c3 := h1.c3
  have c4 := h1.c4
  have c5 := h1.c5
  have f3 := h1.free 7
  have f4 := h1.free 8
  have H1 := Lib.hid h1
  have T1 := Lib.hid t1
  clear h1 t1
  go_wp2
  go_ret
  exact ⟨rfl, H1.out, T1.out⟩

set_option maxHeartbeats 1000000 in
theorem df2_on (w : World) (b : Nat) (a sg lf num fst : Int) (acc : List UInt8) (hn : 0 ≤ num ∧ num ≤ 255) (hf : fst ≠ 0) (c : UInt8) (d : Int) (hd : hexB c = some d) (h : QT Rs w b a sg lf num 2 fst acc) :
    Calls Tryd.prog 27 #[.pointer (some ⟨b, 4, none⟩), .int .u8 c.toNat] w (fun e w' => e = .returned (.int .i64 0) ∧ QT Rs w' b a sg lf (num * 16 + d) 3 fst acc ∧ Turned b w w') := by
  have c3 := h.c3
  have c4 := h.c4
  have c5 := h.c5
  have f3 := h.free 7
  have f4 := h.free 8
  obtain ⟨n0, n9⟩ := hn
  have gf : (fst != 0) = true := bne_iff_ne.2 hf
  have gf2 : (fst == 0) = false := beq_eq_false_iff_ne.2 hf
  obtain ⟨d0, d9⟩ := hexB_in hd
  have hor := i64_or16 num d n0 (by omega) d0 d9
  have HX := Lib.hid (hex_of c d hd)
  have H := Lib.hid h
  clear h hd hf
  go_enter Tryd.func27, Tryd.ntmps27
  go_wp2_with (go_at_call 40; refine (HX.out _).mono ?_; rintro e w' ⟨rfl, rfl⟩)
  go_quiet (fail)
  have h1 : QT Rs (w.drewN nq) b a sg lf num 2 fst acc := H.out.turned rfl ((Turned.refl b w))
  have t1 : Turned b w (w.drewN nq) := Turned.refl b w
  generalize w.drewN nq = w1 at *
  clear c3 c4 c5 f3 f4
  have c3 := h1.c3
  have c4 := h1.c4
  have c5 := h1.c5
  have f3 := h1.free 7
  have f4 := h1.free 8
  have H1 := Lib.hid h1
  have T1 := Lib.hid t1
  clear h1 t1
  go_wp2
  go_ret
  exact ⟨rfl, (H1.out.put3 _).put4 3, (T1.out.put 7 _).put 8 _⟩

set_option maxHeartbeats 1000000 in
theorem dz3_not (w : World) (b : Nat) (a sg lf num fst : Int) (acc : List UInt8) (hn : 0 ≤ num ∧ num ≤ 4095) (hf : fst = 0) (c : UInt8) (hd : hexB c = none) (h : QT Rs w b a sg lf num 3 fst acc) :
    Calls Tryd.prog 27 #[.pointer (some ⟨b, 4, none⟩), .int .u8 c.toNat] w (fun e w' => e = .returned (.int .i64 3) ∧ QT Rs w' b a sg lf num 3 fst acc ∧ Turned b w w') := by
  have c3 := h.c3
  have c4 := h.c4
  have c5 := h.c5
  have f3 := h.free 7
  have f4 := h.free 8
  obtain ⟨n0, n9⟩ := hn
  have gf : (fst != 0) = false := by rw [hf]; rfl
  have gf2 : (fst == 0) = true := by rw [hf]; rfl
  have hor := i64_or16 num 0 n0 (by omega) (by omega) (by omega)
  have HX := Lib.hid (hex_not c hd)
  have H := Lib.hid h
  clear h hd hf
  go_enter Tryd.func27, Tryd.ntmps27
  go_wp2_with (go_at_call 40; refine (HX.out _).mono ?_; rintro e w' ⟨rfl, rfl⟩)
  go_quiet (fail)
  have h1 : QT Rs (w.drewN nq) b a sg lf num 3 fst acc := H.out.turned rfl ((Turned.refl b w))
  have t1 : Turned b w (w.drewN nq) := Turned.refl b w
  generalize w.drewN nq = w1 at *
  clear c3 c4 c5 f3 f4
  have c3 := h1.c3
  have c4 := h1.c4
  have c5 := h1.c5
  have f3 := h1.free 7
  have f4 := h1.free 8
  have H1 := Lib.hid h1
  have T1 := Lib.hid t1
  clear h1 t1
  go_wp2
  go_ret
  exact ⟨rfl, H1.out, T1.out⟩

set_option maxHeartbeats 1000000 in
theorem dz3_end (w : World) (b : Nat) (a sg lf num fst : Int) (acc : List UInt8) (hn : 0 ≤ num ∧ num ≤ 4095) (hf : fst = 0) (c : UInt8) (d : Int) (hd : hexB c = some d) (h : QT Rs w b a sg lf num 3 fst acc) (R : World → Prop) (hend : ∀ w1, QT Rs w1 b a sg lf (num * 16 + d) 4 fst acc → Calls Tryd.prog 42 #[.pointer (some ⟨b, 4, none⟩)] w1 fun e w' => e = .returned (.tuple #[]) ∧ R w' ∧ Turned b w1 w') :
    Calls Tryd.prog 27 #[.pointer (some ⟨b, 4, none⟩), .int .u8 c.toNat] w (fun e w' => e = .returned (.int .i64 0) ∧ R w' ∧ Turned b w w') := by
  have c3 := h.c3
  have c4 := h.c4
  have c5 := h.c5
  have f3 := h.free 7
  have f4 := h.free 8
  obtain ⟨n0, n9⟩ := hn
  have gf : (fst != 0) = false := by rw [hf]; rfl
  have gf2 : (fst == 0) = true := by rw [hf]; rfl
  obtain ⟨d0, d9⟩ := hexB_in hd
  have hor := i64_or16 num d n0 (by omega) d0 d9
  have HX := Lib.hid (hex_of c d hd)
  have HE := Lib.hid hend
  clear hend
  have H := Lib.hid h
  clear h hd hf
  go_enter Tryd.func27, Tryd.ntmps27
  go_wp2_with (go_at_call 40; refine (HX.out _).mono ?_; rintro e w' ⟨rfl, rfl⟩)
  go_quiet (fail)
  have h1 : QT Rs (w.drewN nq) b a sg lf num 3 fst acc := H.out.turned rfl ((Turned.refl b w))
  have t1 : Turned b w (w.drewN nq) := Turned.refl b w
  generalize w.drewN nq = w1 at *
  clear c3 c4 c5 f3 f4
  have c3 := h1.c3
  have c4 := h1.c4
  have c5 := h1.c5
  have f3 := h1.free 7
  have f4 := h1.free 8
  have H1 := Lib.hid h1
  have T1 := Lib.hid t1
  clear h1 t1
  go_wp2_with (first | (go_at_call 42; refine (HE.out _ ((H1.out.put3 _).put4 4)).mono ?_; rintro e w2 ⟨rfl, h2, t2⟩; have H2 := Lib.hid h2; have T2 := Lib.hid t2; clear h2 t2))
  go_ret
  exact ⟨rfl, H2.out, ((T1.out.put 7 _).put 8 _).trans T2.out⟩

set_option maxHeartbeats 1000000 in
theorem df3_not (w : World) (b : Nat) (a sg lf num fst : Int) (acc : List UInt8) (hn : 0 ≤ num ∧ num ≤ 4095) (hf : fst ≠ 0) (c : UInt8) (hd : hexB c = none) (h : QT Rs w b a sg lf num 3 fst acc) :
    Calls Tryd.prog 27 #[.pointer (some ⟨b, 4, none⟩), .int .u8 c.toNat] w (fun e w' => e = .returned (.int .i64 3) ∧ QT Rs w' b a sg lf num 3 fst acc ∧ Turned b w w') := by
  have c3 := h.c3
  have c4 := h.c4
  have c5 := h.c5
  have f3 := h.free 7
  have f4 := h.free 8
  obtain ⟨n0, n9⟩ := hn
  have gf : (fst != 0) = true := bne_iff_ne.2 hf
  have gf2 : (fst == 0) = false := beq_eq_false_iff_ne.2 hf
  have hor := i64_or16 num 0 n0 (by omega) (by omega) (by omega)
  have HX := Lib.hid (hex_not c hd)
  have H := Lib.hid h
  clear h hd hf
  go_enter Tryd.func27, Tryd.ntmps27
  go_wp2_with (go_at_call 40; refine (HX.out _).mono ?_; rintro e w' ⟨rfl, rfl⟩)
  go_quiet (fail)
  have h1 : QT Rs (w.drewN nq) b a sg lf num 3 fst acc := H.out.turned rfl ((Turned.refl b w))
  have t1 : Turned b w (w.drewN nq) := Turned.refl b w
  generalize w.drewN nq = w1 at *
  clear c3 c4 c5 f3 f4
  have c3 := h1.c3
  have c4 := h1.c4
  have c5 := h1.c5
  have f3 := h1.free 7
  have f4 := h1.free 8
  have H1 := Lib.hid h1
  have T1 := Lib.hid t1
  clear h1 t1
  go_wp2
  go_ret
  exact ⟨rfl, H1.out, T1.out⟩

set_option maxHeartbeats 1000000 in
theorem df3_end (w : World) (b : Nat) (a sg lf num fst : Int) (acc : List UInt8) (hn : 0 ≤ num ∧ num ≤ 4095) (hf : fst ≠ 0) (c : UInt8) (d : Int) (hd : hexB c = some d) (h : QT Rs w b a sg lf num 3 fst acc) (R : World → Prop) (hend : ∀ w1, QT Rs w1 b a sg lf (num * 16 + d) 4 fst acc → Calls Tryd.prog 42 #[.pointer (some ⟨b, 4, none⟩)] w1 fun e w' => e = .returned (.tuple #[]) ∧ R w' ∧ Turned b w1 w') :
    Calls Tryd.prog 27 #[.pointer (some ⟨b, 4, none⟩), .int .u8 c.toNat] w (fun e w' => e = .returned (.int .i64 0) ∧ R w' ∧ Turned b w w') := by
  have c3 := h.c3
  have c4 := h.c4
  have c5 := h.c5
  have f3 := h.free 7
  have f4 := h.free 8
  obtain ⟨n0, n9⟩ := hn
  have gf : (fst != 0) = true := bne_iff_ne.2 hf
  have gf2 : (fst == 0) = false := beq_eq_false_iff_ne.2 hf
  obtain ⟨d0, d9⟩ := hexB_in hd
  have hor := i64_or16 num d n0 (by omega) d0 d9
  have HX := Lib.hid (hex_of c d hd)
  have HE := Lib.hid hend
  clear hend
  have H := Lib.hid h
  clear h hd hf
  go_enter Tryd.func27, Tryd.ntmps27
  go_wp2_with (go_at_call 40; refine (HX.out _).mono ?_; rintro e w' ⟨rfl, rfl⟩)
  go_quiet (fail)
  have h1 : QT Rs (w.drewN nq) b a sg lf num 3 fst acc := H.out.turned rfl ((Turned.refl b w))
  have t1 : Turned b w (w.drewN nq) := Turned.refl b w
  generalize w.drewN nq = w1 at *
  clear c3 c4 c5 f3 f4
  have c3 := h1.c3
  have c4 := h1.c4
  have c5 := h1.c5
  have f3 := h1.free 7
  have f4 := h1.free 8
  have H1 := Lib.hid h1
  have T1 := Lib.hid t1
  clear h1 t1
  go_wp2_with (first | (go_at_call 42; refine (HE.out _ ((H1.out.put3 _).put4 4)).mono ?_; rintro e w2 ⟨rfl, h2, t2⟩; have H2 := Lib.hid h2; have T2 := Lib.hid t2; clear h2 t2))
  go_ret
  exact ⟨rfl, H2.out, ((T1.out.put 7 _).put 8 _).trans T2.out⟩

end Go.Proofs.YtoahnbjpmbhpfaaDoor.K4
