/- Package lex: the walks of numbers and words as fields of a lexer. -/
import Derived.Test.YtoahnbjpmbhpfaaDoorLex
namespace Go.Proofs.YtoahnbjpmbhpfaaDoor
open Go.RowKit
set_option linter.unusedVariables false

set_option maxHeartbeats 400000 in
theorem fwhole (b : Nat) (a : Int) (w : World) (c0 : w.cell? ⟨b, 76, none⟩ = some (.int .i64 a)) (ha : StA a) :
    Calls Tryd.prog 12 #[.pointer (some ⟨b, 76, none⟩)] w fun e w' => e = .returned (.bool (whI a)) ∧ w = w' := by
  have HW := Lib.hid (whole_in a ha)
  go_enter Tryd.func12, Tryd.ntmps12
  go_wp2_with (go_at_call 18; refine (HW.out _).mono ?_; rintro e w' ⟨rfl, rfl⟩)
  go_ret
  exact ⟨rfl, rfl⟩

set_option maxHeartbeats 1000000 in
theorem fnum_goes (b : Nat) (c a : Int) (w : World) (c0 : w.cell? ⟨b, 76, none⟩ = some (.int .i64 a)) (f0 : w.frozen? ⟨b, 76, none⟩ = false) (ha : StA a) (hc : nxI a c ≠ 0) :
    Calls Tryd.prog 21 #[.pointer (some ⟨b, 76, none⟩), .int .u8 c] w fun e w' => e = .returned (.int .i64 0) ∧ w' = w.setCell ⟨b, 76, none⟩ (.int .i64 (nxI a c)) := by
  have HB := Lib.hid (behind_in a c ha)
  have hc' : (nxI a c == 0) = false := beq_eq_false_iff_ne.2 hc
  generalize nxI a c = x at *
  go_enter Tryd.func21, Tryd.ntmps21
  go_wp2_with (go_at_call 31; refine (HB.out _).mono ?_; rintro e w' ⟨rfl, rfl⟩)
  go_ret
  exact ⟨rfl, rfl⟩

set_option maxHeartbeats 1000000 in
theorem fnum_stays (b : Nat) (c a : Int) (w : World) (c0 : w.cell? ⟨b, 76, none⟩ = some (.int .i64 a)) (ha : StA a) (hc : nxI a c = 0) :
    Calls Tryd.prog 21 #[.pointer (some ⟨b, 76, none⟩), .int .u8 c] w fun e w' => e = .returned (.int .i64 (if whI a && !stickI c then 1 else 2)) ∧ w = w' := by
  have hb := behind_in a c ha
  rw [hc] at hb
  have HB := Lib.hid hb
  have HN := Lib.hid (fun w c0 => fwhole b a w c0 ha)
  have HK := Lib.hid (sticks_any c)
  clear hc hb
  generalize whI a = x at *
  generalize stickI c = y at *
  cases x <;> cases y
  all_goals
    go_enter Tryd.func21, Tryd.ntmps21
    go_wp2_with (first
      | (go_at_call 31; refine (HB.out _).mono ?_; rintro e w' ⟨rfl, rfl⟩)
      | (go_at_call 12; refine (HN.out _ c0).mono ?_; rintro e w' ⟨rfl, rfl⟩)
      | (go_at_call 32; refine (HK.out _).mono ?_; rintro e w' ⟨rfl, rfl⟩))
    go_ret
    exact ⟨rfl, rfl⟩

section
variable (b k : Nat) (t : ByteArray) (c : Int) (w : World)
theorem fword (c0 : w.cell? ⟨b, 78, none⟩ = some (.string t)) (c1 : w.cell? ⟨b, 79, none⟩ = some (.int .i64 k)) (hk : k ≤ t.size) :
    Calls Tryd.prog 23 #[.pointer (some ⟨b, 78, none⟩)] w fun e w' => e = .returned (.string (t.extract 0 k)) ∧ ∃ q, w' = w.drewN q := by
  go_enter Tryd.func23, Tryd.ntmps23
  go_wp2
  go_quiet (fail)
  go_wp2
  go_ret
  exact ⟨rfl, _, rfl⟩

/-- The byte that comes is another one. -/
theorem fstep_no (c0 : w.cell? ⟨b, 78, none⟩ = some (.string t)) (c1 : w.cell? ⟨b, 79, none⟩ = some (.int .i64 k)) (h0 : 0 < k) (hk : k < t.size) (hc : (t[k].toNat : Int) ≠ c) :
    Calls Tryd.prog 22 #[.pointer (some ⟨b, 78, none⟩), .int .u8 c] w fun e w' => e = .returned (.int .i64 2) ∧ w = w' := by
  have g0 : ((k : Int) == 0) = false := beq_eq_false_iff_ne.2 (by omega)
  have g1 : ((k : Int) == t.size) = false := beq_eq_false_iff_ne.2 (by omega)
  have g2 : ((t[k].toNat : Int) != c) = true := bne_iff_ne.2 hc
  clear hc
  go_enter Tryd.func22, Tryd.ntmps22
  go_wp2
  go_ret
  exact ⟨rfl, rfl⟩
theorem fstep_goes (c0 : w.cell? ⟨b, 78, none⟩ = some (.string t)) (c1 : w.cell? ⟨b, 79, none⟩ = some (.int .i64 k)) (f0 : w.frozen? ⟨b, 78, none⟩ = false) (f1 : w.frozen? ⟨b, 79, none⟩ = false) (hz : t.size ≤ 5) (h0 : 0 < k) (hk : k + 1 < t.size) (hc : (t[k].toNat : Int) = c) :
    Calls Tryd.prog 22 #[.pointer (some ⟨b, 78, none⟩), .int .u8 c] w fun e w' => e = .returned (.int .i64 0) ∧ w' = (w.setCell ⟨b, 78, none⟩ (.string t)).setCell ⟨b, 79, none⟩ (.int .i64 ((k : Int) + 1)) := by
  have g0 : ((k : Int) == 0) = false := beq_eq_false_iff_ne.2 (by omega)
  have g1 : ((k : Int) == t.size) = false := beq_eq_false_iff_ne.2 (by omega)
  have g2 : ((t[k].toNat : Int) != c) = false := by simp [hc]
  have g3 : ((k : Int) + 1 == t.size) = false := beq_eq_false_iff_ne.2 (by omega)
  have k1 : k < t.size := by omega
  clear hc
  go_enter Tryd.func22, Tryd.ntmps22
  go_wp2
  go_ret
  exact ⟨rfl, rfl⟩
theorem fstep_done (c0 : w.cell? ⟨b, 78, none⟩ = some (.string t)) (c1 : w.cell? ⟨b, 79, none⟩ = some (.int .i64 k)) (f0 : w.frozen? ⟨b, 78, none⟩ = false) (f1 : w.frozen? ⟨b, 79, none⟩ = false) (hz : t.size ≤ 5) (h0 : 0 < k) (k1 : k < t.size) (k2 : t.size ≤ k + 1) (hc : (t[k].toNat : Int) = c) :
    Calls Tryd.prog 22 #[.pointer (some ⟨b, 78, none⟩), .int .u8 c] w fun e w' => e = .returned (.int .i64 1) ∧ w' = (w.setCell ⟨b, 78, none⟩ (.string t)).setCell ⟨b, 79, none⟩ (.int .i64 ((k : Int) + 1)) := by
  have g0 : ((k : Int) == 0) = false := beq_eq_false_iff_ne.2 (by omega)
  have g1 : ((k : Int) == t.size) = false := beq_eq_false_iff_ne.2 (by omega)
  have g2 : ((t[k].toNat : Int) != c) = false := by simp [hc]
  have g3 : ((k : Int) + 1 == t.size) = true := beq_iff_eq.2 (by omega)
  clear hc
  go_enter Tryd.func22, Tryd.ntmps22
  go_wp2
  go_ret
  exact ⟨rfl, rfl⟩
end

/-- A word's first byte. -/
theorem fstep_first (b : Nat) (t t' : ByteArray) (c : Int) (hz : 1 < t'.size) (hc : (t'[0].toNat : Int) = c) (T : TypeId) (cs : Array Value) (w : World) (hT : Tab w) (h : Own w b T cs) (e0 : cs[78]? = some (.string t)) (e1 : cs[79]? = some (.int .i64 0))
    (hB : ∀ w, Tab w → Calls Tryd.prog 33 #[.int .u8 c] w fun e w' => e = .returned (.string t') ∧ Below w.heap.size w w') :
    Calls Tryd.prog 22 #[.pointer (some ⟨b, 78, none⟩), .int .u8 c] w fun e w' => e = .returned (.int .i64 0) ∧ Own w' b T ((cs.setIfInBounds 78 (.string t')).setIfInBounds 79 (.int .i64 1)) ∧ Turned b w w' := by
  have c0 := h.at 78
  have c1 := h.at 79
  rw [e0] at c0
  rw [e1] at c1
  have KB := Lib.hid hB
  clear hB
  have hin := h.inside
  have g1 : ((0 : Int) == t'.size) = false := beq_eq_false_iff_ne.2 (by omega)
  have g2 : ((t'[0].toNat : Int) != c) = false := by simp [hc]
  have g3 : ((1 : Int) == t'.size) = false := beq_eq_false_iff_ne.2 (by omega)
  have k1 : 0 < t'.size := by omega
  clear hc
  go_enter Tryd.func22, Tryd.ntmps22
  go_wp2_with (go_at_call 33; refine (KB.out _ hT).mono ?_; rintro e w' ⟨rfl, hb⟩; have h' := h.stay hb hin; have d0 := h'.at 78; have d1 := h'.at 79; have f0 := h'.free 78; have f1 := h'.free 79; rw [e0] at d0; rw [e1] at d1)
  go_ret
  exact ⟨rfl, (h'.put 78 (.string t')).put 79 (.int .i64 1), ((Turned.of_below hb rfl).put 78 _).put 79 _⟩

end Go.Proofs.YtoahnbjpmbhpfaaDoor
