/- The contracts of numeral's Walk, Is, Fault and Count. -/
import Derived.Test.YtoahnbjpmbhpfaaDoorNum
namespace Go.Proofs.YtoahnbjpmbhpfaaDoor
open Go.RowKit

set_option maxHeartbeats 400000 in
theorem nwhole_any (b : Nat) (a : Int) (w : World) (h : Own w b 45 #[.int .i64 a]) (ha : StA a) :
    Calls Tryd.prog 12 #[.pointer (some ⟨b, 0, none⟩)] w fun e w' => e = .returned (.bool (whI a)) ∧ w = w' := by
  have c0 := h.at 0
  simp at c0
  have HW := Lib.hid (whole_in a ha)
  go_enter Tryd.func12, Tryd.ntmps12
  go_wp2_with (go_at_call 18; refine (HW.out _).mono ?_; rintro e w' ⟨rfl, rfl⟩)
  go_ret
  exact ⟨rfl, rfl⟩

set_option maxHeartbeats 1000000 in
theorem nstep_goes (b : Nat) (c a : Int) (w : World) (h : Own w b 45 #[.int .i64 a]) (ha : StA a) (hc : nxI a c ≠ 0) :
    Calls Tryd.prog 21 #[.pointer (some ⟨b, 0, none⟩), .int .u8 c] w fun e w' => e = .returned (.int .i64 0) ∧ Own w' b 45 #[.int .i64 (nxI a c)] ∧ Turned b w w' := by
  have c0 := h.at 0
  have f0 := h.free 0
  simp at c0
  have HB := Lib.hid (behind_in a c ha)
  have hc' : (nxI a c == 0) = false := beq_eq_false_iff_ne.2 hc
  generalize nxI a c = x at *
  go_enter Tryd.func21, Tryd.ntmps21
  go_wp2_with (go_at_call 31; refine (HB.out _).mono ?_; rintro e w' ⟨rfl, rfl⟩)
  go_ret
  exact ⟨rfl, by simpa using h.put 0 (.int .i64 x), (Turned.refl b w).put 0 _⟩

set_option maxHeartbeats 1000000 in
theorem nstep_stays (b : Nat) (c a : Int) (w : World) (h : Own w b 45 #[.int .i64 a]) (ha : StA a) (hc : nxI a c = 0) :
    Calls Tryd.prog 21 #[.pointer (some ⟨b, 0, none⟩), .int .u8 c] w fun e w' => e = .returned (.int .i64 (anI a c)) ∧ w = w' := by
  have c0 := h.at 0
  simp at c0
  have hb := behind_in a c ha
  rw [hc] at hb
  have HB := Lib.hid hb
  have HN := Lib.hid (fun w hw => nwhole_any b a w hw ha)
  have HK := Lib.hid (sticks_any c)
  have HV := Lib.hid (show anI a c = if whI a && !stickI c then 1 else 2 by unfold anI; rw [if_neg (by simp [hc])])
  clear hc hb
  generalize whI a = x at *
  generalize stickI c = y at *
  cases x <;> cases y
  all_goals
    go_enter Tryd.func21, Tryd.ntmps21
    go_wp2_with (first
      | (go_at_call 31; refine (HB.out _).mono ?_; rintro e w' ⟨rfl, rfl⟩)
      | (go_at_call 12; refine (HN.out _ h).mono ?_; rintro e w' ⟨rfl, rfl⟩)
      | (go_at_call 32; refine (HK.out _).mono ?_; rintro e w' ⟨rfl, rfl⟩))
    go_ret
    exact ⟨ret_i (by rw [HV.out]; rfl), rfl⟩

def fRun (a : Int) : List UInt8 → Int → Int
  | [], k => if whI a then -1 else k
  | c :: t, k => if nxI a c.toNat = 0 then k else fRun (nxI a c.toNat) t (k + 1)
def cRun (a : Int) : List UInt8 → Int → Int → Int
  | [], _, n => n
  | c :: t, k, n => if nxI a c.toNat = 0 then n else cRun (nxI a c.toNat) t (k + 1) (if whI (nxI a c.toNat) then k + 1 else n)

theorem fRun_cons (a : Int) (l : List UInt8) (k : Nat) (h : k < l.length) (n : Int) :
    fRun a (l.drop k) n = if nxI a l[k].toNat = 0 then n else fRun (nxI a l[k].toNat) (l.drop (k + 1)) (n + 1) := by
  rw [List.drop_eq_getElem_cons h]; rfl
theorem cRun_cons (a : Int) (l : List UInt8) (k : Nat) (h : k < l.length) (n m : Int) :
    cRun a (l.drop k) n m = if nxI a l[k].toNat = 0 then m else cRun (nxI a l[k].toNat) (l.drop (k + 1)) (n + 1) (if whI (nxI a l[k].toNat) then n + 1 else m) := by
  rw [List.drop_eq_getElem_cons h]; rfl
theorem stA_zero : StA 0 := by unfold StA; omega

/-- Where Fault's loop is. -/
def RelFault (s : ByteArray) (W wr : World) (i : Value) : Prop :=
  ∃ (k : Nat) (a : Int), k ≤ s.size ∧ i = .int .i64 k ∧ StA a ∧ Own wr W.heap.size 45 #[.int .i64 a] ∧ Below W.heap.size W wr ∧ fRun 0 s.data.toList 0 = fRun a (s.data.toList.drop k) k

theorem fRun_ge (l : List UInt8) : ∀ (a k : Int), 0 ≤ k → (-1 ≤ fRun a l k ∧ fRun a l k ≤ k + l.length) := by
  induction l with
  | nil => intro a k h; show -1 ≤ (if whI a then -1 else k) ∧ (if whI a then -1 else k) ≤ _; split <;> simp <;> omega
  | cons c t ih =>
    intro a k h
    show -1 ≤ (if nxI a c.toNat = 0 then k else fRun _ t (k + 1)) ∧ (if nxI a c.toNat = 0 then k else fRun _ t (k + 1)) ≤ k + ((c :: t).length : Int)
    have e : ((c :: t).length : Int) = t.length + 1 := by simp
    rw [e]
    split
    · omega
    · have := ih (nxI a c.toNat) (k + 1) (by omega)
      omega

theorem fRun_neg (l : List UInt8) : ∀ (a k : Int), 0 ≤ k → decide (fRun a l k < 0) = acc a l := by
  induction l with
  | nil => intro a k h; show decide ((if whI a then -1 else k) < 0) = whI a; cases whI a <;> simp; omega
  | cons c t ih =>
    intro a k h
    show decide ((if nxI a c.toNat = 0 then k else fRun _ t (k + 1)) < 0) = (if nxI a c.toNat = 0 then false else acc _ t)
    split
    · simp; omega
    · exact ih _ _ (by omega)

def RelCount (s : ByteArray) (W wr : World) (m i : Value) : Prop :=
  ∃ (k : Nat) (a : Int) (n : Nat), k ≤ s.size ∧ n ≤ k ∧ i = .int .i64 k ∧ m = .int .i64 n ∧ StA a ∧ Own wr W.heap.size 45 #[.int .i64 a] ∧ Below W.heap.size W wr ∧ cRun 0 s.data.toList 0 0 = cRun a (s.data.toList.drop k) k n

end Go.Proofs.YtoahnbjpmbhpfaaDoor
