/- Plain mathematics of layer 4: the places of a numeral, and the document's numeral, part by part. -/
import Derived.Test.YtoahnbjpmbhpfaaDoorBuf
namespace Go.Proofs.YtoahnbjpmbhpfaaDoor

/-- Where a digit leads. -/
def dgI (a c : Int) : Int :=
  if a = 0 ∨ a = 1 then (if c = 48 then 2 else 3) else if a = 3 then 3 else if a = 4 ∨ a = 5 then 5 else if a = 6 ∨ a = 7 ∨ a = 8 then 8 else 0
/-- Where a sign leads. -/
def sgI (a c : Int) : Int := if a = 6 then 7 else if a = 0 ∧ c = 45 then 1 else 0
/-- Where a byte leads; 0: nowhere. -/
def nxI (a c : Int) : Int :=
  if c = 43 ∨ c = 45 then sgI a c else if c = 46 ∧ (a = 2 ∨ a = 3) then 4 else
  if (c = 101 ∨ c = 69) ∧ (a = 2 ∨ a = 3 ∨ a = 5) then 6 else if isDigitI c then dgI a c else 0
def whI (a : Int) : Bool := decide (a = 2 ∨ a = 3 ∨ a = 5 ∨ a = 8)
def stickI (c : Int) : Bool := isDigitI c || isAlphaI c || decide (c = 46) || decide (c = 43) || decide (c = 45)
/-- What a byte does. -/
def anI (a c : Int) : Int := if nxI a c ≠ 0 then 0 else if whI a && !stickI c then 1 else 2
def StA (a : Int) : Prop := 0 ≤ a ∧ a ≤ 8

theorem stA_cases {a : Int} (h : StA a) : a = 0 ∨ a = 1 ∨ a = 2 ∨ a = 3 ∨ a = 4 ∨ a = 5 ∨ a = 6 ∨ a = 7 ∨ a = 8 := by unfold StA at h; omega
theorem stA_next (a c : Int) : StA (nxI a c) := by
  unfold nxI sgI dgI StA
  (repeat' split) <;> omega

/-- Is a numeral whole behind these bytes, from a place on? -/
def acc (a : Int) : List UInt8 → Bool
  | [] => whI a
  | c :: t => if nxI a c.toNat = 0 then false else acc (nxI a c.toNat) t

/-- How many digits it begins with. -/
def digL : List UInt8 → Nat
  | [] => 0
  | c :: t => if isDigitI c.toNat then digL t + 1 else 0
def hdIs (l : List UInt8) (c : Int) : Bool := match l with | [] => false | x :: _ => decide ((x.toNat : Int) = c)
/-- The parts: behind e, behind a fraction, behind the whole number, behind the sign. -/
def expR (l : List UInt8) : Bool := decide (0 < l.length ∧ digL l = l.length)
def signR (l : List UInt8) : Bool := if hdIs l 43 || hdIs l 45 then expR (l.drop 1) else expR l
def tailR (l : List UInt8) : Bool := if l.length = 0 then true else if hdIs l 101 || hdIs l 69 then signR (l.drop 1) else false
def fracR (l : List UInt8) : Bool := if digL l = 0 then false else tailR (l.drop (digL l))
def pointR (l : List UInt8) : Bool := if hdIs l 46 then fracR (l.drop 1) else tailR l
def intR (l : List UInt8) : Bool := if digL l = 0 ∨ 1 < digL l ∧ hdIs l 48 = true then false else pointR (l.drop (digL l))
def isR (l : List UInt8) : Bool := if hdIs l 45 then intR (l.drop 1) else intR l

theorem acc_cons (a : Int) (c : UInt8) (t : List UInt8) : acc a (c :: t) = if nxI a c.toNat = 0 then false else acc (nxI a c.toNat) t := rfl
theorem digL_cons (c : UInt8) (t : List UInt8) : digL (c :: t) = if isDigitI c.toNat then digL t + 1 else 0 := rfl
theorem digL_le (l : List UInt8) : digL l ≤ l.length := by
  induction l with
  | nil => exact Nat.le_refl _
  | cons c t ih => rw [digL_cons]; split <;> simp <;> omega
theorem hd_cons (x : UInt8) (t : List UInt8) (c : Int) : hdIs (x :: t) c = decide ((x.toNat : Int) = c) := rfl
theorem hd_nil (c : Int) : hdIs [] c = false := rfl

theorem dig_iff (c : Int) : isDigitI c = true ↔ 48 ≤ c ∧ c ≤ 57 := by simp [isDigitI]

theorem nx_dig {a c : Int} (h : isDigitI c = true) : nxI a c = dgI a c := by
  rw [dig_iff] at h
  unfold nxI
  rw [if_neg (by omega), if_neg (by omega), if_neg (by omega), if_pos ((dig_iff c).2 h)]

theorem acc8 (l : List UInt8) : acc 8 l = decide (digL l = l.length) := by
  induction l with
  | nil => rfl
  | cons c t ih =>
    rw [acc_cons, digL_cons]
    by_cases hd : isDigitI c.toNat = true
    · rw [nx_dig hd, show dgI 8 c.toNat = 8 from rfl, if_neg (by decide), ih, if_pos hd]
      simp
    · rw [if_neg hd, show nxI 8 c.toNat = 0 by unfold nxI sgI; simp only [hd]; (repeat' split) <;> simp_all, if_pos rfl]
      simp

theorem acc7 (l : List UInt8) : acc 7 l = expR l := by
  cases l with
  | nil => rfl
  | cons c t =>
    unfold expR
    rw [acc_cons, digL_cons]
    by_cases hd : isDigitI c.toNat = true
    · rw [nx_dig hd, show dgI 7 c.toNat = 8 from rfl, if_neg (by decide), acc8, if_pos hd]
      simp
    · rw [if_neg hd, show nxI 7 c.toNat = 0 by unfold nxI sgI; simp only [hd]; (repeat' split) <;> simp_all, if_pos rfl]
      simp

theorem acc6 (l : List UInt8) : acc 6 l = signR l := by
  unfold signR
  cases l with
  | nil => rfl
  | cons c t =>
    rw [acc_cons, hd_cons, hd_cons]
    by_cases hs : (c.toNat : Int) = 43 ∨ (c.toNat : Int) = 45
    · rw [show nxI 6 c.toNat = 7 by unfold nxI; rw [if_pos hs]; rfl, if_neg (by decide), acc7, if_pos (by simpa using hs)]
      rfl
    · have hr : ¬ (decide ((c.toNat : Int) = 43) || decide ((c.toNat : Int) = 45)) = true := by simpa using hs
      by_cases hd : isDigitI c.toNat = true
      · rw [if_neg hr, nx_dig hd, show dgI 6 c.toNat = 8 from rfl, if_neg (by decide), acc8]
        unfold expR
        rw [digL_cons, if_pos hd]
        simp
      · rw [if_neg hr, show nxI 6 c.toNat = 0 by unfold nxI; simp only [hd, hs]; simp, if_pos rfl]
        unfold expR
        rw [digL_cons, if_neg hd]
        simp

theorem drop_dig (c : UInt8) (t : List UInt8) (h : isDigitI c.toNat = true) : (c :: t).drop (digL (c :: t)) = t.drop (digL t) := by
  rw [digL_cons, if_pos h]; rfl
theorem drop_nodig (c : UInt8) (t : List UInt8) (h : ¬ isDigitI c.toNat = true) : (c :: t).drop (digL (c :: t)) = c :: t := by
  rw [digL_cons, if_neg h]; rfl

/-- Behind a whole number or a fraction, where no digit follows. -/
theorem acc_e (a : Int) (ha : a = 2 ∨ a = 3 ∨ a = 5) (c : UInt8) (t : List UInt8) (h : ¬ isDigitI c.toNat = true) (hp : (c.toNat : Int) = 46 → a = 5) : acc a (c :: t) = tailR (c :: t) := by
  unfold tailR
  rw [acc_cons, hd_cons, hd_cons, if_neg (show ¬ (c :: t).length = 0 by simp)]
  by_cases he : (c.toNat : Int) = 101 ∨ (c.toNat : Int) = 69
  · rw [show nxI a c.toNat = 6 by unfold nxI; rw [if_neg (by omega), if_neg (by omega), if_pos (by omega)], if_neg (by decide), acc6, if_pos (by simpa using he)]
    rfl
  · rw [show nxI a c.toNat = 0 by unfold nxI sgI; (repeat' split) <;> first | omega | simp_all, if_pos rfl, if_neg (by simpa using he)]

theorem acc5 (l : List UInt8) : acc 5 l = tailR (l.drop (digL l)) := by
  induction l with
  | nil => rfl
  | cons c t ih =>
    by_cases hd : isDigitI c.toNat = true
    · rw [acc_cons, nx_dig hd, show dgI 5 c.toNat = 5 from rfl, if_neg (by decide), ih, drop_dig c t hd]
    · rw [drop_nodig c t hd, acc_e 5 (by omega) c t hd (fun _ => rfl)]

theorem acc4 (l : List UInt8) : acc 4 l = fracR l := by
  unfold fracR
  cases l with
  | nil => rfl
  | cons c t =>
    by_cases hd : isDigitI c.toNat = true
    · rw [acc_cons, nx_dig hd, show dgI 4 c.toNat = 5 from rfl, if_neg (by decide), acc5, drop_dig c t hd, if_neg (by rw [digL_cons, if_pos hd]; omega)]
    · rw [if_pos (by rw [digL_cons, if_neg hd]), acc_cons, show nxI 4 c.toNat = 0 by unfold nxI sgI; simp only [hd]; (repeat' split) <;> simp_all, if_pos rfl]

theorem acc_p (a : Int) (ha : a = 2 ∨ a = 3) (c : UInt8) (t : List UInt8) (h : ¬ isDigitI c.toNat = true) : acc a (c :: t) = pointR (c :: t) := by
  unfold pointR
  rw [hd_cons]
  by_cases hp : (c.toNat : Int) = 46
  · rw [acc_cons, show nxI a c.toNat = 4 by unfold nxI; rw [if_neg (by omega), if_pos ⟨hp, ha⟩], if_neg (by decide), acc4, if_pos (by simpa using hp)]
    rfl
  · rw [if_neg (by simpa using hp)]
    exact acc_e a (by omega) c t h (fun e => absurd e hp)

theorem acc3 (l : List UInt8) : acc 3 l = pointR (l.drop (digL l)) := by
  induction l with
  | nil => rfl
  | cons c t ih =>
    by_cases hd : isDigitI c.toNat = true
    · rw [acc_cons, nx_dig hd, show dgI 3 c.toNat = 3 from rfl, if_neg (by decide), ih, drop_dig c t hd]
    · rw [drop_nodig c t hd, acc_p 3 (by omega) c t hd]

theorem acc2 (l : List UInt8) : acc 2 l = if digL l = 0 then pointR l else false := by
  cases l with
  | nil => rfl
  | cons c t =>
    by_cases hd : isDigitI c.toNat = true
    · rw [acc_cons, nx_dig hd, show dgI 2 c.toNat = 0 from rfl, if_pos rfl, if_neg (by rw [digL_cons, if_pos hd]; omega)]
    · rw [if_pos (by rw [digL_cons, if_neg hd]), acc_p 2 (by omega) c t hd]

theorem acc01 (a : Int) (ha : a = 0 ∨ a = 1) (l : List UInt8) (hm : a = 0 → hdIs l 45 = false) : acc a l = intR l := by
  unfold intR
  cases l with
  | nil => rcases ha with rfl | rfl <;> rfl
  | cons c t =>
    rw [acc_cons, hd_cons]
    by_cases hd : isDigitI c.toNat = true
    · have hdd : dgI a c.toNat = if (c.toNat : Int) = 48 then 2 else 3 := by unfold dgI; rw [if_pos ha]
      rw [nx_dig hd, hdd, drop_dig c t hd, digL_cons, if_pos hd]
      by_cases h0 : (c.toNat : Int) = 48
      · rw [if_pos h0, if_neg (by decide), acc2]
        by_cases hz : digL t = 0
        · rw [if_pos hz, if_neg (by rw [hz]; simp), hz]
          rfl
        · rw [if_neg hz, if_pos (by simp [h0]; omega)]
      · rw [if_neg h0, if_neg (by decide), acc3, if_neg (by simp [h0])]
    · rw [digL_cons, if_neg hd, if_pos (Or.inl rfl), show nxI a c.toNat = 0 by
        unfold nxI sgI
        have hm' : a = 0 → ¬ (c.toNat : Int) = 45 := fun e => by have := hm e; rw [hd_cons] at this; simpa using this
        (repeat' split) <;> first | omega | simp_all, if_pos rfl]

theorem acc0 (l : List UInt8) : acc 0 l = isR l := by
  unfold isR
  by_cases hm : hdIs l 45 = true
  · cases l with
    | nil => cases hm
    | cons c t =>
      rw [if_pos hm]
      rw [hd_cons] at hm
      have hc : (c.toNat : Int) = 45 := of_decide_eq_true hm
      rw [acc_cons, hc, show nxI 0 45 = 1 from rfl, if_neg (by decide), acc01 1 (Or.inr rfl) t (fun e => by omega)]
      rfl
  · rw [if_neg hm, acc01 0 (Or.inl rfl) l (fun _ => by simpa using hm)]

/-- The place behind these bytes is a: none of them led nowhere. -/
def At (a : Int) (l : List UInt8) : Prop := StA a ∧ ∀ r, acc 0 (l ++ r) = acc a r
theorem at_nil : At 0 [] := ⟨by unfold StA; omega, fun r => rfl⟩
theorem at_step {a : Int} {l : List UInt8} (h : At a l) (c : UInt8) (hc : nxI a c.toNat ≠ 0) : At (nxI a c.toNat) (l ++ [c]) :=
  ⟨stA_next _ _, fun r => by rw [List.append_assoc, h.2]; show acc a (c :: r) = _; rw [acc_cons, if_neg hc]⟩
theorem at_is {a : Int} {l : List UInt8} (h : At a l) : isR l = whI a := by
  have := h.2 []
  rw [List.append_nil] at this
  rw [← acc0, this]; rfl
theorem at_dead {a : Int} {l : List UInt8} (h : At a l) (c : UInt8) (hc : nxI a c.toNat = 0) (r : List UInt8) : isR (l ++ c :: r) = false := by
  rw [← acc0, h.2, acc_cons, if_pos hc]

theorem wh_one (a : Int) (h : StA a) : (whI a || acc a [49]) = true := by
  rcases stA_cases h with rfl | rfl | rfl | rfl | rfl | rfl | rfl | rfl | rfl <;> decide +kernel

/-- What the document's Step answers, by the place. -/
theorem at_goes {a : Int} {l : List UInt8} (h : At a l) (c : UInt8) : (isR (l ++ [c]) || isR (l ++ [c] ++ [49])) = decide (nxI a c.toNat ≠ 0) := by
  by_cases hc : nxI a c.toNat = 0
  · rw [at_dead h c hc [], show l ++ [c] ++ [49] = l ++ c :: [49] by simp, at_dead h c hc [49]]
    simp [hc]
  · have h' := at_step h c hc
    rw [at_is h', ← acc0, h'.2, wh_one _ h'.1]
    simp [hc]

end Go.Proofs.YtoahnbjpmbhpfaaDoor
