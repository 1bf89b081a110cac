/- Whole texts, as plain mathematics: bytes, one by one, make tokens, these make events; where a text is none. -/
import Derived.Test.YthpkcapooeedeaaDoorRows
import Derived.Test.YthpkcapooeedeaaDoorJ10
namespace Go.Proofs.YthpkcapooeedeaaDoor
set_option linter.unusedVariables false

/-- Tokens, one by one, up to the first fault. -/
def takeAll : Nst → List Tok → Nst × List Evt × Int
  | n, [] => (n, [], 0)
  | n, t :: ts => if (takeN n t).2.2 ≠ 0 then takeN n t else ((takeAll (takeN n t).1 ts).1, (takeN n t).2.1 ++ (takeAll (takeN n t).1 ts).2.1, (takeAll (takeN n t).1 ts).2.2)
/-- A byte of a text: the events, the fault (0: none), where one is then. -/
def byteP (st : LSt) (n : Nst) (k : Nat) (c : UInt8) : List Evt × Int × LSt × Nst :=
  ((takeAll n (stepL st k c).1).2.1, if (takeAll n (stepL st k c).1).2.2 ≠ 0 then (takeAll n (stepL st k c).1).2.2 else if (stepL st k c).2.1 = 8 ∧ (takeAll n (stepL st k c).1).1.may.isNothing = true then 9 else (stepL st k c).2.1,
    (stepL st k c).2.2, (takeAll n (stepL st k c).1).1)
def May.isBad : May → Bool
  | .broken => true
  | _ => false
/-- No more tokens come. -/
def closeN (n : Nst) : Int := if n.may.isBad then 14 else if n.may.isNothing then 1 else if n.came then 10 else 11
/-- The end of a text: the events, the verdict. -/
def endP (st : LSt) (n : Nst) (k : Nat) : List Evt × Int := ((takeAll n (closeL st k).1).2.1, if (closeL st k).2 ≠ 1 then (closeL st k).2 else closeN (takeAll n (closeL st k).1).1)
/-- The bytes of a text from somewhere on: all events, the verdict's kind, and where. -/
def goP : LSt → Nst → List UInt8 → Nat → List Evt × Int × Nat
  | st, n, [], k => ((endP st n k).1, (endP st n k).2, k)
  | st, n, c :: t, k => if (byteP st n k c).2.1 ≠ 0 then ((byteP st n k c).1, (byteP st n k c).2.1, k) else
      ((byteP st n k c).1 ++ (goP (byteP st n k c).2.2.1 (byteP st n k c).2.2.2 t (k + 1)).1, (goP (byteP st n k c).2.2.1 (byteP st n k c).2.2.2 t (k + 1)).2)
def parseP (l : List UInt8) (d : Int) : List Evt × Int × Nat := goP .out (newN d) l 0

/-- A fault of a byte, not of the text's end. -/
def FK (f : Int) : Prop := f ≠ 0 ∧ f ≠ 1 ∧ f ≠ 10 ∧ f ≠ 11
def EK (f : Int) : Prop := f = 1 ∨ f = 10 ∨ f = 11

/-- What fits together: where one is in a token, and in what is open. -/
def Fit (st : LSt) (n : Nst) : Prop := n.may.isBad = false ∧ match st with
  | .out => n.begun = 0
  | .dead => False
  | _ => n.begun ≠ 0

theorem takeO_fault (n : Nst) (t : Tok) (hx : n.may.isBad = false) : ((takeO n t).2.2 ≠ 0 → FK (takeO n t).2.2) ∧ ((takeO n t).2.2 = 0 → (takeO n t).1.may.isBad = false ∧ (t.begun = false → (takeO n t).1.begun = n.begun) ∧ (t.begun = true → t.kind ≠ 0 → (takeO n t).1.begun ≠ 0)) := by
  obtain ⟨most, op, may, begun, came⟩ := n
  obtain ⟨kd, bg, fr, to, tx⟩ := t
  have h8 : FK 8 := ⟨by decide, by decide, by decide, by decide⟩
  have h9 : FK 9 := ⟨by decide, by decide, by decide, by decide⟩
  have h12 : FK 12 := ⟨by decide, by decide, by decide, by decide⟩
  cases may <;> first
    | (cases hx; done)
    | (cases op <;> cases bg <;> unfold takeO <;> simp only [] <;> (repeat' split) <;> first
        | contradiction
        | exact ⟨fun _ => h8, fun h => absurd h (by show (8 : Int) ≠ 0; decide)⟩
        | exact ⟨fun _ => h9, fun h => absurd h (by show (9 : Int) ≠ 0; decide)⟩
        | exact ⟨fun _ => h12, fun h => absurd h (by show (12 : Int) ≠ 0; decide)⟩
        | (refine ⟨fun h => absurd rfl h, fun _ => ⟨?_, ?_, ?_⟩⟩
           · first
               | rfl
               | (split <;> rfl)
               | (simp only [endedN]; split <;> rfl)
           · first
               | (intro h; cases h; done)
               | (intro _; rfl)
           · first
               | (intro h; cases h; done)
               | (intro _ _; show (8 : Int) ≠ 0; decide)
               | (intro _ h; exact h)))
theorem takeN_end (n : Nst) (t : Tok) (hx : n.may.isBad = false) (hb : n.begun ≠ 0) : (takeN n t).2.2 = 0 ∧ (takeN n t).1.may.isBad = false ∧ (takeN n t).1.begun = 0 := by
  unfold takeN
  rw [if_neg hb]
  split
  · exact ⟨rfl, rfl, rfl⟩
  · refine ⟨rfl, ?_, rfl⟩
    simp only [endedN]
    split <;> rfl

/-- A byte outside of tokens. -/
theorem out_fit (n : Nst) (k : Nat) (c : UInt8) (hx : n.may.isBad = false) (hb : n.begun = 0) (f : Int) (hf : f = if (takeAll n (outL k c).1).2.2 ≠ 0 then (takeAll n (outL k c).1).2.2 else if (outL k c).2.1 = 8 ∧ (takeAll n (outL k c).1).1.may.isNothing = true then 9 else (outL k c).2.1) :
    (f ≠ 0 → FK f) ∧ (f = 0 → Fit (outL k c).2.2 (takeAll n (outL k c).1).1) := by
  have one : ∀ (t : Tok) (st : LSt), f = (if (takeAll n [t]).2.2 ≠ 0 then (takeAll n [t]).2.2 else if (0 : Int) = 8 ∧ (takeAll n [t]).1.may.isNothing = true then 9 else 0) → (∀ m : Nst, m.may.isBad = false → (t.begun = false → m.begun = 0) → (t.begun = true → m.begun ≠ 0) → Fit st m) → t.kind ≠ 0 →
      (f ≠ 0 → FK f) ∧ (f = 0 → Fit st (takeAll n [t]).1) := by
    intro t st hf hst hk
    have e : takeN n t = takeO n t := by unfold takeN; rw [if_pos hb]
    obtain ⟨h1, h2⟩ := takeO_fault n t hx
    by_cases h0 : (takeO n t).2.2 = 0
    · have ea : takeAll n [t] = ((takeO n t).1, (takeO n t).2.1 ++ [], 0) := by
        show (if (takeN n t).2.2 ≠ 0 then takeN n t else ((takeN n t).1, (takeN n t).2.1 ++ [], 0)) = _
        rw [e, if_neg (fun h => h h0)]
      rw [ea] at hf ⊢
      have hf0 : f = 0 := by rw [hf]; simp
      refine ⟨fun h => absurd hf0 h, fun _ => ?_⟩
      obtain ⟨g1, g2, g3⟩ := h2 h0
      exact hst _ g1 (fun h => (g2 h).trans hb) (fun h => g3 h hk)
    · have ea : takeAll n [t] = takeO n t := by
        show (if (takeN n t).2.2 ≠ 0 then takeN n t else _) = _
        rw [e, if_pos h0]
      rw [ea, if_pos h0] at hf
      refine ⟨fun _ => by rw [hf]; exact h1 h0, fun h => absurd (hf.symm.trans h) h0⟩
  unfold outL at hf ⊢
  split at hf
  · rename_i h1
    rw [if_pos h1]
    have : f = 0 := by rw [hf]; simp [takeAll]
    exact ⟨fun h => absurd this h, fun _ => ⟨hx, hb⟩⟩
  · rename_i h1
    rw [if_neg h1]
    split at hf
    · rename_i h2
      rw [if_pos h2]
      have : f = 9 ∨ f = 8 := by
        rw [hf]
        simp only [takeAll]
        split
        · rename_i h; exact absurd rfl h
        · split
          · exact .inl rfl
          · exact .inr rfl
      rcases this with h | h <;> rw [h] <;> exact ⟨fun _ => ⟨by decide, by decide, by decide, by decide⟩, fun h => absurd h (by decide)⟩
    · rename_i h2
      rw [if_neg h2]
      split at hf
      · rename_i h3
        rw [if_pos h3]
        exact one _ .out hf (fun m g1 g2 _ => ⟨g1, g2 rfl⟩) h2
      · rename_i h3
        rw [if_neg h3]
        split at hf
        · rename_i h4
          rw [if_pos h4]
          exact one _ _ hf (fun m g1 _ g3 => ⟨g1, g3 rfl⟩) (by show (8 : Int) ≠ 0; decide)
        · rename_i h4
          rw [if_neg h4]
          split at hf
          · rename_i h5
            rw [if_pos h5]
            exact one _ _ hf (fun m g1 _ g3 => ⟨g1, g3 rfl⟩) (by show (9 : Int) ≠ 0; decide)
          · rename_i h5
            rw [if_neg h5]
            exact one _ _ hf (fun m g1 _ g3 => ⟨g1, g3 rfl⟩) (by show (10 : Int) ≠ 0; decide)

theorem faultQ_fk (q : QSt) (c : UInt8) : FK (faultQ q c) := by
  have h : ∀ k : Int, k = 2 ∨ k = 3 ∨ k = 4 ∨ k = 7 ∨ k = 14 → FK k := fun k hk => by
    rcases hk with rfl | rfl | rfl | rfl | rfl <;> exact ⟨by decide, by decide, by decide, by decide⟩
  apply h
  cases q <;> unfold faultQ <;> (repeat' split) <;> simp

/-- A byte: the fault, or where one is. -/
theorem byteP_fit (st : LSt) (n : Nst) (k : Nat) (c : UInt8) (h : Fit st n) : ((byteP st n k c).2.1 ≠ 0 → FK (byteP st n k c).2.1) ∧ ((byteP st n k c).2.1 = 0 → Fit (byteP st n k c).2.2.1 (byteP st n k c).2.2.2) := by
  obtain ⟨hx, h⟩ := h
  have f5 : FK 5 := ⟨by decide, by decide, by decide, by decide⟩
  have f6 : FK 6 := ⟨by decide, by decide, by decide, by decide⟩
  have nine : ∀ f : Int, FK f → ∀ z : Bool, FK (if f = 8 ∧ z = true then 9 else f) := fun f hf z => by
    split
    · exact ⟨by decide, by decide, by decide, by decide⟩
    · exact hf
  -- no tokens, and a fault or none
  have none : ∀ (f : Int) (st' : LSt), stepL st k c = ([], f, st') → (f = 0 → Fit st' n) → (f ≠ 0 → FK f) → ((byteP st n k c).2.1 ≠ 0 → FK (byteP st n k c).2.1) ∧ ((byteP st n k c).2.1 = 0 → Fit (byteP st n k c).2.2.1 (byteP st n k c).2.2.2) := by
    intro f st' e h1 h2
    have e1 : (byteP st n k c).2.1 = if f = 8 ∧ n.may.isNothing = true then 9 else f := by
      unfold byteP
      rw [e]
      show (if (0 : Int) ≠ 0 then (0 : Int) else if f = 8 ∧ n.may.isNothing = true then 9 else f) = _
      rw [if_neg (by decide)]
    have e2 : (byteP st n k c).2.2.1 = st' := by unfold byteP; rw [e]
    have e3 : (byteP st n k c).2.2.2 = n := by unfold byteP; rw [e]; rfl
    rw [e1, e2, e3]
    by_cases h0 : f = 0
    · subst h0
      rw [if_neg (by rintro ⟨h, _⟩; cases h)]
      exact ⟨fun h => absurd rfl h, fun _ => h1 rfl⟩
    · exact ⟨fun _ => nine f (h2 h0) _, fun h => absurd h (nine f (h2 h0) _).1⟩
  -- one token that ends
  have one : ∀ (t : Tok) (st' : LSt), stepL st k c = ([t], 0, st') → n.begun ≠ 0 → (∀ m : Nst, m.may.isBad = false → m.begun = 0 → Fit st' m) → ((byteP st n k c).2.1 ≠ 0 → FK (byteP st n k c).2.1) ∧ ((byteP st n k c).2.1 = 0 → Fit (byteP st n k c).2.2.1 (byteP st n k c).2.2.2) := by
    intro t st' e hb h1
    obtain ⟨g1, g2, g3⟩ := takeN_end n t hx hb
    have ea : takeAll n [t] = ((takeN n t).1, (takeN n t).2.1 ++ [], 0) := by
      show (if (takeN n t).2.2 ≠ 0 then takeN n t else ((takeN n t).1, (takeN n t).2.1 ++ [], 0)) = _
      rw [if_neg (fun h => h g1)]
    have e1 : (byteP st n k c).2.1 = 0 := by
      unfold byteP
      rw [e, ea]
      simp
    have e2 : (byteP st n k c).2.2.1 = st' := by unfold byteP; rw [e]
    have e3 : (byteP st n k c).2.2.2 = (takeN n t).1 := by unfold byteP; rw [e, ea]
    rw [e1, e2, e3]
    exact ⟨fun h => absurd rfl h, fun _ => h1 _ g2 g3⟩
  cases st with
  | dead => exact h.elim
  | out => exact out_fit n k c hx h _ rfl
  | num a f p =>
    have h : n.begun ≠ 0 := h
    by_cases h1 : nxI a c.toNat ≠ 0
    · exact none 0 (.num (nxI a c.toNat) f (p ++ [c])) (by show (if _ then _ else _) = _; rw [if_pos h1]) (fun _ => ⟨hx, h⟩) (fun h => absurd rfl h)
    · by_cases h2 : (whI a && !stickI c.toNat) = true
      · obtain ⟨g1, g2, g3⟩ := takeN_end n ⟨9, false, f, k, p⟩ hx h
        have e : stepL (.num a f p) k c = (⟨9, false, f, k, p⟩ :: (outL k c).1, (outL k c).2.1, (outL k c).2.2) := by show (if _ then _ else if _ then _ else _) = _; rw [if_neg h1, if_pos h2]
        have ea : takeAll n (⟨9, false, f, k, p⟩ :: (outL k c).1) = ((takeAll (takeN n ⟨9, false, f, k, p⟩).1 (outL k c).1).1, (takeN n ⟨9, false, f, k, p⟩).2.1 ++ (takeAll (takeN n ⟨9, false, f, k, p⟩).1 (outL k c).1).2.1, (takeAll (takeN n ⟨9, false, f, k, p⟩).1 (outL k c).1).2.2) := by
          show (if _ then _ else _) = _
          rw [if_neg (fun h => h g1)]
        have := out_fit (takeN n ⟨9, false, f, k, p⟩).1 k c g2 g3 _ rfl
        unfold byteP
        rw [e]
        simp only [ea]
        exact this
      · exact none 5 .dead (by show (if _ then _ else if _ then _ else _) = _; rw [if_neg h1, if_neg h2]) (fun h => absurd h (by decide)) (fun _ => f5)
  | word f p =>
    have h : n.begun ≠ 0 := h
    by_cases h1 : refL (p ++ [c]) = 2
    · exact none 6 .dead (by show (if _ then _ else if _ then _ else _) = _; rw [if_pos h1]) (fun h => absurd h (by decide)) (fun _ => f6)
    · by_cases h2 : refL (p ++ [c]) = 1
      · exact one ⟨10, false, f, k + 1, p ++ [c]⟩ .out (by show (if _ then _ else if _ then _ else _) = _; rw [if_neg h1, if_pos h2]) h (fun m g1 g2 => ⟨g1, g2⟩)
      · exact none 0 (.word f (p ++ [c])) (by show (if _ then _ else if _ then _ else _) = _; rw [if_neg h1, if_neg h2]) (fun _ => ⟨hx, h⟩) (fun h => absurd rfl h)
  | str q f acc =>
    have h : n.begun ≠ 0 := h
    have e : stepL (.str q f acc) k c = strL q f acc k c (stepQ q c) := rfl
    cases hs : stepQ q c with
    | none =>
      rw [hs] at e
      exact none _ .dead e (fun h => absurd h (faultQ_fk q c).1) (fun _ => faultQ_fk q c)
    | some x =>
      obtain ⟨q', y⟩ := x
      rw [hs] at e
      by_cases hd : q' = .done
      · subst hd
        exact one _ .out e h (fun m g1 g2 => ⟨g1, g2⟩)
      · have e' : strL q f acc k c (some (q', y)) = ([], 0, .str q' f (acc ++ y)) := by cases q' <;> first | rfl | exact absurd rfl hd
        rw [e'] at e
        exact none 0 _ e (fun _ => ⟨hx, h⟩) (fun h => absurd rfl h)

theorem endP_kind (st : LSt) (n : Nst) (k : Nat) (h : Fit st n) : EK (endP st n k).2 := by
  obtain ⟨hx, h⟩ := h
  have hc : ∀ m : Nst, m.may.isBad = false → EK (closeN m) := fun m hm => by
    unfold closeN
    rw [hm]
    simp only [Bool.false_eq_true, if_false]
    split
    · exact .inl rfl
    · split
      · exact .inr (.inl rfl)
      · exact .inr (.inr rfl)
  cases st with
  | dead => exact h.elim
  | out => exact hc n hx
  | num a f p =>
    have h : n.begun ≠ 0 := h
    by_cases h2 : whI a = true
    · obtain ⟨g1, g2, g3⟩ := takeN_end n ⟨9, false, f, k, p⟩ hx h
      have e : closeL (.num a f p) k = ([⟨9, false, f, k, p⟩], 1) := by show (if _ then _ else _) = _; rw [if_pos h2]
      have ea : takeAll n [⟨9, false, f, k, p⟩] = ((takeN n ⟨9, false, f, k, p⟩).1, (takeN n ⟨9, false, f, k, p⟩).2.1 ++ [], 0) := by
        show (if _ then _ else _) = _
        rw [if_neg (fun h => h g1)]
        rfl
      unfold endP
      rw [e]
      simp only [ea]
      exact hc _ g2
    · have e : closeL (.num a f p) k = ([], 10) := by show (if _ then _ else _) = _; rw [if_neg h2]
      unfold endP
      rw [e]
      exact .inr (.inl rfl)
  | word f p => exact .inr (.inl rfl)
  | str q f acc => exact .inr (.inl rfl)

/-- The least place: the fault is found by the bytes up to it alone. -/
theorem goP_least (l : List UInt8) : ∀ (st : LSt) (n : Nst) (k : Nat), Fit st n →
    (EK (goP st n l k).2.1 ∧ (goP st n l k).2.2 = k + l.length) ∨
    (FK (goP st n l k).2.1 ∧ ∃ p, p < l.length ∧ (goP st n l k).2.2 = k + p ∧ (∀ more, (goP st n (l.take (p + 1) ++ more) k).2 = (goP st n l k).2) ∧ EK (goP st n (l.take p) k).2.1) := by
  induction l with
  | nil => intro st n k h; exact .inl ⟨endP_kind st n k h, rfl⟩
  | cons c t ih =>
    intro st n k h
    obtain ⟨h1, h2⟩ := byteP_fit st n k c h
    by_cases hf : (byteP st n k c).2.1 ≠ 0
    · have e : goP st n (c :: t) k = ((byteP st n k c).1, (byteP st n k c).2.1, k) := by show (if _ then _ else _) = _; rw [if_pos hf]
      refine .inr ⟨by rw [e]; exact h1 hf, 0, by simp, by rw [e]; rfl, fun more => ?_, endP_kind st n k h⟩
      rw [e]
      show (goP st n (c :: more) k).2 = _
      have : goP st n (c :: more) k = ((byteP st n k c).1, (byteP st n k c).2.1, k) := by show (if _ then _ else _) = _; rw [if_pos hf]
      rw [this]
    · have hf0 : (byteP st n k c).2.1 = 0 := Decidable.not_not.1 hf
      have e : ∀ s, (goP st n (c :: s) k).2 = (goP (byteP st n k c).2.2.1 (byteP st n k c).2.2.2 s (k + 1)).2 := fun s => by
        have : goP st n (c :: s) k = ((byteP st n k c).1 ++ (goP (byteP st n k c).2.2.1 (byteP st n k c).2.2.2 s (k + 1)).1, (goP (byteP st n k c).2.2.1 (byteP st n k c).2.2.2 s (k + 1)).2) := by show (if _ then _ else _) = _; rw [if_neg hf]
        rw [this]
      rcases ih _ _ (k + 1) (h2 hf0) with ⟨g1, g2⟩ | ⟨g1, p, g2, g3, g4, g5⟩
      · exact .inl ⟨by rw [e]; exact g1, by rw [e, g2]; simp; omega⟩
      · refine .inr ⟨by rw [e]; exact g1, p + 1, by simp; exact g2, by rw [e, g3]; omega, fun more => ?_, ?_⟩
        · rw [List.take_succ_cons, List.cons_append, e, e]
          exact g4 more
        · rw [List.take_succ_cons, e]
          exact g5
theorem fit_start (d : Int) : Fit .out (newN d) := ⟨rfl, rfl⟩
theorem parseP_least (l : List UInt8) (d : Int) :
    (EK (parseP l d).2.1 ∧ (parseP l d).2.2 = l.length) ∨
    (FK (parseP l d).2.1 ∧ (parseP l d).2.2 < l.length ∧ (∀ more, (parseP (l.take ((parseP l d).2.2 + 1) ++ more) d).2 = (parseP l d).2) ∧ EK (parseP (l.take (parseP l d).2.2) d).2.1) := by
  rcases goP_least l .out (newN d) 0 (fit_start d) with ⟨h1, h2⟩ | ⟨h1, p, h2, h3, h4, h5⟩
  · exact .inl ⟨h1, by unfold parseP; omega⟩
  · have e : (parseP l d).2.2 = p := by unfold parseP; omega
    rw [e]
    exact .inr ⟨h1, h2, h4, h5⟩

end Go.Proofs.YthpkcapooeedeaaDoor

namespace Go.Proofs.YthpkcapooeedeaaDoor
set_option linter.unusedVariables false

/-- A value: its kind, where it stands, its text, its items and their names. -/
inductive Tree where
  | mk (kd : Int) (fr to : Nat) (tx : List UInt8) (items : List Tree) (names : List (List UInt8))
def Tree.kd : Tree → Int
  | .mk kd _ _ _ _ _ => kd
def Tree.fr : Tree → Nat
  | .mk _ fr _ _ _ _ => fr
def Tree.to : Tree → Nat
  | .mk _ _ to _ _ _ => to
def Tree.tx : Tree → List UInt8
  | .mk _ _ _ tx _ _ => tx
def Tree.items : Tree → List Tree
  | .mk _ _ _ _ items _ => items
def Tree.names : Tree → List (List UInt8)
  | .mk _ _ _ _ _ names => names
/-- A value that has ended, in the one that it is in. -/
def addT (t : Tree) (s : Stp) : Tree → Tree
  | .mk kd fr to tx items names => .mk kd fr to tx (items ++ [t]) (if s.named then names ++ [s.name] else names)
/-- What is open, the innermost first, with its step; the whole, once it has ended. -/
structure Bld where
  op : List (Tree × Stp)
  root : Option Tree
def bldE (b : Bld) (e : Evt) : Bld :=
  if e.kind = 1 then { b with op := (.mk e.value e.fr 0 [] [] [], e.step) :: b.op }
  else match b.op with
    | [] => b
    | [(.mk _ fr _ _ items names, s)] => ⟨[], some (.mk e.value fr e.to e.text items names)⟩
    | (.mk _ fr _ _ items names, s) :: (p, ps) :: r => { b with op := (addT (.mk e.value fr e.to e.text items names) s p, ps) :: r }
def bldA (b : Bld) (es : List Evt) : Bld := es.foldl bldE b
def treeE (es : List Evt) : Tree := (bldA ⟨[], none⟩ es).root.getD (.mk 0 0 0 [] [] [])
/-- The value of a text. -/
def treeP (l : List UInt8) (d : Int) : Tree := treeE (parseP l d).1

mutual
/-- Are two values the same, wherever they stand? -/
def sameT : Tree → Tree → Bool
  | .mk k1 _ _ t1 i1 n1, .mk k2 _ _ t2 i2 n2 => decide (k1 = k2) && decide (t1 = t2) && decide (n1 = n2) && sameL i1 i2
def sameL : List Tree → List Tree → Bool
  | [], [] => true
  | a :: r, b :: s => sameT a b && sameL r s
  | _, _ => false
end

end Go.Proofs.YthpkcapooeedeaaDoor

namespace Go.Proofs.YthpkcapooeedeaaDoor
set_option linter.unusedVariables false

def zeroS0 : Stp := ⟨false, [], 0⟩
/-- What is open, the steps aside. -/
def erO (o : Opn) : Opn := { o with step := zeroS0 }
def erN (n : Nst) : Nst := { n with op := n.op.map erO }
/-- An event as what makes values looks at it. -/
def erE (e : Evt) : Evt := if e.kind = 1 then e else { e with step := zeroS0 }
theorem stepO_er (op : List Opn) : stepO (op.map erO) = stepO op := by cases op <;> rfl
theorem more_er (op : List Opn) : moreO (op.map erO) = (moreO op).map erO := by cases op <;> rfl
theorem name_er (s : List UInt8) (op : List Opn) : nameO s (op.map erO) = (nameO s op).map erO := by cases op <;> rfl
theorem er_er (op : List Opn) : (op.map erO).map erO = op.map erO := by simp [erO, Function.comp_def]

/-- Behind the end of a value that stood alone, or in what is open around. -/
def liftM (S : List Opn) (m : May) : May := match m with
  | .nothing => if S.isEmpty then .nothing else .next
  | m => m
def liftO (S : List Opn) (m : May) (op : List Opn) : List Opn := match m with
  | .nothing => op ++ moreO S
  | _ => op ++ S
/-- The same, with S open around it. -/
def liftN (M : Nat) (S : List Opn) (n : Nst) : Nst := { n with most := M, op := liftO S n.may n.op, may := liftM S n.may }

theorem erE_open (e : Evt) (h : e.kind = 1) : erE e = e := by unfold erE; rw [if_pos h]
theorem erE_close (a b : Evt) (ha : a.kind = 2) (hb : b.kind = 2) (h : a.value = b.value) (h1 : a.fr = b.fr) (h2 : a.to = b.to) (h3 : a.text = b.text) : erE a = erE b := by
  obtain ⟨k, v, f, t, s, x⟩ := a
  obtain ⟨k', v', f', t', s', x'⟩ := b
  simp only at ha hb h h1 h2 h3
  subst ha hb h h1 h2 h3
  rfl

/-- What a token does. -/
def Alike (M : Nat) (S : List Opn) (a b : Nst × List Evt × Int) : Prop := erN a.1 = liftN M S (erN b.1) ∧ a.2.1.map erE = b.2.1.map erE ∧ b.2.2 = 0

theorem frame_tok (M : Nat) (S : List Opn) (hS : S.map erO = S) (n : Nst) (t : Tok) (hm : n.may.isNothing = false) (hM : M ≤ n.most + S.length) (h0 : n.op = [] → n.begun ≠ 0 ∧ n.may.val = true) (hf : (takeN (liftN M S n) t).2.2 = 0) :
    Alike M S (takeN (liftN M S n) t) (takeN n t) := by
  obtain ⟨most, op, may, begun, came⟩ := n
  have hl : liftN M S ⟨most, op, may, begun, came⟩ = ⟨M, op ++ S, may, begun, came⟩ := by
    cases may <;> first | (cases hm; done) | rfl
  rw [hl] at hf ⊢
  have hmS : (moreO S).map erO = moreO S := by rw [← more_er, hS]
  -- what ends
  have ended : ∀ (o r : List Opn) (kd : Int) (b' : Int) (ca : Bool), erN { endedN (⟨M, r ++ S, may, begun, ca⟩ : Nst) with begun := b' } = liftN M S (erN { endedN (⟨most, r, may, begun, ca⟩ : Nst) with begun := b' }) := by
    intro o r kd b' ca
    cases r with
    | nil =>
      unfold erN endedN liftN
      simp [liftO, liftM, show moreO ([] : List Opn) = [] from rfl]
      exact hmS
    | cons q r =>
      unfold erN endedN liftN
      simp [moreO, liftO, liftM, hS]
  by_cases hb : begun = 0
  · subst hb
    cases op with
    | nil => exact absurd rfl (h0 rfl).1
    | cons o r =>
      obtain ⟨kd, bg, fr, to, tx⟩ := t
      have hMl : M ≤ most + S.length := hM
      have e : ∀ (M' : Nat) (op' : List Opn), takeN ⟨M', op', may, 0, came⟩ ⟨kd, bg, fr, to, tx⟩ = takeO ⟨M', op', may, 0, came⟩ ⟨kd, bg, fr, to, tx⟩ := by
        intro M' op'
        unfold takeN
        rw [if_pos rfl]
      rw [e] at hf
      rw [e, e]
      have hE : ∀ b' ca m, erN { endedN (⟨M, r ++ S, m, b', ca⟩ : Nst) with came := true } = liftN M S (erN { endedN (⟨most, r, m, b', ca⟩ : Nst) with came := true }) := by
        intro b' ca m
        cases r with
        | nil =>
          unfold erN endedN liftN
          simp [liftO, liftM, show moreO ([] : List Opn) = [] from rfl]
          exact hmS
        | cons q r =>
          unfold erN endedN liftN
          simp [moreO, liftO, liftM, hS]
      rw [List.cons_append] at hf ⊢
      cases may <;> first
        | (cases hm; done)
        | (exact absurd hf (by unfold takeO; decide))
        | skip
      all_goals
        unfold takeO at hf ⊢
        simp only [] at hf ⊢
        revert hf
        (repeat' split) <;> intro hf <;> first
          | exact absurd hf (by show (8 : Int) ≠ 0; decide)
          | exact absurd hf (by show (12 : Int) ≠ 0; decide)
          | exact ⟨hE _ _ _, rfl, rfl⟩
          | (refine ⟨?_, rfl, rfl⟩; unfold erN liftN; simp [liftO, liftM, hS, erO])
          | (exfalso; simp only [List.length_cons, List.length_append] at *; omega)
  · have e1 : ∀ (M' : Nat) (op' : List Opn), takeN ⟨M', op', may, begun, came⟩ t = if may.nam = true then (⟨M', nameO t.text op', .colon, 0, came⟩, [], 0) else ({ endedN (⟨M', op', may, begun, came⟩ : Nst) with begun := 0 }, [⟨2, scalarK t, t.fr, t.to, stepO op', t.text⟩], 0) := by
      intro M' op'
      unfold takeN
      rw [if_neg hb]
    rw [e1, e1]
    by_cases hn : may.nam = true
    · rw [if_pos hn, if_pos hn]
      cases op with
      | nil => have := (h0 rfl).2; cases may <;> first | (cases hn; done) | (cases this; done)
      | cons o r =>
        refine ⟨?_, rfl, rfl⟩
        unfold erN liftN
        simp [nameO, liftO, liftM, hS]
    · rw [if_neg hn, if_neg hn]
      refine ⟨ended [] op 0 0 came, ?_, rfl⟩
      simp [erE]

end Go.Proofs.YthpkcapooeedeaaDoor

namespace Go.Proofs.YthpkcapooeedeaaDoor
set_option linter.unusedVariables false

theorem bldE_er (b : Bld) (e : Evt) : bldE b (erE e) = bldE b e := by
  unfold erE
  split
  · rfl
  · rename_i h
    obtain ⟨k, v, f, t, s, x⟩ := e
    have h : ¬ k = 1 := h
    unfold bldE
    simp only []
    rw [if_neg h, if_neg h]
theorem bldA_er (es : List Evt) : ∀ b : Bld, bldA b (es.map erE) = bldA b es := by
  induction es with
  | nil => intro b; rfl
  | cons e es ih =>
    intro b
    show bldA (bldE b (erE e)) (es.map erE) = bldA (bldE b e) es
    rw [bldE_er, ih]

/-- Two places in texts that differ in the steps of what is open alone do alike. -/
theorem er_tok (n m : Nst) (t : Tok) (h : erN n = erN m) : erN (takeN n t).1 = erN (takeN m t).1 ∧ (takeN n t).2.1.map erE = (takeN m t).2.1.map erE ∧ (takeN n t).2.2 = (takeN m t).2.2 := by
  obtain ⟨most, op, may, begun, came⟩ := n
  obtain ⟨most', op', may', begun', came'⟩ := m
  have hop : op.map erO = op'.map erO := congrArg Nst.op h
  have h1 : most = most' := congrArg Nst.most h
  have h2 : may = may' := congrArg Nst.may h
  have h3 : begun = begun' := congrArg Nst.begun h
  have h4 : came = came' := congrArg Nst.came h
  subst h1 h2 h3 h4
  have hst : stepO op = stepO op' := by rw [← stepO_er, hop, stepO_er]
  have hlen : op.length = op'.length := by have := congrArg List.length hop; simpa using this
  have hemp : op.isEmpty = op'.isEmpty := by cases op <;> cases op' <;> first | rfl | simp at hlen
  have hmore : (moreO op).map erO = (moreO op').map erO := by rw [← more_er, hop, more_er]
  unfold takeN
  split
  · have close : ∀ (o o' : Opn) (r r' : List Opn) (k : Nat) (c : Bool) (m : May), erO o = erO o' → r.map erO = r'.map erO →
        erN { endedN (⟨most, r, m, begun, c⟩ : Nst) with came := true } = erN { endedN (⟨most, r', m, begun, c⟩ : Nst) with came := true } ∧ [(⟨2, o.kd, o.fr, t.to, o.step, []⟩ : Evt)].map erE = [(⟨2, o'.kd, o'.fr, t.to, o'.step, []⟩ : Evt)].map erE := by
      intro o o' r r' k c m h hr
      have hf : o.fr = o'.fr := by have : (erO o).fr = (erO o').fr := by rw [h]
                                   exact this
      have ho : o.obj = o'.obj := by have : (erO o).obj = (erO o').obj := by rw [h]
                                     exact this
      have he : r.isEmpty = r'.isEmpty := by
        have := congrArg List.length hr
        cases r <;> cases r' <;> first | rfl | simp at this
      have hm : (moreO r).map erO = (moreO r').map erO := by rw [← more_er, hr, more_er]
      refine ⟨?_, ?_⟩
      · unfold erN endedN
        simp only []
        rw [hm, he]
      · simp [erE, Opn.kd, hf, ho]
    cases op with
    | nil =>
      obtain rfl : op' = [] := by cases op' <;> first | rfl | simp at hlen
      exact ⟨rfl, rfl, rfl⟩
    | cons o r =>
      cases op' with
      | nil => simp at hlen
      | cons o' r' =>
        have e1 : erO o = erO o' := by have := hop; simp at this; exact this.1
        have e2 : r.map erO = r'.map erO := by have := hop; simp at this; simpa using this.2
        have ho : o.obj = o'.obj := by have : (erO o).obj = (erO o').obj := by rw [e1]
                                       exact this
        have hc := fun c m => close o o' r r' 0 c m e1 e2
        unfold takeO
        cases may
        case broken => exact ⟨h, rfl, rfl⟩
        all_goals simp only [] <;> (repeat' split) <;> first
          | contradiction
          | exact ⟨h, rfl, rfl⟩
          | exact ⟨(hc _ _).1, (hc came .value).2, rfl⟩
          | (refine ⟨?_, ?_, rfl⟩
             · unfold erN
               simp only [badN, List.map_cons, hop, hst]
               try rfl
             · first
                | rfl
                | (rw [hst]))
          | (exfalso; simp only [List.length_cons, ho] at *; omega)
          | (exfalso; simp only [List.length_cons, ho] at *; contradiction)
          | (exfalso; simp_all; done)
  · split
    · refine ⟨?_, rfl, rfl⟩
      unfold erN
      simp only []
      rw [← name_er, hop, name_er]
    · refine ⟨?_, ?_, rfl⟩
      · unfold erN endedN
        simp only []
        rw [hmore, hemp]
      · simp [erE]

end Go.Proofs.YthpkcapooeedeaaDoor

namespace Go.Proofs.YthpkcapooeedeaaDoor
set_option linter.unusedVariables false

def shT (a : Nat) (t : Tok) : Tok := { t with fr := t.fr + a, to := t.to + a }
def shO (a : Nat) (o : Opn) : Opn := { o with fr := o.fr + a }
def shN (a : Nat) (n : Nst) : Nst := { n with op := n.op.map (shO a) }
def shE (a : Nat) (e : Evt) : Evt := { e with fr := e.fr + a, to := if e.kind = 1 then e.to else e.to + a }
def shL (a : Nat) : LSt → LSt
  | .out => .out
  | .num x f p => .num x (f + a) p
  | .word f p => .word (f + a) p
  | .str q f acc => .str q (f + a) acc
  | .dead => .dead

theorem sh_out (a k : Nat) (c : UInt8) : outL (k + a) c = ((outL k c).1.map (shT a), (outL k c).2.1, shL a (outL k c).2.2) := by
  have e : k + a + 1 = k + 1 + a := by omega
  unfold outL
  rw [e]
  (repeat' split) <;> first | rfl | (exfalso; contradiction)
theorem sh_step (a : Nat) (st : LSt) (k : Nat) (c : UInt8) : stepL (shL a st) (k + a) c = ((stepL st k c).1.map (shT a), (stepL st k c).2.1, shL a (stepL st k c).2.2) := by
  have e : k + a + 1 = k + 1 + a := by omega
  cases st with
  | out => exact sh_out a k c
  | dead => rfl
  | num x f p =>
    show (if nxI x c.toNat ≠ 0 then (([], 0, LSt.num (nxI x c.toNat) (f + a) (p ++ [c])) : List Tok × Int × LSt) else
      if whI x && !stickI c.toNat then (⟨9, false, f + a, k + a, p⟩ :: (outL (k + a) c).1, (outL (k + a) c).2.1, (outL (k + a) c).2.2) else ([], 5, .dead)) =
      ((if nxI x c.toNat ≠ 0 then (([], 0, LSt.num (nxI x c.toNat) f (p ++ [c])) : List Tok × Int × LSt) else if whI x && !stickI c.toNat then (⟨9, false, f, k, p⟩ :: (outL k c).1, (outL k c).2.1, (outL k c).2.2) else ([], 5, .dead)).1.map (shT a),
       (if nxI x c.toNat ≠ 0 then (([], 0, LSt.num (nxI x c.toNat) f (p ++ [c])) : List Tok × Int × LSt) else if whI x && !stickI c.toNat then (⟨9, false, f, k, p⟩ :: (outL k c).1, (outL k c).2.1, (outL k c).2.2) else ([], 5, .dead)).2.1,
       shL a (if nxI x c.toNat ≠ 0 then (([], 0, LSt.num (nxI x c.toNat) f (p ++ [c])) : List Tok × Int × LSt) else if whI x && !stickI c.toNat then (⟨9, false, f, k, p⟩ :: (outL k c).1, (outL k c).2.1, (outL k c).2.2) else ([], 5, .dead)).2.2)
    rw [sh_out]
    by_cases h1 : nxI x c.toNat ≠ 0
    · simp only [if_pos h1]; rfl
    · simp only [if_neg h1]
      split <;> rfl
  | word f p =>
    show (if refL (p ++ [c]) = 2 then (([], 6, LSt.dead) : List Tok × Int × LSt) else if refL (p ++ [c]) = 1 then ([⟨10, false, f + a, k + a + 1, p ++ [c]⟩], 0, .out) else ([], 0, .word (f + a) (p ++ [c]))) =
      ((if refL (p ++ [c]) = 2 then (([], 6, LSt.dead) : List Tok × Int × LSt) else if refL (p ++ [c]) = 1 then ([⟨10, false, f, k + 1, p ++ [c]⟩], 0, .out) else ([], 0, .word f (p ++ [c]))).1.map (shT a),
       (if refL (p ++ [c]) = 2 then (([], 6, LSt.dead) : List Tok × Int × LSt) else if refL (p ++ [c]) = 1 then ([⟨10, false, f, k + 1, p ++ [c]⟩], 0, .out) else ([], 0, .word f (p ++ [c]))).2.1,
       shL a (if refL (p ++ [c]) = 2 then (([], 6, LSt.dead) : List Tok × Int × LSt) else if refL (p ++ [c]) = 1 then ([⟨10, false, f, k + 1, p ++ [c]⟩], 0, .out) else ([], 0, .word f (p ++ [c]))).2.2)
    rw [e]
    by_cases h1 : refL (p ++ [c]) = 2
    · simp only [if_pos h1]; rfl
    · simp only [if_neg h1]
      split <;> rfl
  | str q f acc =>
    show strL q (f + a) acc (k + a) c (stepQ q c) = ((strL q f acc k c (stepQ q c)).1.map (shT a), (strL q f acc k c (stepQ q c)).2.1, shL a (strL q f acc k c (stepQ q c)).2.2)
    cases stepQ q c with
    | none => rfl
    | some x =>
      obtain ⟨q', y⟩ := x
      cases q' <;> first
        | rfl
        | (show (([⟨8, false, f + a, k + a + 1, acc ++ y⟩], 0, LSt.out) : List Tok × Int × LSt) = _; rw [e]; rfl)
theorem sh_close (a : Nat) (st : LSt) (k : Nat) : closeL (shL a st) (k + a) = ((closeL st k).1.map (shT a), (closeL st k).2) := by
  cases st with
  | num x f p =>
    show (if whI x then (([⟨9, false, f + a, k + a, p⟩], 1) : List Tok × Int) else ([], 10)) = ((if whI x then (([⟨9, false, f, k, p⟩], 1) : List Tok × Int) else ([], 10)).1.map (shT a), (if whI x then (([⟨9, false, f, k, p⟩], 1) : List Tok × Int) else ([], 10)).2)
    split <;> rfl
  | _ => rfl

theorem sh_stepO (a : Nat) (op : List Opn) : stepO (op.map (shO a)) = stepO op := by cases op <;> rfl
theorem sh_more (a : Nat) (op : List Opn) : moreO (op.map (shO a)) = (moreO op).map (shO a) := by cases op <;> rfl
theorem sh_name (a : Nat) (s : List UInt8) (op : List Opn) : nameO s (op.map (shO a)) = (nameO s op).map (shO a) := by cases op <;> rfl
theorem sh_ended (a : Nat) (n : Nst) : endedN (shN a n) = shN a (endedN n) := by
  unfold endedN shN
  simp only []
  rw [sh_more]
  have : (n.op.map (shO a)).isEmpty = n.op.isEmpty := by cases n.op <;> rfl
  rw [this]

theorem sh_tok (a : Nat) (n : Nst) (t : Tok) : takeN (shN a n) (shT a t) = (shN a (takeN n t).1, (takeN n t).2.1.map (shE a), (takeN n t).2.2) := by
  obtain ⟨most, op, may, begun, came⟩ := n
  obtain ⟨kd, bg, fr, to, tx⟩ := t
  have hlen : (op.map (shO a)).length = op.length := by simp
  unfold takeN
  show (if begun = 0 then _ else _) = _
  by_cases hb : begun = 0
  · simp only [if_pos hb]
    have hE : ∀ (r : List Opn) (m : May), ({ endedN (⟨most, r.map (shO a), m, begun, came⟩ : Nst) with came := true } : Nst) = shN a { endedN (⟨most, r, m, begun, came⟩ : Nst) with came := true } := by
      intro r m
      have := sh_ended a ⟨most, r, m, begun, came⟩
      have e : endedN (⟨most, r.map (shO a), m, begun, came⟩ : Nst) = shN a (endedN ⟨most, r, m, begun, came⟩) := this
      rw [e]
      rfl
    unfold takeO shN shT
    cases op with
    | nil => cases may <;> simp only [List.map_nil] <;> (repeat' split) <;> first | rfl | contradiction
    | cons o r =>
      have hst : stepO ((o :: r).map (shO a)) = stepO (o :: r) := sh_stepO a _
      cases may <;> simp only [List.map_cons] <;> (repeat' split) <;> first
        | contradiction
        | rfl
        | (refine Prod.ext ?_ rfl; exact hE r _)
        | (exfalso; simp only [List.length_cons, List.length_map] at *; omega)
        | (exfalso; simp_all [shO]; done)
  · simp only [if_neg hb]
    by_cases hn : may.nam = true
    · have : (shN a ⟨most, op, may, begun, came⟩).may.nam = true := hn
      simp only [if_pos hn, if_pos this]
      unfold shN
      simp only []
      rw [sh_name]
      rfl
    · have : ¬ (shN a ⟨most, op, may, begun, came⟩).may.nam = true := hn
      simp only [if_neg hn, if_neg this]
      rw [sh_ended]
      have e2 : stepO (shN a ⟨most, op, may, begun, came⟩).op = stepO op := sh_stepO a op
      rw [e2]
      rfl

end Go.Proofs.YthpkcapooeedeaaDoor

namespace Go.Proofs.YthpkcapooeedeaaDoor
set_option linter.unusedVariables false

theorem sh_all (a : Nat) (ts : List Tok) : ∀ n : Nst, takeAll (shN a n) (ts.map (shT a)) = (shN a (takeAll n ts).1, (takeAll n ts).2.1.map (shE a), (takeAll n ts).2.2) := by
  induction ts with
  | nil => intro n; rfl
  | cons t ts ih =>
    intro n
    show (if (takeN (shN a n) (shT a t)).2.2 ≠ 0 then takeN (shN a n) (shT a t) else ((takeAll (takeN (shN a n) (shT a t)).1 (ts.map (shT a))).1, (takeN (shN a n) (shT a t)).2.1 ++ (takeAll (takeN (shN a n) (shT a t)).1 (ts.map (shT a))).2.1, (takeAll (takeN (shN a n) (shT a t)).1 (ts.map (shT a))).2.2)) =
      (shN a (if (takeN n t).2.2 ≠ 0 then takeN n t else ((takeAll (takeN n t).1 ts).1, (takeN n t).2.1 ++ (takeAll (takeN n t).1 ts).2.1, (takeAll (takeN n t).1 ts).2.2)).1, (if (takeN n t).2.2 ≠ 0 then takeN n t else ((takeAll (takeN n t).1 ts).1, (takeN n t).2.1 ++ (takeAll (takeN n t).1 ts).2.1, (takeAll (takeN n t).1 ts).2.2)).2.1.map (shE a), (if (takeN n t).2.2 ≠ 0 then takeN n t else ((takeAll (takeN n t).1 ts).1, (takeN n t).2.1 ++ (takeAll (takeN n t).1 ts).2.1, (takeAll (takeN n t).1 ts).2.2)).2.2)
    rw [sh_tok]
    by_cases h : (takeN n t).2.2 ≠ 0
    · simp only [if_pos h]
    · simp only [if_neg h, ih, List.map_append]
theorem sh_byte (a : Nat) (st : LSt) (n : Nst) (k : Nat) (c : UInt8) : byteP (shL a st) (shN a n) (k + a) c = ((byteP st n k c).1.map (shE a), (byteP st n k c).2.1, shL a (byteP st n k c).2.2.1, shN a (byteP st n k c).2.2.2) := by
  unfold byteP
  rw [sh_step]
  simp only [sh_all]
  rfl
theorem sh_end (a : Nat) (st : LSt) (n : Nst) (k : Nat) : endP (shL a st) (shN a n) (k + a) = ((endP st n k).1.map (shE a), (endP st n k).2) := by
  unfold endP
  rw [sh_close]
  simp only [sh_all]
  rfl
theorem sh_go (a : Nat) (l : List UInt8) : ∀ (st : LSt) (n : Nst) (k : Nat), goP (shL a st) (shN a n) l (k + a) = ((goP st n l k).1.map (shE a), (goP st n l k).2.1, (goP st n l k).2.2 + a) := by
  induction l with
  | nil =>
    intro st n k
    show ((endP (shL a st) (shN a n) (k + a)).1, (endP (shL a st) (shN a n) (k + a)).2, k + a) = ((endP st n k).1.map (shE a), (endP st n k).2, k + a)
    rw [sh_end]
  | cons c t ih =>
    intro st n k
    have e : k + a + 1 = k + 1 + a := by omega
    show (if (byteP (shL a st) (shN a n) (k + a) c).2.1 ≠ 0 then ((byteP (shL a st) (shN a n) (k + a) c).1, (byteP (shL a st) (shN a n) (k + a) c).2.1, k + a) else
      ((byteP (shL a st) (shN a n) (k + a) c).1 ++ (goP (byteP (shL a st) (shN a n) (k + a) c).2.2.1 (byteP (shL a st) (shN a n) (k + a) c).2.2.2 t (k + a + 1)).1, (goP (byteP (shL a st) (shN a n) (k + a) c).2.2.1 (byteP (shL a st) (shN a n) (k + a) c).2.2.2 t (k + a + 1)).2)) = _
    rw [sh_byte, e]
    simp only [ih]
    by_cases h : (byteP st n k c).2.1 ≠ 0
    · have eg : goP st n (c :: t) k = ((byteP st n k c).1, (byteP st n k c).2.1, k) := by show (if _ then _ else _) = _; rw [if_pos h]
      rw [eg]
      simp only [if_pos h]
    · have eg : goP st n (c :: t) k = ((byteP st n k c).1 ++ (goP (byteP st n k c).2.2.1 (byteP st n k c).2.2.2 t (k + 1)).1, (goP (byteP st n k c).2.2.1 (byteP st n k c).2.2.2 t (k + 1)).2) := by show (if _ then _ else _) = _; rw [if_neg h]
      rw [eg]
      simp only [if_neg h, List.map_append]

mutual
/-- A value that stands elsewhere. -/
def shTr (a : Nat) : Tree → Tree
  | .mk kd fr to tx items names => .mk kd (fr + a) (to + a) tx (shTrs a items) names
def shTrs (a : Nat) : List Tree → List Tree
  | [] => []
  | t :: ts => shTr a t :: shTrs a ts
end
/-- One that is open. -/
def shTo (a : Nat) : Tree → Tree
  | .mk kd fr to tx items names => .mk kd (fr + a) to tx (shTrs a items) names
def shB (a : Nat) (b : Bld) : Bld := ⟨b.op.map fun p => (shTo a p.1, p.2), b.root.map (shTr a)⟩
theorem shTrs_app (a : Nat) (x y : List Tree) : shTrs a (x ++ y) = shTrs a x ++ shTrs a y := by
  induction x with
  | nil => simp [shTrs]
  | cons t x ih => rw [List.cons_append, shTrs, shTrs, ih, List.cons_append]
theorem sh_bldE (a : Nat) (b : Bld) (e : Evt) : bldE (shB a b) (shE a e) = shB a (bldE b e) := by
  obtain ⟨op, root⟩ := b
  obtain ⟨k, v, f, t, s, x⟩ := e
  by_cases h : k = 1
  · subst h
    unfold bldE shE shB
    simp [shTo, shTrs]
  · unfold bldE shE shB
    simp only [if_neg h]
    cases op with
    | nil => rfl
    | cons p r =>
      obtain ⟨⟨kd, fr, to, tx, items, names⟩, ps⟩ := p
      cases r with
      | nil => simp [shTo, shTr]
      | cons q r =>
        obtain ⟨⟨kd', fr', to', tx', items', names'⟩, qs⟩ := q
        simp [shTo, shTr, addT, shTrs_app, shTrs]
theorem sh_bldA (a : Nat) (es : List Evt) : ∀ b : Bld, bldA (shB a b) (es.map (shE a)) = shB a (bldA b es) := by
  induction es with
  | nil => intro b; rfl
  | cons e es ih =>
    intro b
    show bldA (bldE (shB a b) (shE a e)) (es.map (shE a)) = shB a (bldA (bldE b e) es)
    rw [sh_bldE, ih]
mutual
theorem sameT_sh (a : Nat) : ∀ t : Tree, sameT (shTr a t) t = true
  | .mk kd fr to tx items names => by
    unfold shTr sameT
    rw [sameL_sh a items]
    simp
theorem sameL_sh (a : Nat) : ∀ ts : List Tree, sameL (shTrs a ts) ts = true
  | [] => by unfold shTrs sameL; rfl
  | t :: ts => by
    unfold shTrs sameL
    rw [sameT_sh a t, sameL_sh a ts]
    rfl
end

/-- Bytes without a fault. -/
def runC : LSt → Nst → List UInt8 → Nat → Option (LSt × Nst × List Evt)
  | st, n, [], k => some (st, n, [])
  | st, n, c :: t, k => if (byteP st n k c).2.1 ≠ 0 then none else (runC (byteP st n k c).2.2.1 (byteP st n k c).2.2.2 t (k + 1)).map fun r => (r.1, r.2.1, (byteP st n k c).1 ++ r.2.2)
theorem runC_go (l : List UInt8) : ∀ (st : LSt) (n : Nst) (k : Nat) (st' : LSt) (n' : Nst) (es : List Evt), runC st n l k = some (st', n', es) → goP st n l k = (es ++ (endP st' n' (k + l.length)).1, (endP st' n' (k + l.length)).2, k + l.length) := by
  induction l with
  | nil => intro st n k st' n' es h; cases h; rfl
  | cons c t ih =>
    intro st n k st' n' es h
    by_cases hf : (byteP st n k c).2.1 ≠ 0
    · have : runC st n (c :: t) k = none := by show (if _ then _ else _) = _; rw [if_pos hf]
      rw [this] at h; cases h
    · have e1 : runC st n (c :: t) k = (runC (byteP st n k c).2.2.1 (byteP st n k c).2.2.2 t (k + 1)).map fun r => (r.1, r.2.1, (byteP st n k c).1 ++ r.2.2) := by show (if _ then _ else _) = _; rw [if_neg hf]
      have e2 : goP st n (c :: t) k = ((byteP st n k c).1 ++ (goP (byteP st n k c).2.2.1 (byteP st n k c).2.2.2 t (k + 1)).1, (goP (byteP st n k c).2.2.1 (byteP st n k c).2.2.2 t (k + 1)).2) := by show (if _ then _ else _) = _; rw [if_neg hf]
      rw [e1] at h
      cases hr : runC (byteP st n k c).2.2.1 (byteP st n k c).2.2.2 t (k + 1) with
      | none => rw [hr] at h; cases h
      | some r =>
        obtain ⟨a, b, d⟩ := r
        rw [hr] at h
        cases h
        have := ih _ _ (k + 1) _ _ _ hr
        rw [e2, this]
        have hl : k + 1 + t.length = k + (c :: t).length := by simp; omega
        rw [hl]
        simp
/-- A text without a fault of its bytes runs through. -/
theorem go_runC (l : List UInt8) : ∀ (st : LSt) (n : Nst) (k : Nat), Fit st n → EK (goP st n l k).2.1 → ∃ r, runC st n l k = some r ∧ Fit r.1 r.2.1 := by
  induction l with
  | nil => intro st n k hF _; exact ⟨_, rfl, hF⟩
  | cons c t ih =>
    intro st n k hF h
    obtain ⟨h1, h2⟩ := byteP_fit st n k c hF
    by_cases hf : (byteP st n k c).2.1 ≠ 0
    · have e : goP st n (c :: t) k = ((byteP st n k c).1, (byteP st n k c).2.1, k) := by show (if _ then _ else _) = _; rw [if_pos hf]
      rw [e] at h
      obtain ⟨_, g1, g2, g3⟩ := h1 hf
      rcases h with h | h | h
      · exact absurd h g1
      · exact absurd h g2
      · exact absurd h g3
    · have e2 : goP st n (c :: t) k = ((byteP st n k c).1 ++ (goP (byteP st n k c).2.2.1 (byteP st n k c).2.2.2 t (k + 1)).1, (goP (byteP st n k c).2.2.1 (byteP st n k c).2.2.2 t (k + 1)).2) := by show (if _ then _ else _) = _; rw [if_neg hf]
      rw [e2] at h
      obtain ⟨r, g1, g2⟩ := ih _ _ (k + 1) (h2 (Decidable.not_not.1 hf)) h
      refine ⟨(r.1, r.2.1, (byteP st n k c).1 ++ r.2.2), ?_, g2⟩
      show (if _ then _ else _) = _
      rw [if_neg hf, g1]
      rfl
theorem runC_app (x : List UInt8) : ∀ (y : List UInt8) (st : LSt) (n : Nst) (k : Nat) (st' : LSt) (n' : Nst) (es : List Evt), runC st n x k = some (st', n', es) → runC st n (x ++ y) k = (runC st' n' y (k + x.length)).map fun r => (r.1, r.2.1, es ++ r.2.2) := by
  induction x with
  | nil => intro y st n k st' n' es h; cases h; show runC st n y k = (runC st n y k).map (fun r => (r.1, r.2.1, [] ++ r.2.2)); cases runC st n y k <;> rfl
  | cons c t ih =>
    intro y st n k st' n' es h
    by_cases hf : (byteP st n k c).2.1 ≠ 0
    · have : runC st n (c :: t) k = none := by show (if _ then _ else _) = _; rw [if_pos hf]
      rw [this] at h; cases h
    · have e1 : ∀ t, runC st n (c :: t) k = (runC (byteP st n k c).2.2.1 (byteP st n k c).2.2.2 t (k + 1)).map fun r => (r.1, r.2.1, (byteP st n k c).1 ++ r.2.2) := fun t => by show (if _ then _ else _) = _; rw [if_neg hf]
      rw [e1] at h
      cases hr : runC (byteP st n k c).2.2.1 (byteP st n k c).2.2.2 t (k + 1) with
      | none => rw [hr] at h; cases h
      | some r =>
        obtain ⟨a, b, d⟩ := r
        rw [hr] at h
        cases h
        rw [List.cons_append, e1, ih y _ _ (k + 1) _ _ _ hr]
        have hl : k + 1 + t.length = k + (c :: t).length := by simp; omega
        rw [hl]
        generalize runC a b y (k + (c :: t).length) = z
        cases z <;> simp [List.append_assoc]

end Go.Proofs.YthpkcapooeedeaaDoor
