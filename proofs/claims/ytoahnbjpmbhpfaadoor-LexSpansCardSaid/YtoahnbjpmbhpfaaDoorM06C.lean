/- Strings as plain mathematics, continued: the faults; lengths. -/
import Derived.Test.YtoahnbjpmbhpfaaDoorM06B
namespace Go.Proofs.YtoahnbjpmbhpfaaDoor
open Go.RowKit

/-- The kind of a byte's fault, where it doesn't fit. -/
def faultQ : QSt → UInt8 → Int
  | .plain, c => if c.toNat < 32 then 7 else 2
  | .sign _ _ _, _ => 2
  | .esc, _ => 3
  | .hex _ _, c => if (hexB c).isSome then 4 else 3
  | .half _, _ => 4
  | .hesc _, _ => 4
  | .hhex _ k _, _ => if k ≤ 1 then 4 else 3
  | .done, _ => 14

/-- What Read answers: the text, how many bytes (or the fault's place), the kind. -/
def readR : QSt → List UInt8 → List UInt8 → Nat → List UInt8 × Nat × Int
  | _, [], _, n => ([], n, 10)
  | st, c :: t, acc, n => match stepQ st c with
    | none => ([], n, faultQ st c)
    | some (.done, e) => (acc ++ e, n + 1, 1)
    | some (st', e) => readR st' t (acc ++ e) (n + 1)

theorem readR_on {st st' : QSt} {c : UInt8} {e : List UInt8} (h : stepQ st c = some (st', e)) (hd : st' ≠ .done) (t acc : List UInt8) (n : Nat) : readR st (c :: t) acc n = readR st' t (acc ++ e) (n + 1) := by
  conv => lhs; unfold readR
  rw [h]
  cases st'
  case done => exact absurd rfl hd
  all_goals rfl
theorem readR_no {st : QSt} {c : UInt8} (h : stepQ st c = none) (t acc : List UInt8) (n : Nat) : readR st (c :: t) acc n = ([], n, faultQ st c) := by
  conv => lhs; unfold readR
  rw [h]
theorem readR_done {st : QSt} {c : UInt8} {e : List UInt8} (h : stepQ st c = some (.done, e)) (t acc : List UInt8) (n : Nat) : readR st (c :: t) acc n = (acc ++ e, n + 1, 1) := by
  conv => lhs; unfold readR
  rw [h]
theorem readQ_no {st : QSt} {c : UInt8} (h : stepQ st c = none) (t acc : List UInt8) (n : Nat) : readQ st (c :: t) acc n = none := by
  conv => lhs; unfold readQ
  rw [h]
theorem readQ_done {st : QSt} {c : UInt8} {e : List UInt8} (h : stepQ st c = some (.done, e)) (t acc : List UInt8) (n : Nat) : readQ st (c :: t) acc n = some (acc ++ e, n + 1) := by
  conv => lhs; unfold readQ
  rw [h]

theorem faultQ_ne (st : QSt) (c : UInt8) : faultQ st c ≠ 1 ∧ faultQ st c ≠ 0 := by
  unfold faultQ
  (repeat' split) <;> decide

/-- Read's two ways. -/
theorem readR_cases (l : List UInt8) : ∀ (st : QSt) (acc : List UInt8) (n : Nat),
    (∃ u m, readQ st l acc n = some (u, m) ∧ readR st l acc n = (u, m, 1)) ∨ (readQ st l acc n = none ∧ ∃ m j, readR st l acc n = ([], m, j) ∧ j ≠ 1 ∧ m ≤ n + l.length) := by
  induction l with
  | nil => intro st acc n; exact .inr ⟨rfl, n, 10, rfl, by decide, by omega⟩
  | cons c t ih =>
    intro st acc n
    cases hs : stepQ st c with
    | none => exact .inr ⟨readQ_no hs _ _ _, n, _, readR_no hs _ _ _, (faultQ_ne st c).1, by omega⟩
    | some x =>
      obtain ⟨st', e⟩ := x
      by_cases hd : st' = .done
      · subst hd
        exact .inl ⟨_, _, readQ_done hs _ _ _, readR_done hs _ _ _⟩
      · rw [readQ_on hs hd, readR_on hs hd]
        rcases ih st' (acc ++ e) (n + 1) with h | ⟨h1, m, j, h2, h3, h4⟩
        · exact .inl h
        · exact .inr ⟨h1, m, j, h2, h3, by simp; omega⟩

theorem readR_back (l : List UInt8) : readR .plain (putL l ++ [34]) [] 0 = (normL l, (putL l).length + 1, 1) := by
  have h := read_back l
  rcases readR_cases (putL l ++ [34]) .plain [] 0 with ⟨u, m, h1, h2⟩ | ⟨h1, _⟩
  · rw [h] at h1
    obtain ⟨rfl, rfl⟩ := Prod.mk.inj (Option.some.inj h1)
    exact h2
  · rw [h] at h1
    cases h1

def pendQ : QSt → Nat
  | .sign _ _ p => p.length
  | _ => 0
theorem ofB_len (v : Int) : (ofB v).length ≤ 4 := by
  unfold ofB ofI
  (repeat' split) <;> simp

theorem stepQ_len {st st' : QSt} {c : UInt8} {e : List UInt8} (h : stepQ st c = some (st', e)) : e.length + pendQ st' ≤ pendQ st + 4 := by
  cases st with
  | done => cases h
  | plain =>
    rw [step_plain] at h
    (repeat' split at h) <;> cases h <;> simp [pendQ]
  | sign sg lf p =>
    rw [step_sign] at h
    (repeat' split at h) <;> cases h <;> simp [pendQ] <;> omega
  | esc =>
    have h : (if c = 117 then some (QSt.hex 0 0, []) else if letB c = 0 then none else some (QSt.plain, [letB c])) = some (st', e) := h
    (repeat' split at h) <;> cases h <;> simp [pendQ]
  | hex k v =>
    cases hd : hexB c with
    | none => rw [step_hex_none _ _ _ hd] at h; cases h
    | some d =>
      rw [step_hex _ _ _ _ hd] at h
      have := ofB_len (v * 16 + d)
      (repeat' split at h) <;> cases h <;> simp [pendQ] <;> omega
  | half g =>
    have h : (if c = 92 then some (QSt.hesc g, []) else none) = some (st', e) := h
    (repeat' split at h) <;> cases h <;> simp [pendQ]
  | hesc g =>
    have h : (if c = 117 then some (QSt.hhex g 0 0, []) else none) = some (st', e) := h
    (repeat' split at h) <;> cases h <;> simp [pendQ]
  | hhex g k v =>
    cases hd : hexB c with
    | none => rw [step_hhex_none _ _ _ _ hd] at h; cases h
    | some d =>
      rw [step_hhex _ _ _ _ _ hd] at h
      have := ofB_len (65536 + (g - 55296) * 1024 + (v * 16 + d - 56320))
      (repeat' split at h) <;> cases h <;> simp [pendQ] <;> omega

theorem read_len (l : List UInt8) : ∀ (st : QSt) (acc : List UInt8) (n : Nat) (u : List UInt8) (m : Nat), readQ st l acc n = some (u, m) → u.length ≤ acc.length + pendQ st + 4 * l.length := by
  induction l with
  | nil => intro st acc n u m h; cases h
  | cons c t ih =>
    intro st acc n u m h
    cases hs : stepQ st c with
    | none => rw [readQ_no hs] at h; cases h
    | some x =>
      obtain ⟨st', e⟩ := x
      have hl := stepQ_len hs
      by_cases hd : st' = .done
      · subst hd
        rw [readQ_done hs] at h
        cases h
        simp
        omega
      · rw [readQ_on hs hd] at h
        have := ih _ _ _ _ _ h
        simp at this ⊢
        omega

theorem piece_len (c : UInt8) (t : List UInt8) : (pieceP (c :: t) (sgnL (c :: t))).length ≤ 6 * goOn (sgnL (c :: t)) ∧ goOn (sgnL (c :: t)) ≤ (c :: t).length ∧ 1 ≤ goOn (sgnL (c :: t)) := by
  have hs := sgn_split (c :: t) 0 0 0 _ rfl
  generalize hn : sgnL (c :: t) = n
  have hs : n ≠ 0 → 0 < n ∧ n ≤ 0 + (c :: t).length := fun h => by rw [← hn] at h ⊢; exact hs h
  unfold pieceP goOn
  by_cases h0 : n = 0
  · subst h0
    simp [stranger]
  · have := hs h0
    simp only [if_neg h0]
    refine ⟨?_, by omega, by omega⟩
    (repeat' split) <;> simp <;> omega

theorem putGo_len (f : Nat) : ∀ l, (putGo f l).length ≤ 6 * l.length := by
  induction f with
  | zero => intro l; simp [putGo]
  | succ f ih =>
    intro l
    unfold putGo
    split
    · simp
    · cases l with
      | nil => contradiction
      | cons c t =>
        obtain ⟨h1, h2, h3⟩ := piece_len c t
        have := ih ((c :: t).drop (goOn (sgnL (c :: t))))
        rw [List.length_append]
        rw [List.length_drop] at this
        omega
theorem putL_len (l : List UInt8) : (putL l).length ≤ 6 * l.length := putGo_len _ l

end Go.Proofs.YtoahnbjpmbhpfaaDoor
