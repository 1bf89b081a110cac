/- Tokens as plain mathematics: what each byte does, and that tokens lie one behind the other. -/
import Derived.Test.YtoahnbjpmbhpfaaDoorLitB
namespace Go.Proofs.YtoahnbjpmbhpfaaDoor
open Go.RowKit

structure Tok where
  kind : Int
  begun : Bool
  fr : Nat
  to : Nat
  text : List UInt8

/-- Where one is in a text: outside of tokens, or within a number, a word, a string that began at f; dead: at the end. -/
inductive LSt where
  | out
  | num (a : Int) (f : Nat) (p : List UInt8)
  | word (f : Nat) (p : List UInt8)
  | str (q : QSt) (f : Nat) (acc : List UInt8)
  | dead

/-- A byte outside of tokens: the tokens, the fault's kind (0: none), where one is then. -/
def outL (k : Nat) (c : UInt8) : List Tok × Int × LSt :=
  if kindI c.toNat = 1 then ([], 0, .out) else if kindI c.toNat = 0 then ([], 8, .dead) else if kindI c.toNat < 8 then ([⟨kindI c.toNat, false, k, k + 1, []⟩], 0, .out) else
  if kindI c.toNat = 8 then ([⟨8, true, k, k, []⟩], 0, .str .plain k []) else if kindI c.toNat = 9 then ([⟨9, true, k, k, []⟩], 0, .num (nxI 0 c.toNat) k [c]) else ([⟨10, true, k, k, []⟩], 0, .word k [c])
def strL (q : QSt) (f : Nat) (acc : List UInt8) (k : Nat) (c : UInt8) : Option (QSt × List UInt8) → List Tok × Int × LSt
  | none => ([], faultQ q c, .dead)
  | some (.done, e) => ([⟨8, false, f, k + 1, acc ++ e⟩], 0, .out)
  | some (q', e) => ([], 0, .str q' f (acc ++ e))
def stepL : LSt → Nat → UInt8 → List Tok × Int × LSt
  | .out, k, c => outL k c
  | .num a f p, k, c => if nxI a c.toNat ≠ 0 then ([], 0, .num (nxI a c.toNat) f (p ++ [c])) else
      if whI a && !stickI c.toNat then (⟨9, false, f, k, p⟩ :: (outL k c).1, (outL k c).2.1, (outL k c).2.2) else ([], 5, .dead)
  | .word f p, k, c => if refL (p ++ [c]) = 2 then ([], 6, .dead) else if refL (p ++ [c]) = 1 then ([⟨10, false, f, k + 1, p ++ [c]⟩], 0, .out) else ([], 0, .word f (p ++ [c]))
  | .str q f acc, k, c => strL q f acc k c (stepQ q c)
  | .dead, _, _ => ([], 14, .dead)
def closeL : LSt → Nat → List Tok × Int
  | .out, _ => ([], 1)
  | .num a f p, k => if whI a then ([⟨9, false, f, k, p⟩], 1) else ([], 10)
  | .dead, _ => ([], 14)
  | _, _ => ([], 10)
def lexGo : LSt → List UInt8 → Nat → List Tok → List Tok × Int × Nat
  | st, [], k, acc => (acc ++ (closeL st k).1, (closeL st k).2, k)
  | st, c :: t, k, acc => if (stepL st k c).2.1 ≠ 0 then (acc ++ (stepL st k c).1, (stepL st k c).2.1, k) else lexGo (stepL st k c).2.2 t (k + 1) (acc ++ (stepL st k c).1)
/-- All tokens of a text, the verdict's kind, and where. -/
def lexR (l : List UInt8) : List Tok × Int × Nat := lexGo .out l 0 []

def blankC (c : UInt8) : Prop := c = 32 ∨ c = 9 ∨ c = 10 ∨ c = 13
/-- What lies from i to ahead of j is blank. -/
def AllBlank (b : List UInt8) (i j : Nat) : Prop := ∀ m, i ≤ m → m < j → ∃ c, b[m]? = some c ∧ blankC c

/-- May this token come, behind at, where op has begun? -/
def okTok (b : List UInt8) (s : Nat × Option Nat) (t : Tok) : Prop :=
  if t.begun then s.2 = none ∧ s.1 ≤ t.fr ∧ t.to = t.fr ∧ t.fr < b.length
  else (s.2 = none ∨ s.2 = some t.fr) ∧ s.1 ≤ t.fr ∧ t.fr < t.to ∧ t.to ≤ b.length ∧ AllBlank b s.1 t.fr
def nextTok (s : Nat × Option Nat) (t : Tok) : Nat × Option Nat := if t.begun then (s.1, some t.fr) else (t.to, none)
def Spans (b : List UInt8) : List Tok → Nat × Option Nat → Nat × Option Nat → Prop
  | [], s, s' => s = s'
  | t :: ts, s, s' => okTok b s t ∧ Spans b ts (nextTok s t) s'

theorem spans_append (b : List UInt8) (l m : List Tok) : ∀ s s' s'', Spans b l s s' → Spans b m s' s'' → Spans b (l ++ m) s s'' := by
  induction l with
  | nil => intro s s' s'' h g; cases h; exact g
  | cons t l ih => intro s s' s'' h g; exact ⟨h.1, ih _ _ _ h.2 g⟩

/-- What holds behind k bytes. -/
def InvT (b : List UInt8) (st : LSt) (k : Nat) (s : Nat × Option Nat) : Prop := match st with
  | .out => s.2 = none ∧ s.1 ≤ k ∧ AllBlank b s.1 k
  | .num _ f _ => s.2 = some f ∧ s.1 ≤ f ∧ f < k ∧ AllBlank b s.1 f
  | .word f _ => s.2 = some f ∧ s.1 ≤ f ∧ f < k ∧ AllBlank b s.1 f
  | .str _ f _ => s.2 = some f ∧ s.1 ≤ f ∧ f < k ∧ AllBlank b s.1 f
  | .dead => False

theorem ite_both {p : Prop} [Decidable p] {a b : Int} {P : Int → Prop} (ha : P a) (hb : P b) : P (if p then a else b) := by split <;> assumption
theorem kind_blank {c : UInt8} (h : kindI c.toNat = 1) : blankC c := by
  have e : ∀ n : Nat, n < 256 → (c.toNat : Int) = n → c = UInt8.ofNat n := fun n hn e => by
    have : c.toNat = n := by omega
    rw [← this]; simp
  unfold blankC
  by_cases h1 : (c.toNat : Int) = 32
  · exact .inl (e 32 (by decide) h1)
  by_cases h2 : (c.toNat : Int) = 9
  · exact .inr (.inl (e 9 (by decide) h2))
  by_cases h3 : (c.toNat : Int) = 10
  · exact .inr (.inr (.inl (e 10 (by decide) h3)))
  by_cases h4 : (c.toNat : Int) = 13
  · exact .inr (.inr (.inr (e 13 (by decide) h4)))
  unfold kindI at h
  rw [if_neg h1, if_neg h2, if_neg h3, if_neg h4] at h
  refine absurd h ?_
  iterate 12 (refine ite_both (P := fun x : Int => ¬ x = 1) (by decide) ?_)
  decide

/-- What a byte does, in the sense of spans. -/
def StepOk (b : List UInt8) (k : Nat) (s : Nat × Option Nat) (r : List Tok × Int × LSt) : Prop :=
  ∃ s', Spans b r.1 s s' ∧ r.2.1 ≠ 1 ∧ (r.2.1 = 0 → InvT b r.2.2 (k + 1) s') ∧ (r.2.1 ≠ 0 → s'.1 ≤ k)

theorem blank_more {b : List UInt8} {i k : Nat} (h : AllBlank b i k) {c : UInt8} (hc : b[k]? = some c) (hb : blankC c) : AllBlank b i (k + 1) := fun m h1 h2 => by
  by_cases hm : m = k
  · subst hm; exact ⟨c, hc, hb⟩
  · exact h m h1 (by omega)

theorem out_ok (b : List UInt8) (k : Nat) (c : UInt8) (hc : b[k]? = some c) (s : Nat × Option Nat) (h : InvT b .out k s) : StepOk b k s (outL k c) := by
  obtain ⟨h1, h2, h3⟩ := h
  have hk : k < b.length := (List.getElem?_eq_some_iff.1 hc).1
  unfold outL
  split
  · rename_i hb
    exact ⟨s, rfl, (by show (0 : Int) ≠ 1; decide), fun _ => ⟨h1, by omega, blank_more h3 hc (kind_blank hb)⟩, fun e => absurd rfl e⟩
  split
  · exact ⟨s, rfl, (by show (8 : Int) ≠ 1; decide), (fun e => by cases e), fun _ => h2⟩
  split
  · exact ⟨(k + 1, none), ⟨⟨.inl h1, h2, Nat.lt_succ_self _, hk, h3⟩, rfl⟩, (by show (0 : Int) ≠ 1; decide), fun _ => ⟨rfl, Nat.le_refl _, fun m g1 g2 => absurd g2 (by simp at g1; omega)⟩, fun e => absurd rfl e⟩
  split
  · exact ⟨(s.1, some k), ⟨⟨h1, h2, rfl, hk⟩, rfl⟩, (by show (0 : Int) ≠ 1; decide), fun _ => ⟨rfl, h2, Nat.lt_succ_self _, h3⟩, fun e => absurd rfl e⟩
  split
  · exact ⟨(s.1, some k), ⟨⟨h1, h2, rfl, hk⟩, rfl⟩, (by show (0 : Int) ≠ 1; decide), fun _ => ⟨rfl, h2, Nat.lt_succ_self _, h3⟩, fun e => absurd rfl e⟩
  · exact ⟨(s.1, some k), ⟨⟨h1, h2, rfl, hk⟩, rfl⟩, (by show (0 : Int) ≠ 1; decide), fun _ => ⟨rfl, h2, Nat.lt_succ_self _, h3⟩, fun e => absurd rfl e⟩

theorem blank_none (b : List UInt8) (k : Nat) : AllBlank b k k := fun m h1 h2 => absurd h2 (by omega)

theorem stepL_ok (b : List UInt8) (st : LSt) (k : Nat) (c : UInt8) (hc : b[k]? = some c) (s : Nat × Option Nat) (h : InvT b st k s) : StepOk b k s (stepL st k c) := by
  have hk : k < b.length := (List.getElem?_eq_some_iff.1 hc).1
  cases st with
  | out => exact out_ok b k c hc s h
  | dead => exact h.elim
  | num a f p =>
    obtain ⟨h1, h2, h3, h4⟩ := h
    show StepOk b k s (if nxI a c.toNat ≠ 0 then ([], 0, LSt.num (nxI a c.toNat) f (p ++ [c])) else
      if whI a && !stickI c.toNat then (⟨9, false, f, k, p⟩ :: (outL k c).1, (outL k c).2.1, (outL k c).2.2) else ([], 5, .dead))
    split
    · exact ⟨s, rfl, (by show (0 : Int) ≠ 1; decide), fun _ => ⟨h1, h2, by omega, h4⟩, fun e => absurd rfl e⟩
    split
    · obtain ⟨s', g1, g2, g3, g4⟩ := out_ok b k c hc (k, none) ⟨rfl, Nat.le_refl _, blank_none b k⟩
      exact ⟨s', ⟨⟨.inr h1, h2, h3, by show k ≤ b.length; omega, h4⟩, g1⟩, g2, g3, g4⟩
    · exact ⟨s, rfl, by decide, fun e => (by cases e), fun _ => by omega⟩
  | word f p =>
    obtain ⟨h1, h2, h3, h4⟩ := h
    show StepOk b k s (if refL (p ++ [c]) = 2 then ([], 6, LSt.dead) else if refL (p ++ [c]) = 1 then ([⟨10, false, f, k + 1, p ++ [c]⟩], 0, .out) else ([], 0, .word f (p ++ [c])))
    split
    · exact ⟨s, rfl, by decide, fun e => (by cases e), fun _ => by omega⟩
    split
    · exact ⟨(k + 1, none), ⟨⟨.inr h1, h2, by show f < k + 1; omega, hk, h4⟩, rfl⟩, (by show (0 : Int) ≠ 1; decide), fun _ => ⟨rfl, Nat.le_refl _, blank_none b _⟩, fun e => absurd rfl e⟩
    · exact ⟨s, rfl, (by show (0 : Int) ≠ 1; decide), fun _ => ⟨h1, h2, by omega, h4⟩, fun e => absurd rfl e⟩
  | str q f acc =>
    obtain ⟨h1, h2, h3, h4⟩ := h
    show StepOk b k s (strL q f acc k c (stepQ q c))
    cases hq : stepQ q c with
    | none =>
      have := faultQ_ne q c
      exact ⟨s, rfl, this.1, fun e => absurd e this.2, fun _ => by omega⟩
    | some x =>
      obtain ⟨q', e⟩ := x
      by_cases hd : q' = .done
      · subst hd
        exact ⟨(k + 1, none), ⟨⟨.inr h1, h2, by show f < k + 1; omega, hk, h4⟩, rfl⟩, by show (0 : Int) ≠ 1; decide, fun _ => ⟨rfl, Nat.le_refl _, blank_none b _⟩, fun e => absurd rfl e⟩
      · have hs : strL q f acc k c (some (q', e)) = ([], 0, .str q' f (acc ++ e)) := by
          cases q' <;> first | rfl | exact absurd rfl hd
        rw [hs]
        exact ⟨s, rfl, by show (0 : Int) ≠ 1; decide, fun _ => ⟨h1, h2, by omega, h4⟩, fun e => absurd rfl e⟩

theorem close_ok (b : List UInt8) (st : LSt) (s : Nat × Option Nat) (h : InvT b st b.length s) :
    ∃ s', Spans b (closeL st b.length).1 s s' ∧ s'.1 ≤ b.length ∧ ((closeL st b.length).2 = 1 → s'.2 = none) := by
  cases st with
  | dead => exact h.elim
  | out => exact ⟨s, rfl, h.2.1, fun _ => h.1⟩
  | num a f p =>
    obtain ⟨h1, h2, h3, h4⟩ := h
    show ∃ s', Spans b (if whI a then ([⟨9, false, f, b.length, p⟩], (1 : Int)) else ([], 10)).1 s s' ∧ s'.1 ≤ b.length ∧ ((if whI a then ([(⟨9, false, f, b.length, p⟩ : Tok)], (1 : Int)) else ([], 10)).2 = 1 → s'.2 = none)
    split
    · exact ⟨(b.length, none), ⟨⟨.inr h1, h2, h3, Nat.le_refl _, h4⟩, rfl⟩, Nat.le_refl _, fun _ => rfl⟩
    · exact ⟨s, rfl, by omega, fun e => (by cases e)⟩
  | word f p => exact ⟨s, rfl, by have := h.2.1; have := h.2.2.1; omega, fun e => (by cases e)⟩
  | str q f acc => exact ⟨s, rfl, by have := h.2.1; have := h.2.2.1; omega, fun e => (by cases e)⟩

/-- Tokens lie one behind the other. -/
theorem lexGo_spans (b : List UInt8) (n : Nat) : ∀ (st : LSt) (k : Nat) (acc : List Tok) (s : Nat × Option Nat), b.length - k = n → k ≤ b.length → InvT b st k s → Spans b acc (0, none) s →
    ∃ s', Spans b (lexGo st (b.drop k) k acc).1 (0, none) s' ∧ s'.1 ≤ (lexGo st (b.drop k) k acc).2.2 ∧ (lexGo st (b.drop k) k acc).2.2 ≤ b.length ∧
      ((lexGo st (b.drop k) k acc).2.1 = 1 → s'.2 = none ∧ (lexGo st (b.drop k) k acc).2.2 = b.length) := by
  induction n with
  | zero =>
    intro st k acc s hn hk hi ha
    obtain rfl : k = b.length := by omega
    rw [List.drop_of_length_le (Nat.le_refl _)]
    obtain ⟨s', g1, g2, g3⟩ := close_ok b st s hi
    exact ⟨s', spans_append b _ _ _ _ _ ha g1, g2, Nat.le_refl _, fun e => ⟨g3 e, rfl⟩⟩
  | succ n ih =>
    intro st k acc s hn hk hi ha
    have hlt : k < b.length := by omega
    rw [List.drop_eq_getElem_cons hlt]
    obtain ⟨s', g1, g2, g3, g4⟩ := stepL_ok b st k b[k] (List.getElem?_eq_getElem hlt) s hi
    unfold lexGo
    by_cases hf : (stepL st k b[k]).2.1 ≠ 0
    · rw [if_pos hf]
      exact ⟨s', spans_append b _ _ _ _ _ ha g1, g4 hf, hk, fun e => absurd e g2⟩
    · rw [if_neg hf]
      exact ih _ _ _ _ (by omega) hlt (g3 (Decidable.not_not.1 hf)) (spans_append b _ _ _ _ _ ha g1)
theorem lexR_spans (b : List UInt8) : ∃ s', Spans b (lexR b).1 (0, none) s' ∧ s'.1 ≤ (lexR b).2.2 ∧ (lexR b).2.2 ≤ b.length ∧ ((lexR b).2.1 = 1 → s'.2 = none ∧ (lexR b).2.2 = b.length) :=
  lexGo_spans b b.length .out 0 [] (0, none) rfl (Nat.zero_le _) ⟨rfl, Nat.le_refl _, blank_none b 0⟩ rfl

end Go.Proofs.YtoahnbjpmbhpfaaDoor
