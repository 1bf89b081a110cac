/- Strings as plain mathematics, continued: what is read is UTF-8; a text of UTF-8 is its own norm. -/
import Derived.Test.YtoahnbjpmbhpfaaDoorM06
namespace Go.Proofs.YtoahnbjpmbhpfaaDoor
open Go.RowKit

theorem sgn_valid (l : List UInt8) : ∀ (sg lf : Int) (p : List UInt8) (k j : Nat), sgnGo sg lf l k = j → j ≠ 0 → Reach p sg lf → badU (p ++ l.take (j - k)) = -1 := by
  induction l with
  | nil => intro sg lf p k j h hj; exact absurd h.symm hj
  | cons c t ih =>
    intro sg lf p k j h hj hr
    have hs := sgn_split _ _ _ _ _ h hj
    have e : j - k = (j - (k + 1)) + 1 := by omega
    rw [e, List.take_succ_cons, show p ++ c :: t.take (j - (k + 1)) = (p ++ [c]) ++ t.take (j - (k + 1)) by simp]
    unfold sgnGo at h
    split at h
    · rename_i hok
      have hr' := reach_step hr hok
      split at h
      · rename_i hz
        subst h
        rw [hz] at hr'
        rw [show k + 1 - (k + 1) = 0 by omega, List.take_zero, List.append_nil]
        exact reach_whole hr'
      · exact ih _ _ (p ++ [c]) _ _ h hj hr'
    · exact absurd h.symm hj

theorem bad_stranger : badU stranger = -1 := by decide +kernel

theorem bad_pieceN (l : List UInt8) : badU (pieceN l (sgnL l)) = -1 := by
  unfold pieceN
  split
  · exact bad_stranger
  · rename_i h
    have := sgn_valid l 0 0 [] 0 (sgnL l) rfl h reach_nil
    simpa using this

theorem bad_norm_go (f : Nat) : ∀ l, badU (normGo f l) = -1 := by
  induction f with
  | zero => intro l; rfl
  | succ f ih =>
    intro l
    unfold normGo
    split
    · rfl
    · exact bad_cat (bad_pieceN l) (ih _)
theorem bad_norm (l : List UInt8) : badU (normL l) = -1 := bad_norm_go _ l

theorem sgn_good (l : List UInt8) : ∀ (sg lf : Int) (k : Nat), StU sg lf → runU sg lf l 0 = -1 → (l ≠ [] ∨ lf ≠ 0) → sgnGo sg lf l k ≠ 0 ∧ runU 0 0 (l.drop (sgnGo sg lf l k - k)) 0 = -1 := by
  induction l with
  | nil =>
    intro sg lf k hst h hn
    have h : (if 0 < lf then 0 else -1 : Int) = -1 := h
    exfalso
    unfold StU at hst
    rcases hn with hn | hn
    · exact hn rfl
    · rw [if_pos (by omega)] at h
      cases h
  | cons c t ih =>
    intro sg lf k hst h _
    have h : (if okU sg lf c.toNat then runU (sgU sg lf c.toNat) (lfU lf c.toNat) t (0 + 1) else 0) = -1 := h
    unfold sgnGo
    by_cases hok : okU sg lf c.toNat = true
    · rw [if_pos hok] at h ⊢
      have hst' := stU_step hst (Int.natCast_nonneg _) hok
      have h' : runU (sgU sg lf c.toNat) (lfU lf c.toNat) t 0 = -1 := by
        rw [runU_shift] at h
        split at h
        · assumption
        · have := (runU_ge t (sgU sg lf c.toNat) (lfU lf c.toNat)).1
          omega
      by_cases hz : lfU lf c.toNat = 0
      · rw [if_pos hz, show k + 1 - k = 1 by omega]
        rw [hz] at h'
        exact ⟨by omega, by rw [runU_zero _ 0 (sgU sg lf c.toNat)]; exact h'⟩
      · rw [if_neg hz]
        obtain ⟨i1, i2⟩ := ih _ _ (k + 1) hst' h' (.inr hz)
        refine ⟨i1, ?_⟩
        have hs := sgn_split t _ _ (k + 1) _ rfl i1
        rw [show sgnGo (sgU sg lf c.toNat) (lfU lf c.toNat) t (k + 1) - k = (sgnGo (sgU sg lf c.toNat) (lfU lf c.toNat) t (k + 1) - (k + 1)) + 1 by omega, List.drop_succ_cons]
        exact i2
    · rw [if_neg hok] at h
      cases h

theorem norm_id_go (f : Nat) : ∀ l, l.length ≤ f → badU l = -1 → normGo f l = l := by
  induction f with
  | zero =>
    intro l hl _
    obtain rfl : l = [] := List.eq_nil_of_length_eq_zero (by omega)
    rfl
  | succ f ih =>
    intro l hl hb
    unfold normGo
    split
    · rename_i h; rw [h]
    · rename_i hne
      obtain ⟨h1, h2⟩ := sgn_good l 0 0 0 stU_zero hb (.inl hne)
      have hs := sgn_split l 0 0 0 _ rfl h1
      have e1 : goOn (sgnL l) = sgnL l := if_neg h1
      have e2 : pieceN l (sgnL l) = l.take (sgnL l) := if_neg h1
      rw [e1, e2, ih _ (by simp; have : 0 < sgnL l := hs.1; omega) (by simpa [sgnL, badU] using h2), List.take_append_drop]
/-- A text of UTF-8 is its own norm. -/
theorem norm_id {l : List UInt8} (h : badU l = -1) : normL l = l := norm_id_go _ l (Nat.le_refl _) h

theorem hexB_in {c : UInt8} {d : Int} (h : hexB c = some d) : 0 ≤ d ∧ d ≤ 15 := by
  unfold hexB at h
  split at h
  · have := Option.some.inj h; omega
  · split at h
    · have := Option.some.inj h; omega
    · split at h
      · have := Option.some.inj h; omega
      · cases h

/-- The states that reading comes to. -/
def WQ : QSt → Prop
  | .sign sg lf p => Reach p sg lf
  | .hex k v => (k = 0 ∧ v = 0) ∨ (k = 1 ∧ 0 ≤ v ∧ v ≤ 15) ∨ (k = 2 ∧ 0 ≤ v ∧ v ≤ 255 ∧ (v < 220 ∨ 223 < v)) ∨ (k = 3 ∧ 0 ≤ v ∧ v ≤ 4095 ∧ (v < 3520 ∨ 3583 < v))
  | .half h => 55296 ≤ h ∧ h ≤ 56319
  | .hesc h => 55296 ≤ h ∧ h ≤ 56319
  | .hhex h k v => 55296 ≤ h ∧ h ≤ 56319 ∧ ((k = 0 ∧ v = 0) ∨ (k = 1 ∧ v = 13) ∨ (k = 2 ∧ 220 ≤ v ∧ v ≤ 223) ∨ (k = 3 ∧ 3520 ≤ v ∧ v ≤ 3583))
  | _ => True

theorem bad_one (c : UInt8) (h : c.toNat < 128) : badU [c] = -1 := by
  have := reach_step reach_nil (c := c) (okU_0 _ (by omega) 0)
  rw [show lfU 0 c.toNat = 0 by unfold lfU; (repeat' split) <;> omega] at this
  exact reach_whole this

theorem letB_small (c : UInt8) : (letB c).toNat < 128 := by
  unfold letB
  (repeat' split) <;> decide

theorem stepQ_ok {st st' : QSt} {c : UInt8} {e : List UInt8} (hw : WQ st) (h : stepQ st c = some (st', e)) : WQ st' ∧ badU e = -1 := by
  cases st with
  | done => cases h
  | plain =>
    rw [step_plain] at h
    split at h
    · cases h; exact ⟨trivial, rfl⟩
    split at h
    · cases h; exact ⟨trivial, rfl⟩
    split at h
    · cases h
    split at h
    · rename_i hok
      have hr := reach_step reach_nil hok
      split at h
      · rename_i hz
        cases h
        rw [hz] at hr
        exact ⟨trivial, reach_whole hr⟩
      · cases h; exact ⟨hr, rfl⟩
    · cases h
  | sign sg lf p =>
    rw [step_sign] at h
    split at h
    · rename_i hok
      have hr := reach_step hw hok
      split at h
      · rename_i hz
        cases h
        rw [hz] at hr
        exact ⟨trivial, reach_whole hr⟩
      · cases h; exact ⟨hr, rfl⟩
    · cases h
  | esc =>
    have h : (if c = 117 then some (QSt.hex 0 0, []) else if letB c = 0 then none else some (QSt.plain, [letB c])) = some (st', e) := h
    split at h
    · cases h; exact ⟨.inl ⟨rfl, rfl⟩, rfl⟩
    split at h
    · cases h
    · cases h; exact ⟨trivial, bad_one _ (letB_small c)⟩
  | hex k v =>
    cases hd : hexB c with
    | none =>
      rw [step_hex_none _ _ _ hd] at h
      cases h
    | some d =>
      have hin := hexB_in hd
      rw [step_hex _ _ _ _ hd] at h
      unfold WQ at hw
      split at h
      · cases h
      split at h
      · split at h
        · cases h; exact ⟨by unfold WQ; omega, rfl⟩
        · cases h; exact ⟨trivial, bad_ofB _ (by omega) (by omega) (by omega)⟩
      · cases h; exact ⟨by unfold WQ; omega, rfl⟩
  | half g =>
    have h : (if c = 92 then some (QSt.hesc g, []) else none) = some (st', e) := h
    split at h
    · cases h; exact ⟨hw, rfl⟩
    · cases h
  | hesc g =>
    have h : (if c = 117 then some (QSt.hhex g 0 0, []) else none) = some (st', e) := h
    split at h
    · cases h; exact ⟨⟨hw.1, hw.2, .inl ⟨rfl, rfl⟩⟩, rfl⟩
    · cases h
  | hhex g k v =>
    cases hd : hexB c with
    | none =>
      rw [step_hhex_none _ _ _ _ hd] at h
      cases h
    | some d =>
      have hin := hexB_in hd
      rw [step_hhex _ _ _ _ _ hd] at h
      obtain ⟨g1, g2, hw⟩ := hw
      split at h
      · cases h
      split at h
      · cases h
      split at h
      · cases h; exact ⟨trivial, bad_ofB _ (by omega) (by omega) (by omega)⟩
      · cases h; exact ⟨⟨g1, g2, by omega⟩, rfl⟩

/-- Whatever is read is UTF-8. -/
theorem read_valid (l : List UInt8) : ∀ (st : QSt) (acc : List UInt8) (n : Nat) (u : List UInt8) (m : Nat), WQ st → badU acc = -1 → readQ st l acc n = some (u, m) → badU u = -1 := by
  induction l with
  | nil => intro st acc n u m _ _ h; cases h
  | cons c t ih =>
    intro st acc n u m hw ha h
    cases hs : stepQ st c with
    | none =>
      unfold readQ at h
      rw [hs] at h
      cases h
    | some x =>
      obtain ⟨st', e⟩ := x
      obtain ⟨h1, h2⟩ := stepQ_ok hw hs
      by_cases hd : st' = .done
      · subst hd
        unfold readQ at h
        rw [hs] at h
        cases h
        exact bad_cat ha h2
      · rw [readQ_on hs hd] at h
        exact ih _ _ _ _ _ h1 (bad_cat ha h2) h

theorem read_least (l : List UInt8) : ∀ (st : QSt) (acc : List UInt8) (n : Nat) (u : List UInt8) (m : Nat), readQ st l acc n = some (u, m) → n < m ∧ m ≤ n + l.length := by
  induction l with
  | nil => intro st acc n u m h; cases h
  | cons c t ih =>
    intro st acc n u m h
    cases hs : stepQ st c with
    | none =>
      unfold readQ at h
      rw [hs] at h
      cases h
    | some x =>
      obtain ⟨st', e⟩ := x
      by_cases hd : st' = .done
      · subst hd
        unfold readQ at h
        rw [hs] at h
        cases h
        simp
      · rw [readQ_on hs hd] at h
        have := ih _ _ _ _ _ h
        simp
        omega

end Go.Proofs.YtoahnbjpmbhpfaaDoor
