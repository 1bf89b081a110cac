/- Strings as plain mathematics: the string of a text, piece by piece, and reading byte by byte. -/
import Derived.Test.YtclcjngdpicjjaaJ02
import Derived.Outline
import Derived.Deep.DeepMust
import Derived.Lib.AtoiAll
namespace Go.Proofs.Ytclcjngdpicjjaa
open Go.RowKit

/-- How many bytes of a text are its first sign, from a state on; 0: none. -/
def sgnGo : Int → Int → List UInt8 → Nat → Nat
  | _, _, [], _ => 0
  | sg, lf, c :: t, k => if okU sg lf c.toNat then (if lfU lf c.toNat = 0 then k + 1 else sgnGo (sgU sg lf c.toNat) (lfU lf c.toNat) t (k + 1)) else 0
def sgnL (l : List UInt8) : Nat := sgnGo 0 0 l 0

/-- The letter of a byte's escape; 0: it has none. -/
def escB (c : UInt8) : UInt8 := if c = 34 then 34 else if c = 92 then 92 else if c = 8 then 98 else if c = 12 then 102 else if c = 10 then 110 else if c = 13 then 114 else if c = 9 then 116 else 0
/-- A number's sign of 16. -/
def lowB (n : Nat) : UInt8 := if n < 10 then UInt8.ofNat (48 + n) else if n < 16 then UInt8.ofNat (87 + n) else 48
def stranger : List UInt8 := [239, 191, 189]
/-- What the string has for a text's first n bytes; n = 0: for one that is no sign. -/
def pieceP (l : List UInt8) (n : Nat) : List UInt8 := match l with
  | [] => []
  | c :: t => if n = 0 then stranger else if escB c ≠ 0 then [92, escB c] else if c.toNat < 32 then [92, 117, 48, 48, lowB (c.toNat / 16), lowB (c.toNat % 16)] else (c :: t).take n
def pieceN (l : List UInt8) (n : Nat) : List UInt8 := if n = 0 then stranger else l.take n
def goOn (n : Nat) : Nat := if n = 0 then 1 else n
def putGo : Nat → List UInt8 → List UInt8
  | 0, _ => []
  | f + 1, l => if l = [] then [] else pieceP l (sgnL l) ++ putGo f (l.drop (goOn (sgnL l)))
def normGo : Nat → List UInt8 → List UInt8
  | 0, _ => []
  | f + 1, l => if l = [] then [] else pieceN l (sgnL l) ++ normGo f (l.drop (goOn (sgnL l)))
def putL (l : List UInt8) : List UInt8 := putGo l.length l
def normL (l : List UInt8) : List UInt8 := normGo l.length l

/-- Where one is in a string. -/
inductive QSt where
  | plain
  | sign (sg lf : Int) (p : List UInt8)
  | esc
  | hex (k : Nat) (v : Int)
  | half (h : Int)
  | hesc (h : Int)
  | hhex (h : Int) (k : Nat) (v : Int)
  | done

def hexB (c : UInt8) : Option Int :=
  if 48 ≤ c.toNat ∧ c.toNat ≤ 57 then some (c.toNat - 48) else if 97 ≤ c.toNat ∧ c.toNat ≤ 102 then some (c.toNat - 87) else if 65 ≤ c.toNat ∧ c.toNat ≤ 70 then some (c.toNat - 55) else none
def letB (c : UInt8) : UInt8 := if c = 34 then 34 else if c = 92 then 92 else if c = 47 then 47 else if c = 98 then 8 else if c = 102 then 12 else if c = 110 then 10 else if c = 114 then 13 else if c = 116 then 9 else 0
def ofB (v : Int) : List UInt8 := (ofI v).map fun x => UInt8.ofNat x.toNat

/-- One byte on: where one is then, and the bytes that are told; none: it doesn't fit. -/
def stepQ : QSt → UInt8 → Option (QSt × List UInt8)
  | .plain, c => if c = 34 then some (.done, []) else if c = 92 then some (.esc, []) else if c.toNat < 32 then none else
      if okU 0 0 c.toNat then (if lfU 0 c.toNat = 0 then some (.plain, [c]) else some (.sign (sgU 0 0 c.toNat) (lfU 0 c.toNat) [c], [])) else none
  | .sign sg lf p, c => if okU sg lf c.toNat then (if lfU lf c.toNat = 0 then some (.plain, p ++ [c]) else some (.sign (sgU sg lf c.toNat) (lfU lf c.toNat) (p ++ [c]), [])) else none
  | .esc, c => if c = 117 then some (.hex 0 0, []) else if letB c = 0 then none else some (.plain, [letB c])
  | .hex k v, c => match hexB c with
    | none => none
    | some d => if k = 1 ∧ 220 ≤ v * 16 + d ∧ v * 16 + d ≤ 223 then none else
        if k = 3 then (if 55296 ≤ v * 16 + d ∧ v * 16 + d ≤ 56319 then some (.half (v * 16 + d), []) else some (.plain, ofB (v * 16 + d))) else some (.hex (k + 1) (v * 16 + d), [])
  | .half h, c => if c = 92 then some (.hesc h, []) else none
  | .hesc h, c => if c = 117 then some (.hhex h 0 0, []) else none
  | .hhex h k v, c => match hexB c with
    | none => none
    | some d => if k = 0 ∧ d ≠ 13 then none else if k = 1 ∧ (v * 16 + d < 220 ∨ 223 < v * 16 + d) then none else
        if k = 3 then some (.plain, ofB (65536 + (h - 55296) * 1024 + (v * 16 + d - 56320))) else some (.hhex h (k + 1) (v * 16 + d), [])
  | .done, _ => none

/-- Reading: the text, and how many bytes; none: the string isn't whole, or there is none. -/
def readQ : QSt → List UInt8 → List UInt8 → Nat → Option (List UInt8 × Nat)
  | _, [], _, _ => none
  | st, c :: t, acc, n => match stepQ st c with
    | none => none
    | some (.done, e) => some (acc ++ e, n + 1)
    | some (st', e) => readQ st' t (acc ++ e) (n + 1)

theorem readQ_on {st st' : QSt} {c : UInt8} {e : List UInt8} (h : stepQ st c = some (st', e)) (hd : st' ≠ .done) (t acc : List UInt8) (n : Nat) : readQ st (c :: t) acc n = readQ st' t (acc ++ e) (n + 1) := by
  conv => lhs; unfold readQ
  rw [h]
  cases st'
  case done => exact absurd rfl hd
  all_goals rfl

theorem step_sign (sg lf : Int) (p : List UInt8) (c : UInt8) : stepQ (.sign sg lf p) c = if okU sg lf c.toNat then (if lfU lf c.toNat = 0 then some (.plain, p ++ [c]) else some (.sign (sgU sg lf c.toNat) (lfU lf c.toNat) (p ++ [c]), [])) else none := rfl
theorem step_plain (c : UInt8) : stepQ .plain c = if c = 34 then some (.done, []) else if c = 92 then some (.esc, []) else if c.toNat < 32 then none else
      if okU 0 0 c.toNat then (if lfU 0 c.toNat = 0 then some (.plain, [c]) else some (.sign (sgU 0 0 c.toNat) (lfU 0 c.toNat) [c], [])) else none := rfl

/-- The bytes p lead from between two signs to this state. -/
def Reach (p : List UInt8) (sg lf : Int) : Prop := StU sg lf ∧ ∀ rest, runU 0 0 (p ++ rest) 0 = runU sg lf rest p.length
theorem reach_nil : Reach [] 0 0 := ⟨stU_zero, fun _ => rfl⟩
theorem reach_step {p : List UInt8} {sg lf : Int} (h : Reach p sg lf) {c : UInt8} (hk : okU sg lf c.toNat = true) : Reach (p ++ [c]) (sgU sg lf c.toNat) (lfU lf c.toNat) :=
  ⟨stU_step h.1 (Int.natCast_nonneg _) hk, fun rest => by
    rw [List.append_assoc, h.2]
    show (if okU sg lf c.toNat then runU _ _ rest (p.length + 1) else _) = _
    rw [if_pos hk]
    simp⟩
theorem reach_whole {p : List UInt8} {sg : Int} (h : Reach p sg 0) : badU p = -1 := by
  have := h.2 []
  rw [List.append_nil] at this
  exact this

theorem bad_cat {l m : List UInt8} (hl : badU l = -1) (hm : badU m = -1) : badU (l ++ m) = -1 := by
  rw [(badU_append l m).1 hl, if_pos hm]
theorem bad_ofB (v : Int) (h0 : 0 ≤ v) (h9 : v ≤ 1114111) (hs : v < 55296 ∨ 57343 < v) : badU (ofB v) = -1 := by
  have := badU_of v h0 h9 hs
  rw [strOfNums_data] at this
  exact this

/-- A sign's bytes, as sgnGo finds them. -/
theorem sgn_split (l : List UInt8) : ∀ (sg lf : Int) (k j : Nat), sgnGo sg lf l k = j → j ≠ 0 → k < j ∧ j ≤ k + l.length := by
  induction l with
  | nil => intro sg lf k j h hj; exact absurd h.symm hj
  | cons c t ih =>
    intro sg lf k j h hj
    unfold sgnGo at h
    split at h
    · split at h
      · simp; omega
      · have := ih _ _ _ _ h hj
        simp
        omega
    · exact absurd h.symm hj

/-- Reading the rest of a sign. -/
theorem read_sign (l : List UInt8) : ∀ (sg lf : Int) (p : List UInt8) (k j : Nat), sgnGo sg lf l k = j → j ≠ 0 → ∀ rest acc n,
    readQ (.sign sg lf p) (l.take (j - k) ++ rest) acc n = readQ .plain rest (acc ++ p ++ l.take (j - k)) (n + (j - k)) := by
  induction l with
  | nil => intro sg lf p k j h hj; exact absurd h.symm hj
  | cons c t ih =>
    intro sg lf p k j h hj rest acc n
    have hs := sgn_split _ _ _ _ _ h hj
    have e : j - k = (j - (k + 1)) + 1 := by omega
    rw [e, List.take_succ_cons, List.cons_append]
    unfold sgnGo at h
    split at h
    · rename_i hok
      split at h
      · rename_i hz
        subst h
        rw [show k + 1 - (k + 1) = 0 by omega, List.take_zero, List.nil_append]
        rw [readQ_on (st' := .plain) (e := p ++ [c]) (by rw [step_sign, if_pos hok, if_pos hz]) (by intro e; cases e)]
        simp
      · rename_i hz
        have := ih _ _ (p ++ [c]) _ _ h hj rest (acc ++ []) (n + 1)
        rw [readQ_on (st' := .sign (sgU sg lf c.toNat) (lfU lf c.toNat) (p ++ [c])) (e := []) (by rw [step_sign, if_pos hok, if_neg hz]) (by intro e; cases e), this]
        simp
        congr 1
        omega
    · exact absurd h.symm hj

theorem sgn_cons (c : UInt8) (t : List UInt8) : sgnL (c :: t) = if okU 0 0 c.toNat then (if lfU 0 c.toNat = 0 then 1 else sgnGo (sgU 0 0 c.toNat) (lfU 0 c.toNat) t 1) else 0 := rfl
theorem sgn_small (c : UInt8) (t : List UInt8) (h : c.toNat < 128) : sgnL (c :: t) = 1 := by
  rw [sgn_cons, if_pos (okU_0 _ (by omega) 0), if_pos (by unfold lfU; (repeat' split) <;> omega)]

theorem esc_cases {c : UInt8} (h : escB c ≠ 0) : c = 34 ∨ c = 92 ∨ c = 8 ∨ c = 12 ∨ c = 10 ∨ c = 13 ∨ c = 9 := by
  unfold escB at h
  (repeat' split at h) <;> first | (exfalso; exact h rfl) | simp_all

theorem hex_low (d : Nat) (h : d < 16) : hexB (lowB d) = some (d : Int) := by
  have : d = 0 ∨ d = 1 ∨ d = 2 ∨ d = 3 ∨ d = 4 ∨ d = 5 ∨ d = 6 ∨ d = 7 ∨ d = 8 ∨ d = 9 ∨ d = 10 ∨ d = 11 ∨ d = 12 ∨ d = 13 ∨ d = 14 ∨ d = 15 := by omega
  rcases this with rfl | rfl | rfl | rfl | rfl | rfl | rfl | rfl | rfl | rfl | rfl | rfl | rfl | rfl | rfl | rfl <;> rfl

theorem step_hex (k : Nat) (v d : Int) (c : UInt8) (h : hexB c = some d) : stepQ (.hex k v) c = if k = 1 ∧ 220 ≤ v * 16 + d ∧ v * 16 + d ≤ 223 then none else
        if k = 3 then (if 55296 ≤ v * 16 + d ∧ v * 16 + d ≤ 56319 then some (QSt.half (v * 16 + d), []) else some (QSt.plain, ofB (v * 16 + d))) else some (QSt.hex (k + 1) (v * 16 + d), []) := by
  show (match hexB c with
    | none => none
    | some d => if k = 1 ∧ 220 ≤ v * 16 + d ∧ v * 16 + d ≤ 223 then none else
        if k = 3 then (if 55296 ≤ v * 16 + d ∧ v * 16 + d ≤ 56319 then some (QSt.half (v * 16 + d), []) else some (QSt.plain, ofB (v * 16 + d))) else some (QSt.hex (k + 1) (v * 16 + d), [])) = _
  rw [h]

theorem step_hex_none (k : Nat) (v : Int) (c : UInt8) (h : hexB c = none) : stepQ (.hex k v) c = none := by simp only [stepQ, h]
theorem step_hhex (g : Int) (k : Nat) (v d : Int) (c : UInt8) (h : hexB c = some d) : stepQ (.hhex g k v) c = if k = 0 ∧ d ≠ 13 then none else if k = 1 ∧ (v * 16 + d < 220 ∨ 223 < v * 16 + d) then none else
        if k = 3 then some (QSt.plain, ofB (65536 + (g - 55296) * 1024 + (v * 16 + d - 56320))) else some (QSt.hhex g (k + 1) (v * 16 + d), []) := by simp only [stepQ, h]
theorem step_hhex_none (g : Int) (k : Nat) (v : Int) (c : UInt8) (h : hexB c = none) : stepQ (.hhex g k v) c = none := by simp only [stepQ, h]

theorem ofB_small (c : UInt8) (h : c.toNat < 128) : ofB (c.toNat : Int) = [c] := by
  unfold ofB ofI
  rw [if_pos (by omega)]
  simp

set_option maxRecDepth 100000 in
/-- What Put has for the first piece is read as that piece. -/
theorem read_piece (c : UInt8) (t rest acc : List UInt8) (m : Nat) :
    readQ .plain (pieceP (c :: t) (sgnL (c :: t)) ++ rest) acc m = readQ .plain rest (acc ++ pieceN (c :: t) (sgnL (c :: t))) (m + (pieceP (c :: t) (sgnL (c :: t))).length) := by
  generalize hn : sgnL (c :: t) = n
  unfold pieceP pieceN
  by_cases h0 : n = 0
  · simp only [h0, if_true]
    show readQ .plain (239 :: 191 :: 189 :: rest) acc m = _
    rw [readQ_on (st' := .sign 15 2 [239]) (e := []) rfl (by intro e; cases e), readQ_on (st' := .sign 1023 1 [239, 191]) (e := []) rfl (by intro e; cases e), readQ_on (st' := .plain) (e := [239, 191, 189]) rfl (by intro e; cases e)]
    simp [stranger]
  simp only [h0, if_false]
  by_cases h1 : escB c ≠ 0
  · rw [if_pos h1]
    have hc := esc_cases h1
    have hn1 : n = 1 := by
      rw [← hn]
      exact sgn_small c t (by rcases hc with rfl | rfl | rfl | rfl | rfl | rfl | rfl <;> decide)
    subst hn1
    show readQ .plain (92 :: escB c :: rest) acc m = _
    rw [readQ_on (st' := .esc) (e := []) rfl (by intro e; cases e), readQ_on (st' := .plain) (e := [c]) (by rcases hc with rfl | rfl | rfl | rfl | rfl | rfl | rfl <;> rfl) (by intro e; cases e)]
    simp
  rw [if_neg h1]
  by_cases h2 : c.toNat < 32
  · rw [if_pos h2]
    have hn1 : n = 1 := by rw [← hn]; exact sgn_small c t (by omega)
    subst hn1
    show readQ .plain (92 :: 117 :: 48 :: 48 :: lowB (c.toNat / 16) :: lowB (c.toNat % 16) :: rest) acc m = _
    have e1 := hex_low (c.toNat / 16) (by omega)
    have e2 := hex_low (c.toNat % 16) (by omega)
    have ev : (((c.toNat / 16 : Nat) : Int)) * 16 + ((c.toNat % 16 : Nat) : Int) = c.toNat := by omega
    rw [readQ_on (st' := .esc) (e := []) rfl (by intro e; cases e), readQ_on (st' := .hex 0 0) (e := []) rfl (by intro e; cases e), readQ_on (st' := .hex 1 0) (e := []) rfl (by intro e; cases e), readQ_on (st' := .hex 2 0) (e := []) rfl (by intro e; cases e),
      readQ_on (st' := .hex 3 ((c.toNat / 16 : Nat) : Int)) (e := []) (by rw [step_hex _ _ _ _ e1, if_neg (by omega), if_neg (by omega)]; simp) (by intro e; cases e),
      readQ_on (st' := .plain) (e := [c]) (by rw [step_hex _ _ _ _ e2, ev, if_neg (by omega), if_pos rfl, if_neg (by omega), ofB_small c (by omega)]) (by intro e; cases e)]
    simp
  rw [if_neg h2]
  have hq : c ≠ 34 := fun e => by subst e; exact h1 (by decide)
  have hb : c ≠ 92 := fun e => by subst e; exact h1 (by decide)
  rw [sgn_cons] at hn
  split at hn
  · rename_i hok
    split at hn
    · rename_i hz
      subst hn
      show readQ .plain (c :: rest) acc m = _
      rw [readQ_on (st' := .plain) (e := [c]) (by rw [step_plain, if_neg hq, if_neg hb, if_neg h2, if_pos hok, if_pos hz]) (by intro e; cases e)]
      simp
    · rename_i hz
      have hs := sgn_split _ _ _ _ _ hn h0
      have e : n = (n - 1) + 1 := by omega
      have hr := read_sign t _ _ [c] _ _ hn h0 rest (acc ++ []) (m + 1)
      rw [e, List.take_succ_cons, List.cons_append, readQ_on (st' := .sign (sgU 0 0 c.toNat) (lfU 0 c.toNat) [c]) (e := []) (by rw [step_plain, if_neg hq, if_neg hb, if_neg h2, if_pos hok, if_neg hz]) (by intro e; cases e), hr]
      simp
      congr 1
      rw [Nat.min_eq_left (by omega)]
      omega
  · exact absurd hn.symm h0

set_option maxRecDepth 100000 in
theorem read_put (f : Nat) : ∀ (l : List UInt8), l.length ≤ f → ∀ acc m, readQ .plain (putGo f l ++ [34]) acc m = some (acc ++ normGo f l, m + (putGo f l).length + 1) := by
  induction f with
  | zero =>
    intro l hl acc m
    show readQ .plain [34] acc m = _
    simp [readQ, stepQ, normGo, putGo]
  | succ f ih =>
    intro l hl acc m
    unfold putGo normGo
    cases l with
    | nil => simp [readQ, stepQ]
    | cons c t =>
      simp only [reduceCtorEq, if_false]
      have hd : 1 ≤ goOn (sgnL (c :: t)) := by unfold goOn; split <;> omega
      rw [List.append_assoc, read_piece, ih _ (by simp at hl ⊢; omega)]
      simp
      omega

/-- A text comes back from its string. -/
theorem read_back (l : List UInt8) : readQ .plain (putL l ++ [34]) [] 0 = some (normL l, (putL l).length + 1) := by
  have := read_put l.length l (Nat.le_refl _) [] 0
  simpa [putL, normL] using this

end Go.Proofs.Ytclcjngdpicjjaa

namespace Go.Proofs.Ytclcjngdpicjjaa
open Go.RowKit

theorem sgn_valid (l : List UInt8) : ∀ (sg lf : Int) (p : List UInt8) (k j : Nat), sgnGo sg lf l k = j → j ≠ 0 → Reach p sg lf → badU (p ++ l.take (j - k)) = -1 := by
  induction l with
  | nil => intro sg lf p k j h hj; exact absurd h.symm hj
  | cons c t ih =>
    intro sg lf p k j h hj hr
    have hs := sgn_split _ _ _ _ _ h hj
    have e : j - k = (j - (k + 1)) + 1 := by omega
    rw [e, List.take_succ_cons, show p ++ c :: t.take (j - (k + 1)) = (p ++ [c]) ++ t.take (j - (k + 1)) by simp]
    unfold sgnGo at h
    split at h
    · rename_i hok
      have hr' := reach_step hr hok
      split at h
      · rename_i hz
        subst h
        rw [hz] at hr'
        rw [show k + 1 - (k + 1) = 0 by omega, List.take_zero, List.append_nil]
        exact reach_whole hr'
      · exact ih _ _ (p ++ [c]) _ _ h hj hr'
    · exact absurd h.symm hj

theorem bad_stranger : badU stranger = -1 := by decide +kernel

theorem bad_pieceN (l : List UInt8) : badU (pieceN l (sgnL l)) = -1 := by
  unfold pieceN
  split
  · exact bad_stranger
  · rename_i h
    have := sgn_valid l 0 0 [] 0 (sgnL l) rfl h reach_nil
    simpa using this

theorem bad_norm_go (f : Nat) : ∀ l, badU (normGo f l) = -1 := by
  induction f with
  | zero => intro l; rfl
  | succ f ih =>
    intro l
    unfold normGo
    split
    · rfl
    · exact bad_cat (bad_pieceN l) (ih _)
theorem bad_norm (l : List UInt8) : badU (normL l) = -1 := bad_norm_go _ l

theorem sgn_good (l : List UInt8) : ∀ (sg lf : Int) (k : Nat), StU sg lf → runU sg lf l 0 = -1 → (l ≠ [] ∨ lf ≠ 0) → sgnGo sg lf l k ≠ 0 ∧ runU 0 0 (l.drop (sgnGo sg lf l k - k)) 0 = -1 := by
  induction l with
  | nil =>
    intro sg lf k hst h hn
    have h : (if 0 < lf then 0 else -1 : Int) = -1 := h
    exfalso
    unfold StU at hst
    rcases hn with hn | hn
    · exact hn rfl
    · rw [if_pos (by omega)] at h
      cases h
  | cons c t ih =>
    intro sg lf k hst h _
    have h : (if okU sg lf c.toNat then runU (sgU sg lf c.toNat) (lfU lf c.toNat) t (0 + 1) else 0) = -1 := h
    unfold sgnGo
    by_cases hok : okU sg lf c.toNat = true
    · rw [if_pos hok] at h ⊢
      have hst' := stU_step hst (Int.natCast_nonneg _) hok
      have h' : runU (sgU sg lf c.toNat) (lfU lf c.toNat) t 0 = -1 := by
        rw [runU_shift] at h
        split at h
        · assumption
        · have := (runU_ge t (sgU sg lf c.toNat) (lfU lf c.toNat)).1
          omega
      by_cases hz : lfU lf c.toNat = 0
      · rw [if_pos hz, show k + 1 - k = 1 by omega]
        rw [hz] at h'
        exact ⟨by omega, by rw [runU_zero _ 0 (sgU sg lf c.toNat)]; exact h'⟩
      · rw [if_neg hz]
        obtain ⟨i1, i2⟩ := ih _ _ (k + 1) hst' h' (.inr hz)
        refine ⟨i1, ?_⟩
        have hs := sgn_split t _ _ (k + 1) _ rfl i1
        rw [show sgnGo (sgU sg lf c.toNat) (lfU lf c.toNat) t (k + 1) - k = (sgnGo (sgU sg lf c.toNat) (lfU lf c.toNat) t (k + 1) - (k + 1)) + 1 by omega, List.drop_succ_cons]
        exact i2
    · rw [if_neg hok] at h
      cases h

theorem norm_id_go (f : Nat) : ∀ l, l.length ≤ f → badU l = -1 → normGo f l = l := by
  induction f with
  | zero =>
    intro l hl _
    obtain rfl : l = [] := List.eq_nil_of_length_eq_zero (by omega)
    rfl
  | succ f ih =>
    intro l hl hb
    unfold normGo
    split
    · rename_i h; rw [h]
    · rename_i hne
      obtain ⟨h1, h2⟩ := sgn_good l 0 0 0 stU_zero hb (.inl hne)
      have hs := sgn_split l 0 0 0 _ rfl h1
      have e1 : goOn (sgnL l) = sgnL l := if_neg h1
      have e2 : pieceN l (sgnL l) = l.take (sgnL l) := if_neg h1
      rw [e1, e2, ih _ (by simp; have : 0 < sgnL l := hs.1; omega) (by simpa [sgnL, badU] using h2), List.take_append_drop]
/-- A text of UTF-8 is its own norm. -/
theorem norm_id {l : List UInt8} (h : badU l = -1) : normL l = l := norm_id_go _ l (Nat.le_refl _) h

theorem hexB_in {c : UInt8} {d : Int} (h : hexB c = some d) : 0 ≤ d ∧ d ≤ 15 := by
  unfold hexB at h
  split at h
  · have := Option.some.inj h; omega
  · split at h
    · have := Option.some.inj h; omega
    · split at h
      · have := Option.some.inj h; omega
      · cases h

/-- The states that reading comes to. -/
def WQ : QSt → Prop
  | .sign sg lf p => Reach p sg lf
  | .hex k v => (k = 0 ∧ v = 0) ∨ (k = 1 ∧ 0 ≤ v ∧ v ≤ 15) ∨ (k = 2 ∧ 0 ≤ v ∧ v ≤ 255 ∧ (v < 220 ∨ 223 < v)) ∨ (k = 3 ∧ 0 ≤ v ∧ v ≤ 4095 ∧ (v < 3520 ∨ 3583 < v))
  | .half h => 55296 ≤ h ∧ h ≤ 56319
  | .hesc h => 55296 ≤ h ∧ h ≤ 56319
  | .hhex h k v => 55296 ≤ h ∧ h ≤ 56319 ∧ ((k = 0 ∧ v = 0) ∨ (k = 1 ∧ v = 13) ∨ (k = 2 ∧ 220 ≤ v ∧ v ≤ 223) ∨ (k = 3 ∧ 3520 ≤ v ∧ v ≤ 3583))
  | _ => True

theorem bad_one (c : UInt8) (h : c.toNat < 128) : badU [c] = -1 := by
  have := reach_step reach_nil (c := c) (okU_0 _ (by omega) 0)
  rw [show lfU 0 c.toNat = 0 by unfold lfU; (repeat' split) <;> omega] at this
  exact reach_whole this

theorem letB_small (c : UInt8) : (letB c).toNat < 128 := by
  unfold letB
  (repeat' split) <;> decide

theorem stepQ_ok {st st' : QSt} {c : UInt8} {e : List UInt8} (hw : WQ st) (h : stepQ st c = some (st', e)) : WQ st' ∧ badU e = -1 := by
  cases st with
  | done => cases h
  | plain =>
    rw [step_plain] at h
    split at h
    · cases h; exact ⟨trivial, rfl⟩
    split at h
    · cases h; exact ⟨trivial, rfl⟩
    split at h
    · cases h
    split at h
    · rename_i hok
      have hr := reach_step reach_nil hok
      split at h
      · rename_i hz
        cases h
        rw [hz] at hr
        exact ⟨trivial, reach_whole hr⟩
      · cases h; exact ⟨hr, rfl⟩
    · cases h
  | sign sg lf p =>
    rw [step_sign] at h
    split at h
    · rename_i hok
      have hr := reach_step hw hok
      split at h
      · rename_i hz
        cases h
        rw [hz] at hr
        exact ⟨trivial, reach_whole hr⟩
      · cases h; exact ⟨hr, rfl⟩
    · cases h
  | esc =>
    have h : (if c = 117 then some (QSt.hex 0 0, []) else if letB c = 0 then none else some (QSt.plain, [letB c])) = some (st', e) := h
    split at h
    · cases h; exact ⟨.inl ⟨rfl, rfl⟩, rfl⟩
    split at h
    · cases h
    · cases h; exact ⟨trivial, bad_one _ (letB_small c)⟩
  | hex k v =>
    cases hd : hexB c with
    | none =>
      rw [step_hex_none _ _ _ hd] at h
      cases h
    | some d =>
      have hin := hexB_in hd
      rw [step_hex _ _ _ _ hd] at h
      unfold WQ at hw
      split at h
      · cases h
      split at h
      · split at h
        · cases h; exact ⟨by unfold WQ; omega, rfl⟩
        · cases h; exact ⟨trivial, bad_ofB _ (by omega) (by omega) (by omega)⟩
      · cases h; exact ⟨by unfold WQ; omega, rfl⟩
  | half g =>
    have h : (if c = 92 then some (QSt.hesc g, []) else none) = some (st', e) := h
    split at h
    · cases h; exact ⟨hw, rfl⟩
    · cases h
  | hesc g =>
    have h : (if c = 117 then some (QSt.hhex g 0 0, []) else none) = some (st', e) := h
    split at h
    · cases h; exact ⟨⟨hw.1, hw.2, .inl ⟨rfl, rfl⟩⟩, rfl⟩
    · cases h
  | hhex g k v =>
    cases hd : hexB c with
    | none =>
      rw [step_hhex_none _ _ _ _ hd] at h
      cases h
    | some d =>
      have hin := hexB_in hd
      rw [step_hhex _ _ _ _ _ hd] at h
      obtain ⟨g1, g2, hw⟩ := hw
      split at h
      · cases h
      split at h
      · cases h
      split at h
      · cases h; exact ⟨trivial, bad_ofB _ (by omega) (by omega) (by omega)⟩
      · cases h; exact ⟨⟨g1, g2, by omega⟩, rfl⟩

/-- Whatever is read is UTF-8. -/
theorem read_valid (l : List UInt8) : ∀ (st : QSt) (acc : List UInt8) (n : Nat) (u : List UInt8) (m : Nat), WQ st → badU acc = -1 → readQ st l acc n = some (u, m) → badU u = -1 := by
  induction l with
  | nil => intro st acc n u m _ _ h; cases h
  | cons c t ih =>
    intro st acc n u m hw ha h
    cases hs : stepQ st c with
    | none =>
      unfold readQ at h
      rw [hs] at h
      cases h
    | some x =>
      obtain ⟨st', e⟩ := x
      obtain ⟨h1, h2⟩ := stepQ_ok hw hs
      by_cases hd : st' = .done
      · subst hd
        unfold readQ at h
        rw [hs] at h
        cases h
        exact bad_cat ha h2
      · rw [readQ_on hs hd] at h
        exact ih _ _ _ _ _ h1 (bad_cat ha h2) h

theorem read_least (l : List UInt8) : ∀ (st : QSt) (acc : List UInt8) (n : Nat) (u : List UInt8) (m : Nat), readQ st l acc n = some (u, m) → n < m ∧ m ≤ n + l.length := by
  induction l with
  | nil => intro st acc n u m h; cases h
  | cons c t ih =>
    intro st acc n u m h
    cases hs : stepQ st c with
    | none =>
      unfold readQ at h
      rw [hs] at h
      cases h
    | some x =>
      obtain ⟨st', e⟩ := x
      by_cases hd : st' = .done
      · subst hd
        unfold readQ at h
        rw [hs] at h
        cases h
        simp
      · rw [readQ_on hs hd] at h
        have := ih _ _ _ _ _ h
        simp
        omega

end Go.Proofs.Ytclcjngdpicjjaa

namespace Go.Proofs.Ytclcjngdpicjjaa
open Go.RowKit

theorem low_toNat (n : Nat) (h : n ≤ 15) : ((lowB n).toNat : Int) = if n < 10 then 48 + (n : Int) else 87 + n := by
  unfold lowB
  split
  · rw [UInt8.toNat_ofNat']; omega
  · rw [if_pos (by omega), UInt8.toNat_ofNat']; omega

end Go.Proofs.Ytclcjngdpicjjaa

namespace Go.Proofs.Ytclcjngdpicjjaa
open Go.RowKit

theorem put_step (l : List UInt8) (k f : Nat) (hk : k < l.length) (hf : l.length - k ≤ f) : ∃ g, f = g + 1 ∧ putGo f (l.drop k) = pieceP (l.drop k) (sgnL (l.drop k)) ++ putGo g (l.drop (k + goOn (sgnL (l.drop k)))) := by
  obtain ⟨g, rfl⟩ : ∃ g, f = g + 1 := ⟨f - 1, by omega⟩
  refine ⟨g, rfl, ?_⟩
  conv => lhs; unfold putGo
  rw [if_neg (by intro e; have := congrArg List.length e; simp at this; omega), List.drop_drop]

theorem sgnGo_cons (sg lf : Int) (l : List UInt8) (j m : Nat) (h : j < l.length) : sgnGo sg lf (l.drop j) m = if okU sg lf l[j].toNat then (if lfU lf l[j].toNat = 0 then m + 1 else sgnGo (sgU sg lf l[j].toNat) (lfU lf l[j].toNat) (l.drop (j + 1)) (m + 1)) else 0 := by
  rw [List.drop_eq_getElem_cons h]; rfl
theorem pieceP_zero (l : List UInt8) (k : Nat) (h : k < l.length) : pieceP (l.drop k) 0 = stranger := by
  rw [List.drop_eq_getElem_cons h]; rfl
/-- Constants that were just laid out. -/
theorem lit_rd (w : World) (cs : Array Value) (news : List UInt8) (h : cs = (byteCells news).toArray) : Rd (w.alloc (.cells cs 5)) (w.heap.size + 1) (some ⟨w.heap.size, 0, none⟩) news.length (byteCells news) := by
  subst h
  exact Rd.of_list (Own.fresh w 5 _) (byteCells_length news)

def ysL : List UInt8 := [34, 92, 8, 12, 10, 13, 9]
/-- What Put has found of a byte's escape behind j letters. -/
def escTo (c : UInt8) (j : Nat) : Int := if c ∈ ysL.take j then ((escB c).toNat : Int) else 0
theorem escTo_no (c : UInt8) (j : Nat) (y : UInt8) (hj : ysL[j]? = some y) (h : c ≠ y) : escTo c (j + 1) = escTo c j := by
  obtain ⟨hl, hy⟩ := List.getElem?_eq_some_iff.1 hj
  unfold escTo
  rw [List.take_succ_eq_append_getElem hl, hy]
  by_cases hc : c ∈ ysL.take j
  · rw [if_pos hc, if_pos (List.mem_append_left _ hc)]
  · rw [if_neg hc, if_neg (by rw [List.mem_append]; rintro (h' | h'); exact hc h'; exact h (List.mem_singleton.1 h'))]
theorem escTo_yes (c : UInt8) (j : Nat) (y : UInt8) (hj : ysL[j]? = some y) (h : c = y) : escTo c (j + 1) = (escB y).toNat := by
  obtain ⟨hl, hy⟩ := List.getElem?_eq_some_iff.1 hj
  unfold escTo
  rw [List.take_succ_eq_append_getElem hl, hy, if_pos (by rw [h]; exact List.mem_append_right _ (List.mem_singleton.2 rfl)), h]
theorem escTo_end (c : UInt8) : escTo c 7 = (escB c).toNat := by
  unfold escTo
  by_cases hc : c ∈ ysL.take 7
  · rw [if_pos hc]
  · rw [if_neg hc]
    have : escB c = 0 := by
      by_cases h : escB c = 0
      · exact h
      · exfalso
        apply hc
        rcases esc_cases h with rfl | rfl | rfl | rfl | rfl | rfl | rfl <;> decide
    rw [this]; rfl
theorem piece_esc (l : List UInt8) (k m : Nat) (h : k < l.length) (hm : m ≠ 0) (he : escB l[k] ≠ 0) : pieceP (l.drop k) m = [92, escB l[k]] := by
  rw [List.drop_eq_getElem_cons h]
  show (if m = 0 then _ else if escB l[k] ≠ 0 then _ else _) = _
  rw [if_neg hm, if_pos he]
theorem piece_ctl (l : List UInt8) (k m : Nat) (h : k < l.length) (hm : m ≠ 0) (he : escB l[k] = 0) (hc : l[k].toNat < 32) : pieceP (l.drop k) m = [92, 117, 48, 48, lowB (l[k].toNat / 16), lowB (l[k].toNat % 16)] := by
  rw [List.drop_eq_getElem_cons h]
  show (if m = 0 then _ else if escB l[k] ≠ 0 then _ else if l[k].toNat < 32 then _ else _) = _
  rw [if_neg hm, if_neg (by simp [he]), if_pos hc]
theorem piece_raw (l : List UInt8) (k m : Nat) (h : k < l.length) (hm : m ≠ 0) (he : escB l[k] = 0) (hc : ¬ l[k].toNat < 32) : pieceP (l.drop k) m = (l.drop k).take m := by
  rw [List.drop_eq_getElem_cons h]
  show (if m = 0 then _ else if escB l[k] ≠ 0 then _ else if l[k].toNat < 32 then _ else _) = _
  rw [if_neg hm, if_neg (by simp [he]), if_neg hc]
theorem sgn_long (l : List UInt8) (k m : Nat) (h : k < l.length) (hs : sgnL (l.drop k) = m) (hm : 2 ≤ m) : 128 ≤ l[k].toNat := by
  by_cases hc : l[k].toNat < 128
  · rw [List.drop_eq_getElem_cons h, sgn_small _ _ hc] at hs
    omega
  · omega
theorem esc_long {c : UInt8} (h : 128 ≤ c.toNat) : escB c = 0 := by
  by_cases he : escB c = 0
  · exact he
  · exfalso
    rcases esc_cases he with rfl | rfl | rfl | rfl | rfl | rfl | rfl <;> revert h <;> decide
theorem part_is (s : ByteArray) (k m : Nat) : (s.extract k (k + m)).data.toList = (s.data.toList.drop k).take m := by
  rw [ByteArray.data_extract, Array.toList_extract, List.extract_eq_take_drop]
  congr 1
  omega

def ltV : List Value := [.int .u8 34, .int .u8 92, .int .u8 98, .int .u8 102, .int .u8 110, .int .u8 114, .int .u8 116]
/-- Where the search for an escape is. -/
def RelEs (c : UInt8) (b : Nat) (w0 w : World) (e i : Value) : Prop :=
  ∃ j : Nat, j ≤ 7 ∧ i = .int .i64 j ∧ e = .int .u8 (escTo c j) ∧ Own w b 5 ltV.toArray ∧ Below w0.heap.size w0 w

/-- Where the search for a sign's end is: m bytes are looked at. -/
def RelSg (s : ByteArray) (k : Nat) (wr w : World) (n i : Value) : Prop :=
  (∃ (m : Nat) (sg lf : Int), k + m ≤ s.size ∧ n = .int .i64 0 ∧ i = .int .i64 ((k + m + 1 : Nat) : Int) ∧ InvL ((s.data.toList.take (k + m)).drop k) sg lf ∧ StU sg lf ∧
    sgnL (s.data.toList.drop k) = sgnGo sg lf (s.data.toList.drop (k + m)) m ∧ Below wr.heap.size wr w) ∨
  (∃ m : Nat, 1 ≤ m ∧ k + m ≤ s.size ∧ n = .int .i64 m ∧ i = .int .i64 ((k + m + 1 : Nat) : Int) ∧ sgnL (s.data.toList.drop k) = m ∧ Below wr.heap.size wr w)

/-- Where Put's loop is. -/
def RelPut (s : ByteArray) (W wr : World) (o a : Value) : Prop :=
  ∃ (k f : Nat) (d : List UInt8), k ≤ s.size ∧ a = .int .i64 k ∧ Buf wr W.heap.size o (34 :: d) ∧ d.length ≤ 6 * k ∧ s.size - k ≤ f ∧ putL s.data.toList = d ++ putGo f (s.data.toList.drop k) ∧ Below W.heap.size W wr

end Go.Proofs.Ytclcjngdpicjjaa

namespace Go.Proofs.Ytclcjngdpicjjaa
open Go.RowKit
set_option linter.unusedVariables false

structure Pst where
  named : Bool
  name : List UInt8
  index : Int
/-- Can a step be? -/
def rightB (s : Pst) : Bool := if s.named then decide (s.index = 0) && decide (badU s.name = -1) else decide (s.name = []) && decide (0 ≤ s.index ∧ s.index ≤ 9007199254740991)
/-- The letter of a sign's escape within marks; 0: it has none. -/
def escN (c : UInt8) : UInt8 := if c = 8 then 98 else if c = 9 then 116 else if c = 10 then 110 else if c = 12 then 102 else if c = 13 then 114 else if c = 39 then 39 else if c = 92 then 92 else 0
/-- What an escape's letter stands for; 0: nothing. -/
def letN (c : UInt8) : UInt8 := if c = 98 then 8 else if c = 116 then 9 else if c = 110 then 10 else if c = 102 then 12 else if c = 114 then 13 else if c = 39 then 39 else if c = 92 then 92 else 0
def ctlN (c : UInt8) : List UInt8 := [92, 117, 48, 48, lowB (c.toNat / 16), lowB (c.toNat % 16)]
/-- What stands for a text's first n bytes; n = 0: for one that is no sign. -/
def pieceM (l : List UInt8) (n : Nat) : List UInt8 := match l with
  | [] => []
  | c :: t => if n = 0 then stranger else if escN c ≠ 0 then [92, escN c] else if c.toNat < 32 then ctlN c else (c :: t).take n
theorem pieceM_cons (c : UInt8) (t : List UInt8) (n : Nat) : pieceM (c :: t) n = if n = 0 then stranger else if escN c ≠ 0 then [92, escN c] else if c.toNat < 32 then ctlN c else (c :: t).take n := rfl
def nameGo : Nat → List UInt8 → List UInt8
  | 0, _ => []
  | f + 1, l => if l = [] then [] else pieceM l (sgnL l) ++ nameGo f (l.drop (goOn (sgnL l)))
def nameM (l : List UInt8) : List UInt8 := nameGo l.length l
/-- A name in marks. -/
def nameT (l : List UInt8) : List UInt8 := 39 :: (nameM l ++ [39])
/-- A number's digits. -/
def digN (n : Nat) : List UInt8 := if n < 10 then [UInt8.ofNat (48 + n)] else digN (n / 10) ++ [UInt8.ofNat (48 + n % 10)]
termination_by n
decreasing_by omega
def stepT (s : Pst) : List UInt8 := 91 :: ((if s.named then nameT s.name else digN s.index.toNat) ++ [93])
def putP (l : List Pst) : List UInt8 := if l.all rightB then 36 :: l.flatMap stepT else []

theorem digN_one (n : Nat) (h : n < 10) : digN n = [UInt8.ofNat (48 + n)] := by rw [digN, if_pos h]
theorem digN_more (n : Nat) (h : ¬ n < 10) : digN n = digN (n / 10) ++ [UInt8.ofNat (48 + n % 10)] := by rw [digN, if_neg h]

theorem nameGo_nil (f : Nat) : nameGo f [] = [] := by cases f <;> rfl
theorem nameGo_cons (f : Nat) (c : UInt8) (t : List UInt8) : nameGo (f + 1) (c :: t) = pieceM (c :: t) (sgnL (c :: t)) ++ nameGo f ((c :: t).drop (goOn (sgnL (c :: t)))) := by
  show (if c :: t = [] then [] else _) = _
  rw [if_neg (by simp)]
theorem goOn_pos (n : Nat) : 1 ≤ goOn n := by unfold goOn; split <;> omega
/-- More fuel than bytes changes nothing. -/
theorem nameGo_fuel : ∀ (f g : Nat) (l : List UInt8), l.length ≤ f → l.length ≤ g → nameGo f l = nameGo g l
  | f, g, [], _, _ => by rw [nameGo_nil, nameGo_nil]
  | 0, _, _ :: _, h, _ => by simp at h
  | _ + 1, 0, _ :: _, _, h => by simp at h
  | f + 1, g + 1, c :: t, h1, h2 => by
    rw [nameGo_cons, nameGo_cons]
    have := goOn_pos (sgnL (c :: t))
    rw [nameGo_fuel f g _ (by simp at h1 ⊢; omega) (by simp at h2 ⊢; omega)]
theorem nameM_cons (c : UInt8) (t : List UInt8) : nameM (c :: t) = pieceM (c :: t) (sgnL (c :: t)) ++ nameM ((c :: t).drop (goOn (sgnL (c :: t)))) := by
  have := goOn_pos (sgnL (c :: t))
  unfold nameM
  show nameGo (t.length + 1) (c :: t) = _
  rw [nameGo_cons, nameGo_fuel t.length ((c :: t).drop (goOn (sgnL (c :: t)))).length _ (by simp; omega) (Nat.le_refl _)]

/-- A sign that stands whole at the beginning, whatever comes behind it. -/
theorem sgn_take (l : List UInt8) : ∀ (sg lf : Int) (k j : Nat) (rest : List UInt8), sgnGo sg lf l k = j → j ≠ 0 → sgnGo sg lf (l.take (j - k) ++ rest) k = j := by
  induction l with
  | nil => intro sg lf k j rest h hj; exact absurd h.symm hj
  | cons c t ih =>
    intro sg lf k j rest h hj
    have hs := sgn_split _ _ _ _ _ h hj
    have e : j - k = (j - (k + 1)) + 1 := by omega
    rw [e, List.take_succ_cons, List.cons_append]
    have h' : (if okU sg lf c.toNat then (if lfU lf c.toNat = 0 then k + 1 else sgnGo (sgU sg lf c.toNat) (lfU lf c.toNat) t (k + 1)) else 0) = j := h
    show (if okU sg lf c.toNat then (if lfU lf c.toNat = 0 then k + 1 else sgnGo (sgU sg lf c.toNat) (lfU lf c.toNat) (t.take (j - (k + 1)) ++ rest) (k + 1)) else 0) = j
    split at h'
    · rename_i hok
      rw [if_pos hok]
      split at h'
      · rename_i hz; rw [if_pos hz]; exact h'
      · rename_i hz; rw [if_neg hz]; exact ih _ _ _ _ rest h' hj
    · exact absurd h'.symm hj
theorem sgnL_take {l : List UInt8} {n : Nat} (h : sgnL l = n) (h0 : n ≠ 0) (rest : List UInt8) : sgnL (l.take n ++ rest) = n ∧ 1 ≤ n ∧ n ≤ l.length := by
  have h1 := sgn_take l 0 0 0 n rest h h0
  have h2 := sgn_split l 0 0 0 n h h0
  exact ⟨h1, by omega, by omega⟩
theorem escN_cases {c : UInt8} (h : escN c ≠ 0) : c = 8 ∨ c = 9 ∨ c = 10 ∨ c = 12 ∨ c = 13 ∨ c = 39 ∨ c = 92 := by
  unfold escN at h
  (repeat' split at h) <;> first | (exfalso; exact h rfl) | simp_all
theorem letN_cases {c : UInt8} (h : letN c ≠ 0) : c = 98 ∨ c = 116 ∨ c = 110 ∨ c = 102 ∨ c = 114 ∨ c = 39 ∨ c = 92 := by
  unfold letN at h
  (repeat' split at h) <;> first | (exfalso; exact h rfl) | simp_all
theorem let_esc {c : UInt8} (h : escN c ≠ 0) : letN (escN c) = c := by
  rcases escN_cases h with rfl | rfl | rfl | rfl | rfl | rfl | rfl <;> rfl
theorem esc_let {c : UInt8} (h : letN c ≠ 0) : escN (letN c) = c ∧ (letN c).toNat < 128 := by
  rcases letN_cases h with rfl | rfl | rfl | rfl | rfl | rfl | rfl <;> exact ⟨rfl, by decide⟩

/-- Which sign below 32 stands there, written in digits; none: none does. -/
def ctlM (l : List UInt8) : Option UInt8 := ((List.range 32).map UInt8.ofNat).find? fun c => decide (escN c = 0) && decide (l.take 6 = ctlN c)
/-- An escape: l's, behind whose backslash t stands. -/
def backM (l t : List UInt8) : List UInt8 × Nat := match t with
  | [] => ([], 0)
  | d :: _ => if letN d ≠ 0 then ([letN d], 2) else (ctlM l).elim ([], 0) fun x => ([x], 6)
/-- The sign that begins a text within marks, and how many bytes; 0: none. -/
def oneM (l : List UInt8) : List UInt8 × Nat := match l with
  | [] => ([], 0)
  | c :: t => if c = 39 ∨ c.toNat < 32 then ([], 0) else if c ≠ 92 then ((c :: t).take (sgnL (c :: t)), sgnL (c :: t)) else backM (c :: t) t
theorem backM_cons (l : List UInt8) (d : UInt8) (r : List UInt8) : backM l (d :: r) = if letN d ≠ 0 then ([letN d], 2) else (ctlM l).elim ([], 0) fun x => ([x], 6) := rfl
theorem oneM_cons (c : UInt8) (t : List UInt8) : oneM (c :: t) = if c = 39 ∨ c.toNat < 32 then ([], 0) else if c ≠ 92 then ((c :: t).take (sgnL (c :: t)), sgnL (c :: t)) else backM (c :: t) t := rfl

theorem ctl_some {l : List UInt8} {x : UInt8} (h : ctlM l = some x) : x.toNat < 32 ∧ escN x = 0 ∧ l.take 6 = ctlN x := by
  unfold ctlM at h
  have h1 := List.find?_some h
  have h2 := List.mem_of_find?_eq_some h
  simp only [Bool.and_eq_true, decide_eq_true_eq] at h1
  obtain ⟨n, hn, rfl⟩ := List.mem_map.1 h2
  have := List.mem_range.1 hn
  exact ⟨by rw [UInt8.toNat_ofNat_of_lt' (by show n < 256; omega)]; exact this, h1⟩
theorem ctlN_inj : ∀ a b : Fin 32, ctlN (UInt8.ofNat a) = ctlN (UInt8.ofNat b) → a = b := by decide +kernel
theorem ctl_is {l : List UInt8} {x : UInt8} (h1 : x.toNat < 32) (h2 : escN x = 0) (h3 : l.take 6 = ctlN x) : ctlM l = some x := by
  cases h : ctlM l with
  | some y =>
    obtain ⟨y1, _, y3⟩ := ctl_some h
    have e : ctlN x = ctlN y := h3.symm.trans y3
    have hx : x = UInt8.ofNat x.toNat := by simp
    have hy : y = UInt8.ofNat y.toNat := by simp
    rw [hx, hy] at e
    have := ctlN_inj ⟨x.toNat, h1⟩ ⟨y.toNat, y1⟩ e
    have : x.toNat = y.toNat := by injection this
    rw [hx, hy, this]
  | none =>
    exfalso
    unfold ctlM at h
    rw [List.find?_eq_none] at h
    have := h x (List.mem_map.2 ⟨x.toNat, List.mem_range.2 h1, by simp⟩)
    simp [h2, h3] at this

/-- What stands for a sign is read as that sign. -/
theorem one_piece {l : List UInt8} {n : Nat} (hne : l ≠ []) (h : sgnL l = n) (h0 : n ≠ 0) (rest : List UInt8) : oneM (pieceM l n ++ rest) = (l.take n, (pieceM l n).length) ∧ pieceM l n ≠ [] ∧ (pieceM l n).head? ≠ some 39 := by
  cases l with
  | nil => exact absurd rfl hne
  | cons c t =>
    have hs := sgnL_take h h0 rest
    rw [pieceM_cons, if_neg h0]
    by_cases he : escN c ≠ 0
    · rw [if_pos he]
      have hc := escN_cases he
      have hn : n = 1 := by
        rw [← h]
        exact sgn_small c t (by rcases hc with rfl | rfl | rfl | rfl | rfl | rfl | rfl <;> decide)
      subst hn
      refine ⟨?_, by simp, by simp⟩
      show oneM (92 :: escN c :: rest) = ([c], 2)
      rw [oneM_cons, if_neg (by decide), if_neg (by decide), backM_cons, let_esc he, if_pos (by rcases hc with rfl | rfl | rfl | rfl | rfl | rfl | rfl <;> decide)]
    rw [if_neg he]
    have he := Classical.not_not.1 he
    by_cases hlt : c.toNat < 32
    · rw [if_pos hlt]
      have hn : n = 1 := by rw [← h]; exact sgn_small c t (by omega)
      subst hn
      refine ⟨?_, by simp [ctlN], by simp [ctlN]⟩
      have hct : ctlM (ctlN c ++ rest) = some c := ctl_is hlt he (by simp [ctlN])
      have e : ctlN c ++ rest = 92 :: 117 :: (48 :: 48 :: lowB (c.toNat / 16) :: lowB (c.toNat % 16) :: rest) := rfl
      rw [e] at hct ⊢
      rw [oneM_cons, if_neg (by decide), if_neg (by decide), backM_cons, if_neg (by decide), hct]
      rfl
    · rw [if_neg hlt]
      obtain ⟨m, rfl⟩ : ∃ m, n = m + 1 := ⟨n - 1, by omega⟩
      have h39 : c ≠ 39 := by rintro rfl; exact absurd he (by decide)
      have h92 : c ≠ 92 := by rintro rfl; exact absurd he (by decide)
      refine ⟨?_, by simp, by simp [h39]⟩
      have e : (c :: t).take (m + 1) ++ rest = c :: (t.take m ++ rest) := rfl
      rw [e]
      have hs1 := hs.1
      rw [e] at hs1
      rw [oneM_cons, if_neg (by rintro (h | h); exact h39 h; exact hlt h), if_pos h92, hs1]
      have hl : t.length ≥ m := by have := hs.2.2; simp at this; omega
      simp [hl]

set_option maxRecDepth 100000 in
/-- What is read is written so again. -/
theorem one_inv {l b : List UInt8} {n : Nat} (h : oneM l = (b, n)) (h0 : n ≠ 0) : n ≤ l.length ∧ b ≠ [] ∧ sgnL b = b.length ∧ badU b = -1 ∧ pieceM b b.length = l.take n := by
  cases l with
  | nil => exact absurd (show n = 0 by have : (([] : List UInt8), 0) = (b, n) := h; injection this with _ e; exact e.symm) h0
  | cons c t =>
    rw [oneM_cons] at h
    have no : ∀ {x : List UInt8}, (([] : List UInt8), 0) = (b, n) → False := fun e => by injection e with _ e; exact h0 e.symm
    split at h
    · exact (no (x := []) h).elim
    rename_i hc
    split at h
    · rename_i h92
      injection h with h1 h2
      have hs := sgnL_take h2 h0 []
      rw [List.append_nil] at hs
      rw [h2] at h1
      have hl : b.length = n := by rw [← h1, List.length_take]; omega
      have hbad := sgn_valid (c :: t) 0 0 [] 0 n h2 h0 reach_nil
      rw [List.nil_append, Nat.sub_zero, h1] at hbad
      refine ⟨hs.2.2, fun e => by rw [e] at hl; simp at hl; omega, by rw [hl, ← h1]; exact hs.1, hbad, ?_⟩
      obtain ⟨m, rfl⟩ : ∃ m, n = m + 1 := ⟨n - 1, by omega⟩
      rw [hl, h1]
      have e : b = c :: t.take m := h1.symm
      rw [e]
      have hnc : escN c = 0 := by
        by_cases he : escN c = 0
        · exact he
        · exfalso
          rcases escN_cases he with rfl | rfl | rfl | rfl | rfl | rfl | rfl
          · exact hc (.inr (by decide))
          · exact hc (.inr (by decide))
          · exact hc (.inr (by decide))
          · exact hc (.inr (by decide))
          · exact hc (.inr (by decide))
          · exact hc (.inl rfl)
          · exact h92 rfl
      rw [pieceM_cons, if_neg (by omega), if_neg (by simp [hnc]), if_neg (fun h => hc (.inr h))]
      rw [e] at hl
      exact List.take_of_length_le (by omega)
    rename_i h92
    obtain rfl : c = 92 := Classical.not_not.1 h92
    cases t with
    | nil => exact (no (x := []) h).elim
    | cons d r =>
      rw [backM_cons] at h
      split at h
      · rename_i hd
        injection h with h1 h2
        obtain ⟨e1, e2⟩ := esc_let hd
        subst h1 h2
        refine ⟨by simp, by simp, sgn_small _ _ e2, bad_one _ e2, ?_⟩
        show pieceM [letN d] 1 = _
        rw [pieceM_cons, if_neg (by decide), e1, if_pos (by rcases letN_cases hd with rfl | rfl | rfl | rfl | rfl | rfl | rfl <;> decide)]
        rfl
      · cases hx : ctlM (92 :: d :: r) with
        | none => rw [hx] at h; exact (no (x := []) h).elim
        | some x =>
          rw [hx] at h
          injection h with h1 h2
          obtain ⟨x1, x2, x3⟩ := ctl_some hx
          subst h1 h2
          refine ⟨?_, by simp, sgn_small _ _ (by omega), bad_one _ (by omega), ?_⟩
          · have := congrArg List.length x3
            rw [List.length_take] at this
            simp [ctlN] at this
            simp at this ⊢
            omega
          · show pieceM [x] 1 = _
            rw [pieceM_cons, if_neg (by decide), if_neg (by simp [x2]), if_pos x1, x3]

end Go.Proofs.Ytclcjngdpicjjaa

namespace Go.Proofs.Ytclcjngdpicjjaa
open Go.RowKit
set_option linter.unusedVariables false

/-- A name, from behind its mark on: what it is, and what is left from where it ends on. -/
def nameR : Nat → List UInt8 → List UInt8 → Option (List UInt8 × List UInt8)
  | 0, _, _ => none
  | f + 1, l, acc => if l = [] ∨ l.head? = some 39 then some (acc, l) else if (oneM l).2 = 0 then none else nameR f (l.drop (oneM l).2) (acc ++ (oneM l).1)
theorem nameR_on (f : Nat) (l acc : List UInt8) : nameR (f + 1) l acc = if l = [] ∨ l.head? = some 39 then some (acc, l) else if (oneM l).2 = 0 then none else nameR f (l.drop (oneM l).2) (acc ++ (oneM l).1) := rfl

theorem head_app {a b : List UInt8} (h : a ≠ []) : (a ++ b).head? = a.head? := by
  cases a with
  | nil => exact absurd rfl h
  | cons x y => rfl
set_option maxRecDepth 100000 in
theorem name_back : ∀ (f : Nat) (m acc rest : List UInt8), badU m = -1 → m.length < f → nameR f (nameM m ++ 39 :: rest) acc = some (acc ++ m, 39 :: rest)
  | 0, m, _, _, _, h => by omega
  | f + 1, [], acc, rest, _, _ => by
    rw [nameR_on, if_pos (.inr rfl), List.append_nil]
    rfl
  | f + 1, c :: t, acc, rest, hb, hl => by
    obtain ⟨h0, hd⟩ := sgn_good (c :: t) 0 0 0 stU_zero hb (.inl (by simp))
    have h0 : sgnL (c :: t) ≠ 0 := h0
    have hd : badU ((c :: t).drop (sgnL (c :: t) - 0)) = -1 := hd
    rw [Nat.sub_zero] at hd
    obtain ⟨n, hn⟩ : ∃ n, sgnL (c :: t) = n := ⟨_, rfl⟩
    rw [hn] at h0 hd
    have hg : goOn n = n := if_neg h0
    obtain ⟨o1, o2, o3⟩ := one_piece (l := c :: t) (by simp) hn h0 (nameM ((c :: t).drop n) ++ 39 :: rest)
    have e : nameM (c :: t) ++ 39 :: rest = pieceM (c :: t) n ++ (nameM ((c :: t).drop n) ++ 39 :: rest) := by rw [nameM_cons, hn, hg, List.append_assoc]
    have hne : pieceM (c :: t) n ++ (nameM ((c :: t).drop n) ++ 39 :: rest) ≠ [] := fun h => o2 (List.append_eq_nil_iff.1 h).1
    have hh : (pieceM (c :: t) n ++ (nameM ((c :: t).drop n) ++ 39 :: rest)).head? ≠ some 39 := by
      rw [head_app o2]
      exact o3
    have hp : (pieceM (c :: t) n).length ≠ 0 := fun h => o2 (List.eq_nil_of_length_eq_zero h)
    rw [e, nameR_on, if_neg (by rintro (h | h); exact hne h; exact hh h), o1, if_neg hp, List.drop_left]
    have := name_back f ((c :: t).drop n) (acc ++ (c :: t).take n) rest hd (by rw [List.length_drop]; simp at hl ⊢; omega)
    rw [this, List.append_assoc, List.take_append_drop]
/-- One sign, and what is behind it, in marks. -/
theorem name_sign {b : List UInt8} (m : List UInt8) (hb : b ≠ []) (hs : sgnL b = b.length) : nameM (b ++ m) = pieceM b b.length ++ nameM m := by
  cases b with
  | nil => exact absurd rfl hb
  | cons c t =>
    have h0 : (c :: t).length ≠ 0 := by simp
    have h1 := (sgnL_take hs h0 m).1
    rw [List.take_length] at h1
    have e : (c :: t) ++ m = c :: (t ++ m) := rfl
    rw [e] at h1 ⊢
    rw [nameM_cons, h1, show goOn (c :: t).length = (c :: t).length from if_neg h0, ← e, List.drop_left, e, pieceM_cons, pieceM_cons, ← e, List.take_left, List.take_length]
theorem name_inv : ∀ (f : Nat) (l acc nm rest : List UInt8), nameR f l acc = some (nm, rest) → ∃ m, nm = acc ++ m ∧ badU m = -1 ∧ l = nameM m ++ rest ∧ (rest = [] ∨ rest.head? = some 39)
  | 0, _, _, _, _, h => by cases h
  | f + 1, l, acc, nm, rest, h => by
    rw [nameR_on] at h
    split at h
    · rename_i hs
      injection h with h
      injection h with h1 h2
      subst h1 h2
      exact ⟨[], (List.append_nil _).symm, rfl, rfl, hs⟩
    · split at h
      · cases h
      · rename_i h0
        obtain ⟨o1, o2, o3, o4, o5⟩ := one_inv (l := l) (b := (oneM l).1) (n := (oneM l).2) rfl h0
        obtain ⟨m, e1, e2, e3, e4⟩ := name_inv f _ _ _ _ h
        refine ⟨(oneM l).1 ++ m, by rw [e1, List.append_assoc], bad_cat o4 e2, ?_, e4⟩
        rw [name_sign m o2 o3, o5, List.append_assoc, ← e3, List.take_append_drop]

def digB (c : UInt8) : Bool := decide (48 ≤ c.toNat ∧ c.toNat ≤ 57)
/-- Digits, so many at most: their number, how many, and what is left. -/
def numGo : Nat → List UInt8 → Nat → Nat → Nat × Nat × List UInt8
  | 0, l, v, n => (v, n, l)
  | _ + 1, [], v, n => (v, n, [])
  | f + 1, c :: t, v, n => if digB c then numGo f t (v * 10 + (c.toNat - 48)) (n + 1) else (v, n, c :: t)
/-- The number that begins a text, and how many bytes; 0: none. -/
def numM (l : List UInt8) : Nat × Nat :=
  if ((numGo 16 l 0 0).2.1 > 1 ∧ l.head? = some 48) ∨ (numGo 16 l 0 0).1 > 9007199254740991 ∨ (∃ c, (numGo 16 l 0 0).2.2.head? = some c ∧ digB c = true) then (0, 0) else ((numGo 16 l 0 0).1, (numGo 16 l 0 0).2.1)
instance (l : List UInt8) : Decidable (∃ c, l.head? = some c ∧ digB c = true) := match h : l.head? with
  | none => isFalse (fun ⟨c, h1, _⟩ => by cases h1)
  | some c => if hc : digB c = true then isTrue ⟨c, rfl, hc⟩ else isFalse (fun ⟨d, h1, h2⟩ => by injection h1 with h1; subst h1; exact hc h2)

theorem dig_toNat (n : Nat) (h : n < 10) : (UInt8.ofNat (48 + n)).toNat = 48 + n := UInt8.toNat_ofNat_of_lt' (by show 48 + n < 256; omega)
theorem digB_of (n : Nat) (h : n < 10) : digB (UInt8.ofNat (48 + n)) = true := by unfold digB; rw [dig_toNat n h]; exact decide_eq_true (by omega)
theorem numGo_cons (f : Nat) (c : UInt8) (t : List UInt8) (v n : Nat) : numGo (f + 1) (c :: t) v n = if digB c then numGo f t (v * 10 + (c.toNat - 48)) (n + 1) else (v, n, c :: t) := rfl
theorem digN_pos (v : Nat) : 1 ≤ (digN v).length := by
  by_cases h : v < 10
  · rw [digN_one v h]; simp
  · rw [digN_more v h]; simp
theorem num_digits (v : Nat) : ∀ (f n : Nat) (rest : List UInt8), (digN v).length ≤ f → numGo f (digN v ++ rest) 0 n = numGo (f - (digN v).length) rest v (n + (digN v).length) := by
  induction v using Nat.strongRecOn with
  | ind v ih =>
    intro f n rest hf
    by_cases h : v < 10
    · rw [digN_one v h] at hf ⊢
      obtain ⟨g, rfl⟩ : ∃ g, f = g + 1 := ⟨f - 1, by simp at hf; omega⟩
      show numGo (g + 1) (UInt8.ofNat (48 + v) :: rest) 0 n = _
      rw [numGo_cons, if_pos (digB_of v h), dig_toNat v h]
      simp
    · rw [digN_more v h] at hf ⊢
      have hd := digN_pos (v / 10)
      rw [List.length_append, List.length_singleton] at hf ⊢
      rw [List.append_assoc, ih (v / 10) (by omega) f n _ (by omega)]
      obtain ⟨g, hg⟩ : ∃ g, f - (digN (v / 10)).length = g + 1 := ⟨f - (digN (v / 10)).length - 1, by omega⟩
      rw [hg]
      show numGo (g + 1) (UInt8.ofNat (48 + v % 10) :: rest) _ _ = _
      rw [numGo_cons, if_pos (digB_of _ (by omega)), dig_toNat _ (by omega)]
      congr 1 <;> omega
theorem digN_len : ∀ (k v : Nat), v < 10 ^ (k + 1) → (digN v).length ≤ k + 1
  | 0, v, h => by rw [digN_one v (by simpa using h)]; simp
  | k + 1, v, h => by
    by_cases h2 : v < 10
    · rw [digN_one v h2]; simp
    · have := digN_len k (v / 10) (by rw [Nat.div_lt_iff_lt_mul (by decide)]; rw [Nat.pow_succ] at h; exact h)
      rw [digN_more v h2, List.length_append, List.length_singleton]
      omega
theorem digN_head (v : Nat) : (digN v).head? = some 48 → v = 0 := by
  induction v using Nat.strongRecOn with
  | ind v ih =>
    intro h
    by_cases h2 : v < 10
    · rw [digN_one v h2] at h
      have h : UInt8.ofNat (48 + v) = 48 := by simpa using h
      have := congrArg UInt8.toNat h
      rw [dig_toNat v h2] at this
      have e : (48 : UInt8).toNat = 48 := rfl
      omega
    · have hp := digN_pos (v / 10)
      rw [digN_more v h2, head_app (by intro e; rw [e] at hp; simp at hp)] at h
      have := ih (v / 10) (by omega) h
      omega
theorem num_back (v : Nat) (hv : v ≤ 9007199254740991) (rest : List UInt8) : numM (digN v ++ 93 :: rest) = (v, (digN v).length) := by
  have hl := digN_len 15 v (by simp; omega)
  have hp := digN_pos v
  have h1 := num_digits v 16 0 (93 :: rest) hl
  have h2 : numGo (16 - (digN v).length) (93 :: rest) v (0 + (digN v).length) = (v, (digN v).length, 93 :: rest) := by
    rw [Nat.zero_add]
    cases (16 - (digN v).length) with
    | zero => rfl
    | succ g => rw [numGo_cons, if_neg (by decide)]
  rw [h2] at h1
  unfold numM
  rw [h1, if_neg]
  rintro (⟨a, b⟩ | a | ⟨c, a, b⟩)
  · rw [head_app (by intro e; rw [e] at hp; simp at hp)] at b
    have := digN_head v b
    subst this
    rw [digN_one 0 (by decide)] at a
    simp at a
  · exact absurd a (by show ¬ v > _; omega)
  · have : (93 : UInt8) = c := by simpa using a
    subst this
    exact absurd b (by decide)

def valD (ds : List UInt8) (v : Nat) : Nat := ds.foldl (fun a c => a * 10 + (c.toNat - 48)) v
theorem num_run : ∀ (f : Nat) (l : List UInt8) (v n v' n' : Nat) (rest : List UInt8), numGo f l v n = (v', n', rest) → ∃ ds, l = ds ++ rest ∧ (∀ c ∈ ds, digB c = true) ∧ n' = n + ds.length ∧ v' = valD ds v
  | 0, l, v, n, v', n', rest, h => by
    have h : (v, n, l) = (v', n', rest) := h
    injection h with h1 h2
    injection h2 with h2 h3
    subst h1 h2 h3
    exact ⟨[], rfl, (fun c hc => by cases hc), rfl, rfl⟩
  | f + 1, [], v, n, v', n', rest, h => by
    have h : (v, n, ([] : List UInt8)) = (v', n', rest) := h
    injection h with h1 h2
    injection h2 with h2 h3
    subst h1 h2 h3
    exact ⟨[], rfl, (fun c hc => by cases hc), rfl, rfl⟩
  | f + 1, c :: t, v, n, v', n', rest, h => by
    rw [numGo_cons] at h
    split at h
    · rename_i hc
      obtain ⟨ds, e1, e2, e3, e4⟩ := num_run f t _ _ _ _ _ h
      refine ⟨c :: ds, by rw [e1]; rfl, fun x hx => ?_, by simp; omega, e4⟩
      rcases List.mem_cons.1 hx with rfl | hx
      · exact hc
      · exact e2 x hx
    · injection h with h1 h2
      injection h2 with h2 h3
      subst h1 h2 h3
      exact ⟨[], rfl, (fun c hc => by cases hc), rfl, rfl⟩
theorem val_snoc (ds : List UInt8) (d : UInt8) (v : Nat) : valD (ds ++ [d]) v = valD ds v * 10 + (d.toNat - 48) := by unfold valD; rw [List.foldl_append]; rfl
theorem val_pos : ∀ (ds : List UInt8) (v : Nat), (∀ c ∈ ds, digB c = true) → (1 ≤ v ∨ ∃ c t, ds = c :: t ∧ c ≠ 48) → 1 ≤ valD ds v
  | [], v, _, h => by
    rcases h with h | ⟨c, t, h, _⟩
    · exact h
    · cases h
  | c :: t, v, hd, h => by
    have hc := hd c List.mem_cons_self
    unfold digB at hc
    have hc := of_decide_eq_true hc
    show 1 ≤ valD t (v * 10 + (c.toNat - 48))
    refine val_pos t _ (fun x hx => hd x (List.mem_cons_of_mem _ hx)) (.inl ?_)
    rcases h with h | ⟨c', t', h, h48⟩
    · omega
    · injection h with h1 _
      subst h1
      have : c.toNat ≠ 48 := fun e => h48 (UInt8.toNat_inj.1 (by rw [e]; rfl))
      omega
/-- Digits without a nought ahead are their number's. -/
theorem dig_val (ds : List UInt8) : ds ≠ [] → (∀ c ∈ ds, digB c = true) → (ds.length = 1 ∨ ds.head? ≠ some 48) → digN (valD ds 0) = ds := by
  induction hk : ds.length using Nat.strongRecOn generalizing ds with
  | ind k ih =>
    intro hne hd h0
    rcases List.eq_nil_or_concat ds with rfl | ⟨es, d, rfl⟩
    · exact absurd rfl hne
    rw [List.concat_eq_append] at *
    have hdd : 48 ≤ d.toNat ∧ d.toNat ≤ 57 := by
      have := hd d (by simp)
      unfold digB at this
      exact of_decide_eq_true this
    have hofd : UInt8.ofNat (48 + (d.toNat - 48)) = d := by rw [show 48 + (d.toNat - 48) = d.toNat by omega]; simp
    rw [val_snoc]
    by_cases hes : es = []
    · subst hes
      show digN (0 * 10 + (d.toNat - 48)) = [d]
      rw [digN_one _ (by omega), show 0 * 10 + (d.toNat - 48) = d.toNat - 48 by omega, hofd]
    · have hle : 1 ≤ es.length := by
        rcases es with _ | ⟨a, b⟩
        · exact absurd rfl hes
        · simp
      have hh : es.head? ≠ some 48 := by
        rcases h0 with h | h
        · rw [List.length_append, List.length_singleton] at hk; omega
        · rwa [head_app hes] at h
      have hp : 1 ≤ valD es 0 := val_pos es 0 (fun c hc => hd c (List.mem_append_left _ hc)) (.inr (by
        rcases es with _ | ⟨a, b⟩
        · exact absurd rfl hes
        · exact ⟨a, b, rfl, fun e => hh (by rw [e]; rfl)⟩))
      rw [digN_more _ (by omega), show (valD es 0 * 10 + (d.toNat - 48)) / 10 = valD es 0 by omega, show (valD es 0 * 10 + (d.toNat - 48)) % 10 = d.toNat - 48 by omega, hofd, ih es.length (by rw [← hk]; simp) es rfl hes (fun c hc => hd c (List.mem_append_left _ hc)) (.inr hh)]
theorem num_inv {l : List UInt8} {v n : Nat} (h : numM l = (v, n)) (h0 : n ≠ 0) : digN v = l.take n ∧ v ≤ 9007199254740991 ∧ n ≤ l.length := by
  unfold numM at h
  split at h
  · injection h with _ h; exact absurd h.symm h0
  · rename_i hc
    injection h with h1 h2
    obtain ⟨ds, e1, e2, e3, e4⟩ := num_run 16 l 0 0 v n (numGo 16 l 0 0).2.2 (by rw [← h1, ← h2])
    rw [Nat.zero_add] at e3
    have hne : ds ≠ [] := fun e => by rw [e] at e3; exact h0 e3
    have ht : l.take n = ds := by rw [e1, e3, List.take_left]
    refine ⟨?_, by rw [← h1]; exact Nat.le_of_not_gt fun h => hc (.inr (.inl h)), by rw [e1, e3]; simp⟩
    rw [ht, e4]
    refine dig_val ds hne e2 ?_
    by_cases hn : n = 1
    · exact .inl (e3.symm.trans hn)
    · refine .inr fun hh => hc (.inl ⟨by rw [h2]; omega, ?_⟩)
      rw [e1, head_app hne]
      exact hh

/-- Steps, as they stand behind the first sign. -/
def parseGo : Nat → List UInt8 → Option (List Pst)
  | 0, _ => none
  | f + 1, l => if l = [] then some [] else if l.head? ≠ some 91 ∨ l.tail = [] then none else
      if l.tail.head? ≠ some 39 then (if (numM l.tail).2 = 0 ∨ (l.tail.drop (numM l.tail).2).head? ≠ some 93 then none else (parseGo f (l.tail.drop ((numM l.tail).2 + 1))).map fun k => ⟨false, [], (numM l.tail).1⟩ :: k)
      else (nameR l.length l.tail.tail []).bind fun p => if p.2.tail.head? ≠ some 93 then none else (parseGo f (p.2.drop 2)).map fun k => ⟨true, p.1, 0⟩ :: k
def parseM (l : List UInt8) : Option (List Pst) := if l.head? ≠ some 36 then none else parseGo (l.length + 1) l.tail
theorem parseGo_on (f : Nat) (l : List UInt8) : parseGo (f + 1) l = if l = [] then some [] else if l.head? ≠ some 91 ∨ l.tail = [] then none else
      if l.tail.head? ≠ some 39 then (if (numM l.tail).2 = 0 ∨ (l.tail.drop (numM l.tail).2).head? ≠ some 93 then none else (parseGo f (l.tail.drop ((numM l.tail).2 + 1))).map fun k => ⟨false, [], (numM l.tail).1⟩ :: k)
      else (nameR l.length l.tail.tail []).bind fun p => if p.2.tail.head? ≠ some 93 then none else (parseGo f (p.2.drop 2)).map fun k => ⟨true, p.1, 0⟩ :: k := rfl

theorem right_index {s : Pst} (h : rightB s = true) (hn : s.named = false) : s = ⟨false, [], s.index⟩ ∧ 0 ≤ s.index ∧ s.index ≤ 9007199254740991 := by
  obtain ⟨nd, nm, ix⟩ := s
  have hn : nd = false := hn
  subst hn
  unfold rightB at h
  simp only [Bool.false_eq_true, if_false, Bool.and_eq_true, decide_eq_true_eq] at h
  obtain ⟨rfl, h⟩ := h
  exact ⟨rfl, h⟩
theorem right_name {s : Pst} (h : rightB s = true) (hn : s.named = true) : s = ⟨true, s.name, 0⟩ ∧ badU s.name = -1 := by
  obtain ⟨nd, nm, ix⟩ := s
  have hn : nd = true := hn
  subst hn
  unfold rightB at h
  simp only [if_true, Bool.and_eq_true, decide_eq_true_eq] at h
  obtain ⟨rfl, h⟩ := h
  exact ⟨rfl, h⟩
set_option maxRecDepth 100000 in
theorem name_len : ∀ (k : Nat) (m : List UInt8), m.length ≤ k → badU m = -1 → m.length ≤ (nameM m).length
  | _, [], _, _ => by simp
  | 0, _ :: _, h, _ => by simp at h
  | k + 1, c :: t, h, hb => by
    obtain ⟨h0, hd⟩ := sgn_good (c :: t) 0 0 0 stU_zero hb (.inl (by simp))
    have h0 : sgnL (c :: t) ≠ 0 := h0
    have hd : badU ((c :: t).drop (sgnL (c :: t) - 0)) = -1 := hd
    rw [Nat.sub_zero] at hd
    obtain ⟨n, hn⟩ : ∃ n, sgnL (c :: t) = n := ⟨_, rfl⟩
    rw [hn] at h0 hd
    have hs := sgnL_take hn h0 []
    have ih := name_len k ((c :: t).drop n) (by rw [List.length_drop]; simp at h ⊢; omega) hd
    rw [List.length_drop] at ih
    have hp : n ≤ (pieceM (c :: t) n).length := by
      rw [pieceM_cons, if_neg h0]
      by_cases he : escN c ≠ 0
      · rw [if_pos he]
        have : n = 1 := by rw [← hn]; exact sgn_small c t (by rcases escN_cases he with rfl | rfl | rfl | rfl | rfl | rfl | rfl <;> decide)
        subst this; simp
      · rw [if_neg he]
        by_cases hl : c.toNat < 32
        · rw [if_pos hl]
          have : n = 1 := by rw [← hn]; exact sgn_small c t (by omega)
          subst this; simp [ctlN]
        · rw [if_neg hl, List.length_take]
          have := hs.2.2
          omega
    rw [nameM_cons, hn, show goOn n = n from if_neg h0, List.length_append]
    omega

set_option maxRecDepth 100000 in
theorem step_put : ∀ (f : Nat) (k : List Pst), k.length < f → k.all rightB = true → parseGo f (k.flatMap stepT) = some k
  | 0, k, h, _ => by omega
  | f + 1, [], _, _ => by rw [parseGo_on]; rfl
  | f + 1, s :: k, h, hr => by
    simp only [List.all_cons, Bool.and_eq_true] at hr
    have ih := step_put f k (by simp at h; omega) hr.2
    have e : (s :: k).flatMap stepT = stepT s ++ k.flatMap stepT := rfl
    rw [e]
    generalize hK : k.flatMap stepT = K at *
    cases hn : s.named
    · obtain ⟨e1, e2, e3⟩ := right_index hr.1 hn
      obtain ⟨v, hv⟩ := Int.eq_ofNat_of_zero_le e2
      have e4 : stepT s ++ K = 91 :: (digN v ++ 93 :: K) := by
        show 91 :: ((if s.named then nameT s.name else digN s.index.toNat) ++ [93]) ++ K = _
        rw [hn, if_neg (by decide), hv, Int.toNat_natCast]
        simp
      have hp := digN_pos v
      have hdh : (digN v ++ 93 :: K).head? ≠ some 39 := by
        rw [head_app (by intro e; rw [e] at hp; simp at hp)]
        intro hh
        have hmem := List.mem_of_head? hh
        obtain ⟨ds, d1, d2, _, _⟩ := num_run 16 (digN v) 0 0 _ _ _ rfl
        have h1 := num_digits v 16 0 [] (digN_len 15 v (by simp; omega))
        rw [List.append_nil] at h1
        have hnil : (numGo 16 (digN v) 0 0).2.2 = [] := by
          rw [h1]
          cases (16 - (digN v).length) <;> rfl
        rw [hnil, List.append_nil] at d1
        exact absurd (d2 39 (d1 ▸ hmem)) (by decide)
      have hnb := num_back v (by omega) K
      rw [e4, parseGo_on, if_neg (by simp), if_neg (by simp)]
      show (if (digN v ++ 93 :: K).head? ≠ some 39 then (if (numM (digN v ++ 93 :: K)).2 = 0 ∨ ((digN v ++ 93 :: K).drop (numM (digN v ++ 93 :: K)).2).head? ≠ some 93 then none else (parseGo f ((digN v ++ 93 :: K).drop ((numM (digN v ++ 93 :: K)).2 + 1))).map fun k => (⟨false, [], (numM (digN v ++ 93 :: K)).1⟩ : Pst) :: k) else _) = _
      rw [if_pos hdh, hnb, if_neg (by simp; exact fun e => by rw [e] at hp; simp at hp)]
      have hdrop : (digN v ++ 93 :: K).drop ((digN v).length + 1) = K := by
        rw [← List.drop_drop, List.drop_left]; rfl
      show (parseGo f ((digN v ++ 93 :: K).drop ((digN v).length + 1))).map (fun k => (⟨false, [], (v : Int)⟩ : Pst) :: k) = _
      rw [hdrop, ih, e1, hv]
      rfl
    · obtain ⟨e1, e2⟩ := right_name hr.1 hn
      have e4 : stepT s ++ K = 91 :: 39 :: (nameM s.name ++ 39 :: 93 :: K) := by
        show 91 :: ((if s.named then nameT s.name else digN s.index.toNat) ++ [93]) ++ K = _
        rw [hn, if_pos rfl]
        unfold nameT
        simp
      have hl := name_len s.name.length s.name (Nat.le_refl _) e2
      have hb := name_back ((91 :: 39 :: (nameM s.name ++ 39 :: 93 :: K)).length) s.name [] (93 :: K) e2 (by simp; omega)
      rw [e4, parseGo_on, if_neg (by simp), if_neg (by simp), if_neg (by simp)]
      show (nameR (91 :: 39 :: (nameM s.name ++ 39 :: 93 :: K)).length (nameM s.name ++ 39 :: 93 :: K) []).bind _ = _
      rw [hb]
      show (if (93 :: K).head? ≠ some 93 then none else (parseGo f K).map fun k => (⟨true, [] ++ s.name, 0⟩ : Pst) :: k) = _
      rw [if_neg (by simp), ih]
      show some ((⟨true, s.name, 0⟩ : Pst) :: k) = some (s :: k)
      rw [← e1]

theorem parse_step : ∀ (f : Nat) (l : List UInt8) (k : List Pst), parseGo f l = some k → k.all rightB = true ∧ k.flatMap stepT = l
  | 0, _, _, h => by cases h
  | f + 1, l, k, h => by
    rw [parseGo_on] at h
    split at h
    · rename_i hl
      injection h with h
      subst h hl
      exact ⟨rfl, rfl⟩
    rename_i hl
    split at h
    · cases h
    rename_i hh
    have h91 : l.head? = some 91 := Classical.not_not.1 fun e => hh (.inl e)
    have hl2 : l = 91 :: l.tail := by
      cases l with
      | nil => exact absurd rfl hl
      | cons a t =>
        have : a = 91 := by simpa using h91
        rw [this]
        rfl
    have htn : l.tail ≠ [] := fun e => hh (.inr e)
    generalize l.tail = t at *
    split at h
    · split at h
      · cases h
      · rename_i h39 hn
        have h0 : (numM t).2 ≠ 0 := fun e => hn (.inl e)
        have h93 : (t.drop (numM t).2).head? = some 93 := Classical.not_not.1 fun e => hn (.inr e)
        obtain ⟨i1, i2, i3⟩ := num_inv (l := t) (v := (numM t).1) (n := (numM t).2) rfl h0
        cases hp : parseGo f (t.drop ((numM t).2 + 1)) with
        | none => rw [hp] at h; cases h
        | some k' =>
          rw [hp] at h
          injection h with h
          obtain ⟨a1, a2⟩ := parse_step f _ _ hp
          have hsp : t = digN (numM t).1 ++ 93 :: t.drop ((numM t).2 + 1) := by
            have h1 := List.take_append_drop (numM t).2 t
            rw [← i1] at h1
            have h2 : t.drop (numM t).2 = 93 :: t.drop ((numM t).2 + 1) := by
              rw [← List.drop_drop]
              cases hd : t.drop (numM t).2 with
              | nil => rw [hd] at h93; cases h93
              | cons a r =>
                rw [hd] at h93
                have : a = 93 := by simpa using h93
                rw [this]
                rfl
            rw [h2] at h1
            exact h1.symm
          have hr : rightB ⟨false, [], ((numM t).1 : Int)⟩ = true := by
            unfold rightB
            simp only [Bool.false_eq_true, if_false, decide_true, Bool.true_and]
            exact decide_eq_true (by omega)
          refine ⟨by rw [← h]; simp only [List.all_cons, hr, a1, Bool.and_self], ?_⟩
          rw [← h, hl2]
          show stepT ⟨false, [], ((numM t).1 : Int)⟩ ++ k'.flatMap stepT = _
          rw [a2]
          show 91 :: ((if false then _ else digN ((numM t).1 : Int).toNat) ++ [93]) ++ t.drop ((numM t).2 + 1) = 91 :: t
          rw [if_neg (by decide), Int.toNat_natCast]
          conv => rhs; rw [hsp]
          simp
    · rename_i h39
      have h39 : t.head? = some 39 := Classical.not_not.1 h39
      have ht2 : t = 39 :: t.tail := by
        cases t with
        | nil => exact absurd rfl htn
        | cons a r =>
          have : a = 39 := by simpa using h39
          rw [this]
          rfl
      cases hr : nameR l.length t.tail [] with
      | none => rw [hr] at h; cases h
      | some p =>
        obtain ⟨nm, r⟩ := p
        rw [hr] at h
        have h : (if r.tail.head? ≠ some 93 then none else (parseGo f (r.drop 2)).map fun k => (⟨true, nm, 0⟩ : Pst) :: k) = some k := h
        split at h
        · cases h
        · rename_i h93
          have h93 : r.tail.head? = some 93 := Classical.not_not.1 h93
          cases hp : parseGo f (r.drop 2) with
          | none => rw [hp] at h; cases h
          | some k' =>
            rw [hp] at h
            injection h with h
            obtain ⟨a1, a2⟩ := parse_step f _ _ hp
            obtain ⟨m, b1, b2, b3, b4⟩ := name_inv _ _ _ _ _ hr
            have b1 : nm = m := b1
            subst b1
            have hr2 : r = 39 :: 93 :: r.drop 2 := by
              rcases b4 with rfl | b4
              · cases h93
              · cases r with
                | nil => cases b4
                | cons a q =>
                  have : a = 39 := by simpa using b4
                  subst this
                  have h93 : q.head? = some 93 := h93
                  cases q with
                  | nil => cases h93
                  | cons a q =>
                    have : a = 93 := by simpa using h93
                    subst this
                    rfl
            have hri : rightB ⟨true, nm, 0⟩ = true := by
              unfold rightB
              simp [b2]
            refine ⟨by rw [← h]; simp only [List.all_cons, hri, a1, Bool.and_self], ?_⟩
            rw [← h, hl2, ht2, b3]
            show stepT ⟨true, nm, 0⟩ ++ k'.flatMap stepT = _
            rw [a2]
            show 91 :: ((if true then nameT nm else _) ++ [93]) ++ r.drop 2 = _
            rw [if_pos rfl]
            conv => rhs; rw [hr2]
            unfold nameT
            simp
theorem flat_len : ∀ k : List Pst, k.length ≤ (k.flatMap stepT).length
  | [] => Nat.le_refl _
  | s :: k => by
    have := flat_len k
    show k.length + 1 ≤ (stepT s ++ k.flatMap stepT).length
    rw [List.length_append]
    have : 1 ≤ (stepT s).length := by unfold stepT; simp
    omega
/-- Just the steps that are right are read of their text; what is read is written so. -/
theorem parse_iff (l : List UInt8) (k : List Pst) : parseM l = some k ↔ k.all rightB = true ∧ putP k = l := by
  constructor
  · intro h
    unfold parseM at h
    split at h
    · cases h
    · rename_i hh
      have h36 : l.head? = some 36 := Classical.not_not.1 hh
      obtain ⟨a1, a2⟩ := parse_step _ _ _ h
      refine ⟨a1, ?_⟩
      unfold putP
      rw [if_pos a1, a2]
      cases l with
      | nil => cases h36
      | cons a t =>
        have : a = 36 := by simpa using h36
        rw [this]
        rfl
  · rintro ⟨h1, h2⟩
    unfold putP at h2
    rw [if_pos h1] at h2
    subst h2
    unfold parseM
    rw [if_neg (by simp)]
    have := flat_len k
    exact step_put _ k (by rw [List.length_cons]; omega) h1
theorem put_inj {k m : List Pst} (hk : k.all rightB = true) (hm : m.all rightB = true) (h : putP k = putP m) : k = m := by
  have h1 := (parse_iff (putP k) k).2 ⟨hk, rfl⟩
  have h2 := (parse_iff (putP k) m).2 ⟨hm, h.symm⟩
  rw [h1] at h2
  injection h2

end Go.Proofs.Ytclcjngdpicjjaa

namespace Go.Proofs.Ytclcjngdpicjjaa
open Go.RowKit
set_option linter.unusedVariables false

/-- How elements lie in a slice: their type, the slices' type, how many cells and bytes each takes, and which. -/
structure RowK (α : Type) where
  T : TypeId
  S : TypeId
  n : Nat
  bytes : Nat
  zero : Value
  enc : α → List Value
  pos : 0 < n
  len : ∀ a, (enc a).length = n
  one : ∀ a, ∀ u ∈ enc a, u.oneCell' = true
  under : Try.prog.underlying S = some (.slice T)
  info : (Try.prog.info? T).map (fun i => (i.zero, i.size, i.bytes)) = some (some zero, n, bytes)
  zlen : zero.cells.size = n
  small : bytes ≤ 1000

section
variable {α : Type} (K : RowK α)
/-- The cells of elements, one behind the other. -/
def RowK.all : List α → List Value
  | [] => []
  | a :: t => K.enc a ++ RowK.all t
theorem RowK.all_len : ∀ l : List α, (K.all l).length = l.length * K.n
  | [] => by simp [RowK.all]
  | a :: t => by simp [RowK.all, K.len, RowK.all_len t, Nat.add_mul]; omega
theorem RowK.all_append : ∀ l m : List α, K.all (l ++ m) = K.all l ++ K.all m
  | [], m => rfl
  | a :: t, m => by simp [RowK.all, RowK.all_append t m]
theorem RowK.all_one : ∀ l : List α, ∀ u ∈ K.all l, u.oneCell' = true
  | [], u, h => by cases h
  | a :: t, u, h => by
    rcases List.mem_append.1 h with h | h
    · exact K.one a u h
    · exact RowK.all_one t u h
theorem RowK.all_at : ∀ (l : List α) (i : Nat) (a : α), l[i]? = some a → ∀ j, j < K.n → (K.all l)[i * K.n + j]? = (K.enc a)[j]?
  | [], i, a, h => by cases h
  | u :: t, 0, a, h => by
    intro j hj
    obtain rfl : u = a := by simpa using h
    show (K.enc u ++ K.all t)[0 * K.n + j]? = _
    rw [Nat.zero_mul, Nat.zero_add, List.getElem?_append_left (by rw [K.len]; exact hj)]
  | u :: t, i + 1, a, h => by
    intro j hj
    have := RowK.all_at t i a (by simpa using h) j hj
    rw [← this]
    show (K.enc u ++ K.all t)[(i + 1) * K.n + j]? = _
    rw [List.getElem?_append_right (by rw [K.len, Nat.add_mul]; omega), K.len]
    congr 1
    rw [Nat.add_mul]
    omega
theorem RowK.all_take : ∀ (l : List α) (k : Nat), K.all (l.take k) = (K.all l).take (k * K.n)
  | [], k => by simp [RowK.all]
  | a :: t, 0 => by simp [RowK.all]
  | a :: t, k + 1 => by
    rw [List.take_succ_cons]
    show K.enc a ++ K.all (t.take k) = (K.enc a ++ K.all t).take ((k + 1) * K.n)
    have e1 : (K.enc a).take ((k + 1) * K.n) = K.enc a := List.take_of_length_le (by rw [K.len, Nat.add_mul]; omega)
    have e2 : (k + 1) * K.n - K.n = k * K.n := by rw [Nat.add_mul]; omega
    rw [RowK.all_take t k, List.take_append, K.len, e1, e2]

/-- What a slice of such elements reads as. -/
def RdG (w : World) (A : Option Addr) (m : Nat) (l : List α) : Prop :=
  l.length = m ∧ (0 < m → ∃ b o : Nat, A = some ⟨b, o, none⟩ ∧ b < w.heap.size ∧ ∀ j u, (K.all l)[j]? = some u → w.cell? ⟨b, o + j, none⟩ = some u)
/-- A slice of such elements of the call's own: its block is none below base. -/
def GRow (w : World) (base : Nat) (v : Value) (l : List α) : Prop := w.ownsRow base K.T K.n v l.length (K.all l)

variable {K} {w w' : World} {base : Nat} {v : Value} {l : List α}
theorem GRow.nil (w : World) (base : Nat) : GRow K w base (.slice none 0 0) [] := ⟨by simp [RowK.all], .inl ⟨rfl, rfl⟩⟩
theorem GRow.form (h : GRow K w base v l) : ∃ A c, v = .slice A l.length c ∧ l.length ≤ c ∧ c ≤ maxLen ∧ (0 < l.length → ∃ g, A = some ⟨g, 0, none⟩ ∧ base ≤ g ∧ g < w.heap.size) := by
  rcases h.2 with ⟨rfl, h0⟩ | ⟨g, c, cur, rfl, hb, hg, h1, h2, _⟩
  · exact ⟨none, 0, by rw [h0], by omega, by decide, fun h => by omega⟩
  · exact ⟨_, c, rfl, h1, h2, fun _ => ⟨g, rfl, hb, (Array.getElem?_eq_some_iff.1 hg).1⟩⟩
theorem GRow.stay (h : GRow K w base v l) (hk : ∀ g, v.ownBlock = some g → w'.heap[g]? = w.heap[g]?) : GRow K w' base v l := by
  refine ⟨h.1, ?_⟩
  rcases h.2 with hn | ⟨g, c, cur, rfl, hbg, hg, rest⟩
  · exact .inl hn
  · exact .inr ⟨g, c, cur, rfl, hbg, (hk g rfl).trans hg, rest⟩
theorem GRow.low (h : GRow K w base v l) {g : Nat} (hg : v.ownBlock = some g) : base ≤ g ∧ g < w.heap.size := by
  rcases h.2 with ⟨rfl, _⟩ | ⟨g', c, cur, rfl, hb, hh, _⟩
  · cases hg
  · obtain rfl : g' = g := by simpa [Value.ownBlock] using hg
    exact ⟨hb, (Array.getElem?_eq_some_iff.1 hh).1⟩
theorem GRow.mono {B : Nat} (h : GRow K w base v l) (hB : B ≤ base) : GRow K w B v l := by
  refine ⟨h.1, ?_⟩
  rcases h.2 with hn | ⟨g, c, cur, rfl, hbg, rest⟩
  · exact .inl hn
  · exact .inr ⟨g, c, cur, rfl, by omega, rest⟩
theorem GRow.rd {A : Option Addr} {m c : Nat} (h : GRow K w base (.slice A m c) l) : RdG K w A l.length l := by
  refine ⟨rfl, fun hn => ?_⟩
  rcases h.2 with ⟨hv, h0⟩ | ⟨g, c', cur, hv, hb, hg, _⟩
  · omega
  · injection hv with hA hn' hc
    subst hA hn' hc
    have hc := h.cells (g := g) rfl
    refine ⟨g, 0, rfl, (Array.getElem?_eq_some_iff.1 hg).1, fun j u hu => ?_⟩
    have := hc j u hu
    rwa [add_none] at this
/-- An element's cells. -/
theorem RdG.at {A : Option Addr} {m : Nat} (h : RdG K w A m l) {b o : Nat} (hA : A = some ⟨b, o, none⟩) {i : Nat} {a : α} (ha : l[i]? = some a) {j : Nat} {u : Value} (hu : (K.enc a)[j]? = some u) : w.cell? ⟨b, o + (i * K.n + j), none⟩ = some u := by
  have hi : i < l.length := (List.getElem?_eq_some_iff.1 ha).1
  obtain ⟨b', o', e, _, hc⟩ := h.2 (by have := h.1; omega)
  rw [hA] at e
  injection e with e
  injection e with e1 e2
  subst e1 e2
  have hj : j < K.n := by
    have := (List.getElem?_eq_some_iff.1 hu).1
    rwa [K.len] at this
  exact hc _ _ ((K.all_at l i a ha j hj).trans hu)
/-- Elements just made. -/
theorem GRow.made (w : World) (cs : Array Value) (hc : cs = (K.all l).toArray) (hl : l.length ≤ maxLen) (hb : base ≤ w.heap.size) : GRow K (w.alloc (.cells cs K.T)) base (.slice (some ⟨w.heap.size, 0, none⟩) l.length l.length) l := by
  subst hc
  refine ⟨K.all_len l, .inr ⟨w.heap.size, l.length, _, rfl, hb, heap_alloc_new w _, Nat.le_refl _, hl, by simp [K.all_len], ?_⟩⟩
  rw [List.take_of_length_le]
  simp [K.all_len]
/-- Cut off behind the first k. -/
theorem GRow.cut {A : Option Addr} {m c k : Nat} (h : GRow K w base (.slice A m c) l) (hk : k ≤ l.length) : GRow K w base (.slice A k c) (l.take k) := by
  have hl : (l.take k).length = k := by simp; omega
  unfold GRow at h ⊢
  rw [hl]
  refine ⟨by rw [K.all_len, hl], ?_⟩
  rcases h.2 with ⟨hv, h0⟩ | ⟨g, c', cur, hv, hb, hg, h1, h2, h3, h4⟩
  · injection hv with hA hm hc
    obtain rfl : k = 0 := by omega
    exact .inl ⟨by rw [hA, hc], rfl⟩
  · injection hv with hA hm hc
    refine .inr ⟨g, c', cur, by rw [hA, hc], hb, hg, by omega, h2, h3, ?_⟩
    rw [K.all_take, ← h4, List.take_take, Nat.min_eq_left (Nat.mul_le_mul_right _ hk)]
/-- One element of one cell written over. -/
theorem GRow.put {g m c i : Nat} {a : α} {u : Value} (h1 : K.n = 1) (h : GRow K w base (.slice (some ⟨g, 0, none⟩) m c) l) (hi : i < l.length) (hu : K.enc a = [u]) : GRow K (w.setCell ⟨g, i, none⟩ u) base (.slice (some ⟨g, 0, none⟩) m c) (l.set i a) := by
  have hset : ∀ (l : List α) (i : Nat), i < l.length → K.all (l.set i a) = (K.all l).set i u := by
    intro l
    induction l with
    | nil => intro i h; simp at h
    | cons b t ih =>
      intro i hi
      obtain ⟨x, hx⟩ : ∃ x, K.enc b = [x] := by
        have := K.len b
        rw [h1] at this
        exact List.length_eq_one_iff.1 this
      cases i with
      | zero => show K.enc a ++ K.all t = (K.enc b ++ K.all t).set 0 u; rw [hu, hx]; rfl
      | succ i =>
        show K.enc b ++ K.all (t.set i a) = (K.enc b ++ K.all t).set (i + 1) u
        rw [hx, ih i (by simpa using hi)]; rfl
  unfold GRow at h ⊢
  rw [List.length_set, hset l i hi]
  refine ⟨by rw [List.length_set]; exact h.1, ?_⟩
  rcases h.2 with ⟨hv, h0⟩ | ⟨g', c', cur, hv, hb, hg, g1, g2, g3, g4⟩
  · cases hv
  · injection hv with hA hm hc
    injection hA with hA
    injection hA with hA
    subst hA
    refine .inr ⟨g, c', cur.setIfInBounds i u, by rw [hm, hc], hb, ?_, g1, g2, by simpa using g3, ?_⟩
    · simp [World.setCell, Array.getElem?_modify, hg]
    · rw [Array.toList_setIfInBounds, List.take_set, g4]

theorem GRow.free {g m c : Nat} (h : GRow K w base (.slice (some ⟨g, 0, none⟩) m c) l) (i : Nat) : w.frozen? ⟨g, i, none⟩ = false := by
  rcases h.2 with ⟨hv, h0⟩ | ⟨g', c', cur, hv, hb, hg, _⟩
  · cases hv
  · injection hv with hA hm hc
    injection hA with hA
    injection hA with hA
    subst hA
    simp [World.frozen?, hg]

theorem run_row_append (w : World) (base : Nat) (ty : TypeId) (v : Value) (l : List α) (hown : GRow K w base v l) (A : Option Addr) (m c : Nat) (news : List α) (hr : RdG K w A m news)
    (h63 : l.length + m ≤ 1000000000) (hbase : base ≤ w.heap.size) :
    ∃ v' w', (Builtin.append_ #[K.S, K.S] ty #[v, .slice A m c]).run Try.prog w = .ok v' w' ∧ GRow K w' base v' (l ++ news) ∧ w.grownBy w' v.ownBlock ∧ (v'.ownBlock = v.ownBlock ∨ v'.ownBlock = some w.heap.size) := by
  obtain ⟨i, hi, hz, hsize, hby⟩ := info_parts K.info
  have hl : (l ++ news).length = l.length + m := by rw [List.length_append, hr.1]
  cases A with
  | none =>
    have hm : m = 0 := by
      by_cases h : 0 < m
      · obtain ⟨b, o, e, _⟩ := hr.2 h
        cases e
      · omega
    subst hm
    obtain rfl : news = [] := List.eq_nil_of_length_eq_zero hr.1
    refine ⟨v, w, ?_, by simpa using hown, ⟨rfl, rfl, rfl, Nat.le_refl _, fun _ _ _ => rfl⟩, .inl rfl⟩
    have ht := K.under
    rcases hown.2 with ⟨rfl, h0⟩ | ⟨g, cap, cur, rfl, _, _, hnc, _⟩
    · simp [Builtin.append_, run_underlying ht, sizeOf, typeInfo, hi, Builtin.lenOf, Builtin.firstCells]
    · simp [Builtin.append_, run_underlying ht, sizeOf, typeInfo, hi, Builtin.lenOf, Builtin.firstCells, hnc, storeCells]
  | some ad =>
    have hc : ∀ j u, (K.all news)[j]? = some u → w.cell? (ad.add j) = some u := by
      intro j u hu
      have hm : 0 < m := by
        have h1 := hr.1
        have h2 := (List.getElem?_eq_some_iff.1 hu).1
        rw [K.all_len] at h2
        rcases Nat.eq_zero_or_pos news.length with h | h
        · rw [h] at h2; simp at h2
        · omega
      obtain ⟨b, o, e, _, h⟩ := hr.2 hm
      have e' : ad = ⟨b, o, none⟩ := Option.some.inj e
      rw [e', add_none]
      exact h j u hu
    have hbytes : (l.length + m) * K.bytes ≤ 140737488355328 := by
      have := Nat.mul_le_mul h63 K.small
      omega
    obtain ⟨v', w', h1, h2, h3, _, h5⟩ := run_append_own_at (P := Try.prog) w base K.S ty K.T i _ K.n K.bytes K.under hi hz hsize hby K.zlen K.pos v l.length (K.all l) hown ad m c (K.all news) (by rw [K.all_len, hr.1]) hc (K.all_one news) (by unfold maxLen; omega) hbytes hbase
    refine ⟨v', w', h1, ?_, h3, h5⟩
    unfold GRow
    rw [hl, K.all_append]
    exact h2

/-- Appending elements. -/
theorem row_append {ops : Array Oper} {rest : List Oper} {o : Oper} {a : Act} {Q : Exit → Act → World → Prop} (w : World) (hgd : o.guard = none) (s x : Operand) (ho : o.op = .call { callee := .builtin .append, args := #[s, x], argTypes := #[K.S, K.S] })
    (base : Nat) (v : Value) (l : List α) (hs : a.eval s = v) (hown : GRow K w base v l) (A : Option Addr) (m c : Nat) (news : List α) (hx : a.eval x = .slice A m c) (hr : RdG K w A m news)
    (h63 : l.length + m ≤ 1000000000) (hbase : base ≤ w.heap.size)
    (h : ∀ v' w', GRow K w' base v' (l ++ news) → w.grownBy w' v.ownBlock → (v'.ownBlock = v.ownBlock ∨ v'.ownBlock = some w.heap.size) → wpList Try.prog ops Q rest (a.put o.dst v') w') : wpList Try.prog ops Q (o :: rest) a w :=
  wpList_plain hgd fun _ hK => by
    obtain ⟨v', w', hrun, h2, h3, h5⟩ := run_row_append w base o.type v l hown A m c news hr h63 hbase
    unfold Oper.wp execOp
    simp only [ho, resolve, invoke, builtin, Sem.run_bind, Sem.run_pure, Result.andThen_ok, List.map_toArray, List.map_cons, List.map_nil, hs, hx, hrun]
    exact hK _ _ (h v' w' h2 h3 h5)
end

end Go.Proofs.Ytclcjngdpicjjaa

namespace Go.Proofs.Ytclcjngdpicjjaa
open Go.RowKit
set_option linter.unusedVariables false

/-- For which byte an escape stands, and how many bytes it has; 0: it is none. -/
def escD (l : List UInt8) : UInt8 × Nat :=
  match l with
  | 92 :: 117 :: 48 :: 48 :: a :: b :: _ => match hexB a, hexB b with
    | some x, some y => (UInt8.ofNat (x * 16 + y).toNat, 6)
    | _, _ => (0, 0)
  | _ => (0, 0)
def escC (l : List UInt8) : UInt8 × Nat := if letN (l.getD 1 0) ≠ 0 then (letN (l.getD 1 0), 2) else escD l
/-- A name from behind its mark on: what it is, and what stands behind its last mark. -/
def nameC : Nat → List UInt8 → List UInt8 → Option (List UInt8 × List UInt8)
  | 0, _, _ => none
  | f + 1, l, acc => if l = [] then none else if l.head? = some 39 then some (acc, l.tail) else if l.head? = some 92 then (if (escC l).2 = 0 then none else nameC f (l.drop (escC l).2) (acc ++ [(escC l).1])) else nameC f l.tail (acc ++ [l.headD 0])
theorem nameC_on (f : Nat) (l acc : List UInt8) : nameC (f + 1) l acc = if l = [] then none else if l.head? = some 39 then some (acc, l.tail) else if l.head? = some 92 then (if (escC l).2 = 0 then none else nameC f (l.drop (escC l).2) (acc ++ [(escC l).1])) else nameC f l.tail (acc ++ [l.headD 0]) := rfl
/-- How many digits a text begins with. -/
def runD : List UInt8 → Nat
  | [] => 0
  | c :: t => if digB c then runD t + 1 else 0
def indexC (l : List UInt8) : Option (Int × List UInt8) := match Lib.atoiAll (l.take (runD l)) with
  | .ok v => some (v, l.drop (runD l))
  | _ => none
def innerC (l : List UInt8) : Option (Pst × List UInt8) :=
  if l.head? = some 39 then (nameC l.length l.tail []).map fun p => (⟨true, p.1, 0⟩, p.2) else (indexC l).map fun p => (⟨false, [], p.1⟩, p.2)
/-- The step with which a text begins, and what stands behind it. -/
def cutC (l : List UInt8) : Option (Pst × List UInt8) :=
  if l.head? ≠ some 91 then none else (innerC l.tail).bind fun p => if p.2.head? ≠ some 93 then none else some (p.1, p.2.tail)

theorem runD_le : ∀ l, runD l ≤ l.length
  | [] => Nat.le_refl _
  | c :: t => by
    have := runD_le t
    unfold runD
    split
    · simpa using this
    · simp
theorem runD_app : ∀ (ds r : List UInt8), (∀ c ∈ ds, digB c = true) → runD (ds ++ r) = ds.length + runD r
  | [], r, _ => by simp
  | c :: t, r, h => by
    rw [List.cons_append, runD, if_pos (h c (by simp)), runD_app t r (fun x hx => h x (by simp [hx])), List.length_cons]
    omega
theorem digN_all (v : Nat) : ∀ c ∈ digN v, digB c = true := by
  induction v using Nat.strongRecOn with
  | ind v ih =>
    intro c hc
    by_cases h : v < 10
    · rw [digN_one v h] at hc
      obtain rfl := List.mem_singleton.1 hc
      exact digB_of v h
    · rw [digN_more v h] at hc
      rcases List.mem_append.1 hc with hc | hc
      · exact ih _ (by omega) c hc
      · obtain rfl := List.mem_singleton.1 hc
        exact digB_of _ (by omega)
theorem valD_mono : ∀ (ds : List UInt8) (a : Nat), a ≤ valD ds a
  | [], a => Nat.le_refl _
  | c :: t, a => by
    have := valD_mono t (a * 10 + (c.toNat - 48))
    show a ≤ valD t (a * 10 + (c.toNat - 48))
    omega
theorem uint_val : ∀ (ds : List UInt8) (a : Nat), (∀ c ∈ ds, digB c = true) → valD ds a < 18446744073709551616 → Lib.parseUint10 a ds = .ok (valD ds a)
  | [], a, _, _ => rfl
  | c :: t, a, h, hv => by
    have hc := h c (by simp)
    unfold digB at hc
    have hc := of_decide_eq_true hc
    have hm := valD_mono t (a * 10 + (c.toNat - 48))
    have hv : valD t (a * 10 + (c.toNat - 48)) < 18446744073709551616 := hv
    rw [Lib.parseUint10, if_pos hc, if_neg (by omega), if_neg (by omega), uint_val t _ (fun x hx => h x (by simp [hx])) hv]
    rfl
theorem atoi_dig (v : Nat) (hv : v ≤ 9007199254740991) : Lib.atoiAll (digN v) = .ok v := by
  have hp := digN_pos v
  have ha := digN_all v
  have hval : valD (digN v) 0 = v := by
    obtain ⟨ds, d1, d2, d3, d4⟩ := num_run (digN v).length (digN v) 0 0 _ _ _ rfl
    have h := num_digits v (digN v).length 0 [] (Nat.le_refl _)
    rw [List.append_nil, Nat.sub_self] at h
    have e : numGo 0 [] v (0 + (digN v).length) = (v, 0 + (digN v).length, []) := rfl
    rw [e] at h
    obtain ⟨ds, d1, d2, d3, d4⟩ := num_run _ _ _ _ _ _ _ h
    rw [List.append_nil] at d1
    rw [d1]
    exact d4.symm
  have hu := uint_val (digN v) 0 ha (by rw [hval]; omega)
  rw [hval] at hu
  have hm : Lib.parseMag (digN v) = .ok v := by
    unfold Lib.parseMag
    rw [if_neg (by intro e; rw [e] at hp; simp at hp)]
    exact hu
  cases hd : digN v with
  | nil => rw [hd] at hp; simp at hp
  | cons c t =>
    have hc := ha c (by rw [hd]; simp)
    unfold digB at hc
    have hc := of_decide_eq_true hc
    rw [hd] at hm
    unfold Lib.atoiAll
    simp only []
    rw [if_neg (by omega), hm]
    simp only []
    rw [if_neg (by omega), if_neg (by omega), if_neg (by omega)]
theorem index_back (v : Nat) (hv : v ≤ 9007199254740991) (rest : List UInt8) (hr : runD rest = 0) : indexC (digN v ++ rest) = some ((v : Int), rest) := by
  unfold indexC
  rw [runD_app _ _ (digN_all v), hr, Nat.add_zero, List.take_left, List.drop_left, atoi_dig v hv]

theorem nameC_plain : ∀ (p rest acc : List UInt8) (f : Nat), (∀ c ∈ p, c ≠ 39 ∧ c ≠ 92) → nameC (f + p.length) (p ++ rest) acc = nameC f rest (acc ++ p)
  | [], rest, acc, f, _ => by simp
  | c :: t, rest, acc, f, h => by
    obtain ⟨h1, h2⟩ := h c (by simp)
    have e : f + (c :: t).length = (f + t.length) + 1 := by simp; omega
    rw [e, nameC_on, if_neg (by simp), if_neg (by simp [h1]), if_neg (by simp [h2])]
    show nameC (f + t.length) (t ++ rest) (acc ++ [c]) = _
    rw [nameC_plain t rest _ f (fun x hx => h x (by simp [hx])), List.append_assoc]
    rfl
theorem nameC_fuel : ∀ (f g : Nat) (l acc : List UInt8) (r : List UInt8 × List UInt8), nameC f l acc = some r → f ≤ g → nameC g l acc = some r
  | 0, g, l, acc, r, h, _ => by cases h
  | f + 1, g, l, acc, r, h, hg => by
    obtain ⟨g, rfl⟩ : ∃ k, g = k + 1 := ⟨g - 1, by omega⟩
    rw [nameC_on] at h ⊢
    split at h
    · cases h
    rename_i h1
    rw [if_neg h1]
    split at h
    · rename_i h2; rw [if_pos h2]; exact h
    rename_i h2
    rw [if_neg h2]
    split at h
    · rename_i h3
      rw [if_pos h3]
      split at h
      · cases h
      rename_i h4
      rw [if_neg h4]
      exact nameC_fuel f g _ _ _ h (by omega)
    · rename_i h3
      rw [if_neg h3]
      exact nameC_fuel f g _ _ _ h (by omega)
theorem sgn_high : ∀ (l : List UInt8) (sg lf : Int) (k j : Nat), sgnGo sg lf l k = j → j ≠ 0 → lf ≠ 0 → ∀ c ∈ l.take (j - k), 128 ≤ c.toNat
  | [], sg, lf, k, j, h, hj, _ => absurd h.symm hj
  | c :: t, sg, lf, k, j, h, hj, hl => by
    have hs := sgn_split _ _ _ _ _ h hj
    have e : j - k = (j - (k + 1)) + 1 := by omega
    rw [e, List.take_succ_cons]
    have h' : (if okU sg lf c.toNat then (if lfU lf c.toNat = 0 then k + 1 else sgnGo (sgU sg lf c.toNat) (lfU lf c.toNat) t (k + 1)) else 0) = j := h
    split at h'
    · rename_i hok
      have hc : 128 ≤ c.toNat := by
        unfold okU at hok
        rw [if_neg hl] at hok
        have := of_decide_eq_true hok
        unfold lowU at this
        have h1 := this.1
        (repeat' split at h1) <;> omega
      intro x hx
      rcases List.mem_cons.1 hx with rfl | hx
      · exact hc
      split at h'
      · rename_i hz
        have : j - (k + 1) = 0 := by omega
        rw [this] at hx
        simp at hx
      · rename_i hz
        exact sgn_high t _ _ _ _ h' hj hz x hx
    · exact absurd h'.symm hj
theorem sgn_bytes (c : UInt8) (t : List UInt8) (n : Nat) (h : sgnL (c :: t) = n) (h0 : n ≠ 0) : ∀ x ∈ t.take (n - 1), 128 ≤ x.toNat := by
  rw [sgn_cons] at h
  split at h
  · split at h
    · intro x hx
      rw [← h] at hx
      simp at hx
    · rename_i hz
      exact sgn_high t _ _ 1 n h h0 hz
  · exact absurd h.symm h0
theorem escD_low : ∀ n : Fin 32, escD (ctlN (UInt8.ofNat n)) = (UInt8.ofNat n, 6) := by decide +kernel
theorem escD_app (a b : UInt8) (rest : List UInt8) : escD (92 :: 117 :: 48 :: 48 :: a :: b :: rest) = escD [92, 117, 48, 48, a, b] := rfl
theorem esc_ctl (c : UInt8) (h : c.toNat < 32) (rest : List UInt8) : escC (ctlN c ++ rest) = (c, 6) := by
  have e : ctlN c ++ rest = 92 :: 117 :: 48 :: 48 :: lowB (c.toNat / 16) :: lowB (c.toNat % 16) :: rest := rfl
  have := escD_low ⟨c.toNat, h⟩
  simp only [UInt8.ofNat_toNat] at this
  unfold escC
  have h1 : letN ((ctlN c ++ rest).getD 1 0) = 0 := rfl
  rw [h1, if_neg (by decide), e, escD_app]
  exact this
theorem esc_let2 (c : UInt8) (h : escN c ≠ 0) (rest : List UInt8) : escC (92 :: escN c :: rest) = (c, 2) := by
  have hl := let_esc h
  unfold escC
  rw [show ((92 : UInt8) :: escN c :: rest).getD 1 0 = escN c from rfl, hl, if_pos]
  rcases escN_cases h with rfl | rfl | rfl | rfl | rfl | rfl | rfl <;> decide

set_option maxRecDepth 100000 in
theorem nameC_back : ∀ (k : Nat) (m acc rest : List UInt8), m.length ≤ k → badU m = -1 → ∃ f, nameC f (nameM m ++ 39 :: rest) acc = some (acc ++ m, rest)
  | k, [], acc, rest, _, _ => ⟨1, by rw [nameC_on, if_neg (by simp [nameM, nameGo]), if_pos (show (nameM [] ++ 39 :: rest).head? = some 39 from rfl), List.append_nil]; rfl⟩
  | 0, _ :: _, _, _, h, _ => by simp at h
  | k + 1, c :: t, acc, rest, hl, hb => by
    obtain ⟨h0, hd⟩ := sgn_good (c :: t) 0 0 0 stU_zero hb (.inl (by simp))
    have h0 : sgnL (c :: t) ≠ 0 := h0
    have hd : badU ((c :: t).drop (sgnL (c :: t) - 0)) = -1 := hd
    rw [Nat.sub_zero] at hd
    obtain ⟨n, hn⟩ : ∃ n, sgnL (c :: t) = n := ⟨_, rfl⟩
    rw [hn] at h0 hd
    have hg : goOn n = n := if_neg h0
    have hs := sgnL_take hn h0 []
    obtain ⟨f, hf⟩ := nameC_back k ((c :: t).drop n) (acc ++ (c :: t).take n) rest (by rw [List.length_drop]; simp at hl ⊢; omega) hd
    rw [List.append_assoc, List.take_append_drop] at hf
    have e : nameM (c :: t) ++ 39 :: rest = pieceM (c :: t) n ++ (nameM ((c :: t).drop n) ++ 39 :: rest) := by rw [nameM_cons, hn, hg, List.append_assoc]
    rw [e, pieceM_cons, if_neg h0]
    generalize nameM ((c :: t).drop n) ++ 39 :: rest = R at *
    by_cases he : escN c ≠ 0
    · rw [if_pos he]
      have hc := escN_cases he
      have hn1 : n = 1 := by
        rw [← hn]
        exact sgn_small c t (by rcases hc with rfl | rfl | rfl | rfl | rfl | rfl | rfl <;> decide)
      subst hn1
      have he2 := esc_let2 c he R
      refine ⟨f + 1, ?_⟩
      show nameC (f + 1) (92 :: escN c :: R) acc = _
      rw [nameC_on, if_neg (by simp), if_neg (by simp), if_pos (show (92 :: escN c :: R).head? = some 92 from rfl), he2, if_neg (by show ¬ (2 : Nat) = 0; decide)]
      exact hf
    rw [if_neg he]
    have he := Classical.not_not.1 he
    by_cases hlt : c.toNat < 32
    · rw [if_pos hlt]
      have hn1 : n = 1 := by rw [← hn]; exact sgn_small c t (by omega)
      subst hn1
      have he2 := esc_ctl c hlt R
      refine ⟨f + 1, ?_⟩
      rw [nameC_on, if_neg (by simp [ctlN]), if_neg (by simp [ctlN]), if_pos (by simp [ctlN]), he2, if_neg (by show ¬ (6 : Nat) = 0; decide)]
      exact hf
    · rw [if_neg hlt]
      refine ⟨f + ((c :: t).take n).length, ?_⟩
      rw [nameC_plain _ _ _ _ ?_]
      · exact hf
      obtain ⟨m, rfl⟩ : ∃ m, n = m + 1 := ⟨n - 1, by omega⟩
      intro x hx
      rw [List.take_succ_cons] at hx
      rcases List.mem_cons.1 hx with rfl | hx
      · exact ⟨by rintro rfl; exact absurd he (by decide), by rintro rfl; exact absurd he (by decide)⟩
      · have := sgn_bytes c t _ hn h0 x hx
        exact ⟨by rintro rfl; exact absurd this (by decide), by rintro rfl; exact absurd this (by decide)⟩
/-- With as much fuel as the text has bytes, and one more, it never runs out. -/
theorem nameC_full : ∀ (g f : Nat) (l acc : List UInt8) (r : List UInt8 × List UInt8), nameC g l acc = some r → l.length < f → nameC f l acc = some r
  | 0, f, l, acc, r, h, _ => by cases h
  | g + 1, f, l, acc, r, h, hf => by
    obtain ⟨f, rfl⟩ : ∃ k, f = k + 1 := ⟨f - 1, by omega⟩
    rw [nameC_on] at h ⊢
    split at h
    · cases h
    rename_i h1
    have hl : 0 < l.length := List.length_pos_iff.2 h1
    rw [if_neg h1]
    split at h
    · rename_i h2; rw [if_pos h2]; exact h
    rename_i h2
    rw [if_neg h2]
    split at h
    · rename_i h3
      rw [if_pos h3]
      split at h
      · cases h
      rename_i h4
      rw [if_neg h4]
      exact nameC_full g f _ _ _ h (by rw [List.length_drop]; omega)
    · rename_i h3
      rw [if_neg h3]
      exact nameC_full g f _ _ _ h (by rw [List.length_tail]; omega)
theorem cut_step (s : Pst) (hr : rightB s = true) (K : List UInt8) : cutC (stepT s ++ K) = some (s, K) := by
  cases hn : s.named
  · obtain ⟨e1, e2, e3⟩ := right_index hr hn
    obtain ⟨v, hv⟩ := Int.eq_ofNat_of_zero_le e2
    have e4 : stepT s ++ K = 91 :: (digN v ++ 93 :: K) := by
      show 91 :: ((if s.named then nameT s.name else digN s.index.toNat) ++ [93]) ++ K = _
      rw [hn, if_neg (by decide), hv, Int.toNat_natCast]
      simp
    have hp := digN_pos v
    have hdh : (digN v ++ 93 :: K).head? ≠ some 39 := by
      rw [head_app (by intro e; rw [e] at hp; simp at hp)]
      intro hh
      have := digN_all v 39 (List.mem_of_head? hh)
      exact absurd this (by decide)
    have hi := index_back v (by omega) (93 :: K) rfl
    rw [e4]
    unfold cutC
    rw [if_neg (by simp)]
    show (innerC (digN v ++ 93 :: K)).bind _ = _
    unfold innerC
    rw [if_neg hdh, hi]
    show (if (93 :: K).head? ≠ some 93 then none else some ((⟨false, [], (v : Int)⟩ : Pst), K)) = _
    rw [if_neg (by simp), ← hv, ← e1]
  · obtain ⟨e1, hb⟩ := right_name hr hn
    have e4 : stepT s ++ K = 91 :: 39 :: (nameM s.name ++ 39 :: 93 :: K) := by
      show 91 :: ((if s.named then nameT s.name else digN s.index.toNat) ++ [93]) ++ K = _
      rw [hn, if_pos rfl]
      unfold nameT
      simp
    obtain ⟨f, hf⟩ := nameC_back s.name.length s.name [] (93 :: K) (Nat.le_refl _) hb
    have hf2 := nameC_full f (39 :: (nameM s.name ++ 39 :: 93 :: K)).length _ _ _ hf (by simp)
    rw [e4]
    unfold cutC
    rw [if_neg (by simp)]
    show (innerC (39 :: (nameM s.name ++ 39 :: 93 :: K))).bind _ = _
    unfold innerC
    rw [if_pos (show (39 :: (nameM s.name ++ 39 :: 93 :: K)).head? = some 39 from rfl), show (39 :: (nameM s.name ++ 39 :: 93 :: K)).tail = nameM s.name ++ 39 :: 93 :: K from rfl, hf2]
    show (if (93 :: K).head? ≠ some 93 then none else some ((⟨true, [] ++ s.name, 0⟩ : Pst), K)) = _
    rw [if_neg (by simp), List.nil_append, ← e1]

/-- The steps of which a text is made, as package path reads them. -/
def stepsC : Nat → List UInt8 → Option (List Pst)
  | 0, _ => none
  | f + 1, l => if l = [] then some [] else (cutC l).bind fun p => (stepsC f p.2).map fun k => p.1 :: k
theorem stepsC_on (f : Nat) (l : List UInt8) : stepsC (f + 1) l = if l = [] then some [] else (cutC l).bind fun p => (stepsC f p.2).map fun k => p.1 :: k := rfl
theorem steps_back : ∀ (k : List Pst) (f : Nat), k.all rightB = true → (k.flatMap stepT).length < f → stepsC f (k.flatMap stepT) = some k
  | [], f, _, h => by
    obtain ⟨f, rfl⟩ : ∃ g, f = g + 1 := ⟨f - 1, by omega⟩
    rfl
  | s :: k, f, hr, h => by
    obtain ⟨f, rfl⟩ : ∃ g, f = g + 1 := ⟨f - 1, by omega⟩
    simp only [List.all_cons, Bool.and_eq_true] at hr
    have e : (s :: k).flatMap stepT = stepT s ++ k.flatMap stepT := rfl
    rw [e] at h ⊢
    have hne : stepT s ++ k.flatMap stepT ≠ [] := by unfold stepT; simp
    rw [stepsC_on, if_neg hne, cut_step s hr.1]
    show (stepsC f (k.flatMap stepT)).map _ = _
    have hl : 1 ≤ (stepT s).length := by unfold stepT; simp
    rw [steps_back k f hr.2 (by rw [List.length_append] at h; omega)]
    rfl

end Go.Proofs.Ytclcjngdpicjjaa
