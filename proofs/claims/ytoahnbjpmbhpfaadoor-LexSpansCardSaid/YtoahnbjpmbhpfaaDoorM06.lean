/- Strings as plain mathematics: the string of a text, piece by piece, and reading byte by byte. -/
import Derived.Test.YtoahnbjpmbhpfaaDoorNumB
namespace Go.Proofs.YtoahnbjpmbhpfaaDoor
open Go.RowKit

/-- How many bytes of a text are its first sign, from a state on; 0: none. -/
def sgnGo : Int → Int → List UInt8 → Nat → Nat
  | _, _, [], _ => 0
  | sg, lf, c :: t, k => if okU sg lf c.toNat then (if lfU lf c.toNat = 0 then k + 1 else sgnGo (sgU sg lf c.toNat) (lfU lf c.toNat) t (k + 1)) else 0
def sgnL (l : List UInt8) : Nat := sgnGo 0 0 l 0

/-- The letter of a byte's escape; 0: it has none. -/
def escB (c : UInt8) : UInt8 := if c = 34 then 34 else if c = 92 then 92 else if c = 8 then 98 else if c = 12 then 102 else if c = 10 then 110 else if c = 13 then 114 else if c = 9 then 116 else 0
/-- A number's sign of 16. -/
def lowB (n : Nat) : UInt8 := if n < 10 then UInt8.ofNat (48 + n) else if n < 16 then UInt8.ofNat (87 + n) else 48
def stranger : List UInt8 := [239, 191, 189]
/-- What the string has for a text's first n bytes; n = 0: for one that is no sign. -/
def pieceP (l : List UInt8) (n : Nat) : List UInt8 := match l with
  | [] => []
  | c :: t => if n = 0 then stranger else if escB c ≠ 0 then [92, escB c] else if c.toNat < 32 then [92, 117, 48, 48, lowB (c.toNat / 16), lowB (c.toNat % 16)] else (c :: t).take n
def pieceN (l : List UInt8) (n : Nat) : List UInt8 := if n = 0 then stranger else l.take n
def goOn (n : Nat) : Nat := if n = 0 then 1 else n
def putGo : Nat → List UInt8 → List UInt8
  | 0, _ => []
  | f + 1, l => if l = [] then [] else pieceP l (sgnL l) ++ putGo f (l.drop (goOn (sgnL l)))
def normGo : Nat → List UInt8 → List UInt8
  | 0, _ => []
  | f + 1, l => if l = [] then [] else pieceN l (sgnL l) ++ normGo f (l.drop (goOn (sgnL l)))
def putL (l : List UInt8) : List UInt8 := putGo l.length l
def normL (l : List UInt8) : List UInt8 := normGo l.length l

/-- Where one is in a string. -/
inductive QSt where
  | plain
  | sign (sg lf : Int) (p : List UInt8)
  | esc
  | hex (k : Nat) (v : Int)
  | half (h : Int)
  | hesc (h : Int)
  | hhex (h : Int) (k : Nat) (v : Int)
  | done

def hexB (c : UInt8) : Option Int :=
  if 48 ≤ c.toNat ∧ c.toNat ≤ 57 then some (c.toNat - 48) else if 97 ≤ c.toNat ∧ c.toNat ≤ 102 then some (c.toNat - 87) else if 65 ≤ c.toNat ∧ c.toNat ≤ 70 then some (c.toNat - 55) else none
def letB (c : UInt8) : UInt8 := if c = 34 then 34 else if c = 92 then 92 else if c = 47 then 47 else if c = 98 then 8 else if c = 102 then 12 else if c = 110 then 10 else if c = 114 then 13 else if c = 116 then 9 else 0
def ofB (v : Int) : List UInt8 := (ofI v).map fun x => UInt8.ofNat x.toNat

/-- One byte on: where one is then, and the bytes that are told; none: it doesn't fit. -/
def stepQ : QSt → UInt8 → Option (QSt × List UInt8)
  | .plain, c => if c = 34 then some (.done, []) else if c = 92 then some (.esc, []) else if c.toNat < 32 then none else
      if okU 0 0 c.toNat then (if lfU 0 c.toNat = 0 then some (.plain, [c]) else some (.sign (sgU 0 0 c.toNat) (lfU 0 c.toNat) [c], [])) else none
  | .sign sg lf p, c => if okU sg lf c.toNat then (if lfU lf c.toNat = 0 then some (.plain, p ++ [c]) else some (.sign (sgU sg lf c.toNat) (lfU lf c.toNat) (p ++ [c]), [])) else none
  | .esc, c => if c = 117 then some (.hex 0 0, []) else if letB c = 0 then none else some (.plain, [letB c])
  | .hex k v, c => match hexB c with
    | none => none
    | some d => if k = 1 ∧ 220 ≤ v * 16 + d ∧ v * 16 + d ≤ 223 then none else
        if k = 3 then (if 55296 ≤ v * 16 + d ∧ v * 16 + d ≤ 56319 then some (.half (v * 16 + d), []) else some (.plain, ofB (v * 16 + d))) else some (.hex (k + 1) (v * 16 + d), [])
  | .half h, c => if c = 92 then some (.hesc h, []) else none
  | .hesc h, c => if c = 117 then some (.hhex h 0 0, []) else none
  | .hhex h k v, c => match hexB c with
    | none => none
    | some d => if k = 0 ∧ d ≠ 13 then none else if k = 1 ∧ (v * 16 + d < 220 ∨ 223 < v * 16 + d) then none else
        if k = 3 then some (.plain, ofB (65536 + (h - 55296) * 1024 + (v * 16 + d - 56320))) else some (.hhex h (k + 1) (v * 16 + d), [])
  | .done, _ => none

/-- Reading: the text, and how many bytes; none: the string isn't whole, or there is none. -/
def readQ : QSt → List UInt8 → List UInt8 → Nat → Option (List UInt8 × Nat)
  | _, [], _, _ => none
  | st, c :: t, acc, n => match stepQ st c with
    | none => none
    | some (.done, e) => some (acc ++ e, n + 1)
    | some (st', e) => readQ st' t (acc ++ e) (n + 1)

theorem readQ_on {st st' : QSt} {c : UInt8} {e : List UInt8} (h : stepQ st c = some (st', e)) (hd : st' ≠ .done) (t acc : List UInt8) (n : Nat) : readQ st (c :: t) acc n = readQ st' t (acc ++ e) (n + 1) := by
  conv => lhs; unfold readQ
  rw [h]
  cases st'
  case done => exact absurd rfl hd
  all_goals rfl

theorem step_sign (sg lf : Int) (p : List UInt8) (c : UInt8) : stepQ (.sign sg lf p) c = if okU sg lf c.toNat then (if lfU lf c.toNat = 0 then some (.plain, p ++ [c]) else some (.sign (sgU sg lf c.toNat) (lfU lf c.toNat) (p ++ [c]), [])) else none := rfl
theorem step_plain (c : UInt8) : stepQ .plain c = if c = 34 then some (.done, []) else if c = 92 then some (.esc, []) else if c.toNat < 32 then none else
      if okU 0 0 c.toNat then (if lfU 0 c.toNat = 0 then some (.plain, [c]) else some (.sign (sgU 0 0 c.toNat) (lfU 0 c.toNat) [c], [])) else none := rfl

/-- The bytes p lead from between two signs to this state. -/
def Reach (p : List UInt8) (sg lf : Int) : Prop := StU sg lf ∧ ∀ rest, runU 0 0 (p ++ rest) 0 = runU sg lf rest p.length
theorem reach_nil : Reach [] 0 0 := ⟨stU_zero, fun _ => rfl⟩
theorem reach_step {p : List UInt8} {sg lf : Int} (h : Reach p sg lf) {c : UInt8} (hk : okU sg lf c.toNat = true) : Reach (p ++ [c]) (sgU sg lf c.toNat) (lfU lf c.toNat) :=
  ⟨stU_step h.1 (Int.natCast_nonneg _) hk, fun rest => by
    rw [List.append_assoc, h.2]
    show (if okU sg lf c.toNat then runU _ _ rest (p.length + 1) else _) = _
    rw [if_pos hk]
    simp⟩
theorem reach_whole {p : List UInt8} {sg : Int} (h : Reach p sg 0) : badU p = -1 := by
  have := h.2 []
  rw [List.append_nil] at this
  exact this

theorem bad_cat {l m : List UInt8} (hl : badU l = -1) (hm : badU m = -1) : badU (l ++ m) = -1 := by
  rw [(badU_append l m).1 hl, if_pos hm]
theorem bad_ofB (v : Int) (h0 : 0 ≤ v) (h9 : v ≤ 1114111) (hs : v < 55296 ∨ 57343 < v) : badU (ofB v) = -1 := by
  have := badU_of v h0 h9 hs
  rw [strOfNums_data] at this
  exact this

/-- A sign's bytes, as sgnGo finds them. -/
theorem sgn_split (l : List UInt8) : ∀ (sg lf : Int) (k j : Nat), sgnGo sg lf l k = j → j ≠ 0 → k < j ∧ j ≤ k + l.length := by
  induction l with
  | nil => intro sg lf k j h hj; exact absurd h.symm hj
  | cons c t ih =>
    intro sg lf k j h hj
    unfold sgnGo at h
    split at h
    · split at h
      · simp; omega
      · have := ih _ _ _ _ h hj
        simp
        omega
    · exact absurd h.symm hj

/-- Reading the rest of a sign. -/
theorem read_sign (l : List UInt8) : ∀ (sg lf : Int) (p : List UInt8) (k j : Nat), sgnGo sg lf l k = j → j ≠ 0 → ∀ rest acc n,
    readQ (.sign sg lf p) (l.take (j - k) ++ rest) acc n = readQ .plain rest (acc ++ p ++ l.take (j - k)) (n + (j - k)) := by
  induction l with
  | nil => intro sg lf p k j h hj; exact absurd h.symm hj
  | cons c t ih =>
    intro sg lf p k j h hj rest acc n
    have hs := sgn_split _ _ _ _ _ h hj
    have e : j - k = (j - (k + 1)) + 1 := by omega
    rw [e, List.take_succ_cons, List.cons_append]
    unfold sgnGo at h
    split at h
    · rename_i hok
      split at h
      · rename_i hz
        subst h
        rw [show k + 1 - (k + 1) = 0 by omega, List.take_zero, List.nil_append]
        rw [readQ_on (st' := .plain) (e := p ++ [c]) (by rw [step_sign, if_pos hok, if_pos hz]) (by intro e; cases e)]
        simp
      · rename_i hz
        have := ih _ _ (p ++ [c]) _ _ h hj rest (acc ++ []) (n + 1)
        rw [readQ_on (st' := .sign (sgU sg lf c.toNat) (lfU lf c.toNat) (p ++ [c])) (e := []) (by rw [step_sign, if_pos hok, if_neg hz]) (by intro e; cases e), this]
        simp
        congr 1
        omega
    · exact absurd h.symm hj

theorem sgn_cons (c : UInt8) (t : List UInt8) : sgnL (c :: t) = if okU 0 0 c.toNat then (if lfU 0 c.toNat = 0 then 1 else sgnGo (sgU 0 0 c.toNat) (lfU 0 c.toNat) t 1) else 0 := rfl
theorem sgn_small (c : UInt8) (t : List UInt8) (h : c.toNat < 128) : sgnL (c :: t) = 1 := by
  rw [sgn_cons, if_pos (okU_0 _ (by omega) 0), if_pos (by unfold lfU; (repeat' split) <;> omega)]

theorem esc_cases {c : UInt8} (h : escB c ≠ 0) : c = 34 ∨ c = 92 ∨ c = 8 ∨ c = 12 ∨ c = 10 ∨ c = 13 ∨ c = 9 := by
  unfold escB at h
  (repeat' split at h) <;> first | (exfalso; exact h rfl) | simp_all

theorem hex_low (d : Nat) (h : d < 16) : hexB (lowB d) = some (d : Int) := by
  have : d = 0 ∨ d = 1 ∨ d = 2 ∨ d = 3 ∨ d = 4 ∨ d = 5 ∨ d = 6 ∨ d = 7 ∨ d = 8 ∨ d = 9 ∨ d = 10 ∨ d = 11 ∨ d = 12 ∨ d = 13 ∨ d = 14 ∨ d = 15 := by omega
  rcases this with rfl | rfl | rfl | rfl | rfl | rfl | rfl | rfl | rfl | rfl | rfl | rfl | rfl | rfl | rfl | rfl <;> rfl

theorem step_hex (k : Nat) (v d : Int) (c : UInt8) (h : hexB c = some d) : stepQ (.hex k v) c = if k = 1 ∧ 220 ≤ v * 16 + d ∧ v * 16 + d ≤ 223 then none else
        if k = 3 then (if 55296 ≤ v * 16 + d ∧ v * 16 + d ≤ 56319 then some (QSt.half (v * 16 + d), []) else some (QSt.plain, ofB (v * 16 + d))) else some (QSt.hex (k + 1) (v * 16 + d), []) := by
  show (match hexB c with
    | none => none
    | some d => if k = 1 ∧ 220 ≤ v * 16 + d ∧ v * 16 + d ≤ 223 then none else
        if k = 3 then (if 55296 ≤ v * 16 + d ∧ v * 16 + d ≤ 56319 then some (QSt.half (v * 16 + d), []) else some (QSt.plain, ofB (v * 16 + d))) else some (QSt.hex (k + 1) (v * 16 + d), [])) = _
  rw [h]

theorem step_hex_none (k : Nat) (v : Int) (c : UInt8) (h : hexB c = none) : stepQ (.hex k v) c = none := by simp only [stepQ, h]
theorem step_hhex (g : Int) (k : Nat) (v d : Int) (c : UInt8) (h : hexB c = some d) : stepQ (.hhex g k v) c = if k = 0 ∧ d ≠ 13 then none else if k = 1 ∧ (v * 16 + d < 220 ∨ 223 < v * 16 + d) then none else
        if k = 3 then some (QSt.plain, ofB (65536 + (g - 55296) * 1024 + (v * 16 + d - 56320))) else some (QSt.hhex g (k + 1) (v * 16 + d), []) := by simp only [stepQ, h]
theorem step_hhex_none (g : Int) (k : Nat) (v : Int) (c : UInt8) (h : hexB c = none) : stepQ (.hhex g k v) c = none := by simp only [stepQ, h]

theorem ofB_small (c : UInt8) (h : c.toNat < 128) : ofB (c.toNat : Int) = [c] := by
  unfold ofB ofI
  rw [if_pos (by omega)]
  simp

set_option maxRecDepth 100000 in
/-- What Put has for the first piece is read as that piece. -/
theorem read_piece (c : UInt8) (t rest acc : List UInt8) (m : Nat) :
    readQ .plain (pieceP (c :: t) (sgnL (c :: t)) ++ rest) acc m = readQ .plain rest (acc ++ pieceN (c :: t) (sgnL (c :: t))) (m + (pieceP (c :: t) (sgnL (c :: t))).length) := by
  generalize hn : sgnL (c :: t) = n
  unfold pieceP pieceN
  by_cases h0 : n = 0
  · simp only [h0, if_true]
    show readQ .plain (239 :: 191 :: 189 :: rest) acc m = _
    rw [readQ_on (st' := .sign 15 2 [239]) (e := []) rfl (by intro e; cases e), readQ_on (st' := .sign 1023 1 [239, 191]) (e := []) rfl (by intro e; cases e), readQ_on (st' := .plain) (e := [239, 191, 189]) rfl (by intro e; cases e)]
    simp [stranger]
  simp only [h0, if_false]
  by_cases h1 : escB c ≠ 0
  · rw [if_pos h1]
    have hc := esc_cases h1
    have hn1 : n = 1 := by
      rw [← hn]
      exact sgn_small c t (by rcases hc with rfl | rfl | rfl | rfl | rfl | rfl | rfl <;> decide)
    subst hn1
    show readQ .plain (92 :: escB c :: rest) acc m = _
    rw [readQ_on (st' := .esc) (e := []) rfl (by intro e; cases e), readQ_on (st' := .plain) (e := [c]) (by rcases hc with rfl | rfl | rfl | rfl | rfl | rfl | rfl <;> rfl) (by intro e; cases e)]
    simp
  rw [if_neg h1]
  by_cases h2 : c.toNat < 32
  · rw [if_pos h2]
    have hn1 : n = 1 := by rw [← hn]; exact sgn_small c t (by omega)
    subst hn1
    show readQ .plain (92 :: 117 :: 48 :: 48 :: lowB (c.toNat / 16) :: lowB (c.toNat % 16) :: rest) acc m = _
    have e1 := hex_low (c.toNat / 16) (by omega)
    have e2 := hex_low (c.toNat % 16) (by omega)
    have ev : (((c.toNat / 16 : Nat) : Int)) * 16 + ((c.toNat % 16 : Nat) : Int) = c.toNat := by omega
    rw [readQ_on (st' := .esc) (e := []) rfl (by intro e; cases e), readQ_on (st' := .hex 0 0) (e := []) rfl (by intro e; cases e), readQ_on (st' := .hex 1 0) (e := []) rfl (by intro e; cases e), readQ_on (st' := .hex 2 0) (e := []) rfl (by intro e; cases e),
      readQ_on (st' := .hex 3 ((c.toNat / 16 : Nat) : Int)) (e := []) (by rw [step_hex _ _ _ _ e1, if_neg (by omega), if_neg (by omega)]; simp) (by intro e; cases e),
      readQ_on (st' := .plain) (e := [c]) (by rw [step_hex _ _ _ _ e2, ev, if_neg (by omega), if_pos rfl, if_neg (by omega), ofB_small c (by omega)]) (by intro e; cases e)]
    simp
  rw [if_neg h2]
  have hq : c ≠ 34 := fun e => by subst e; exact h1 (by decide)
  have hb : c ≠ 92 := fun e => by subst e; exact h1 (by decide)
  rw [sgn_cons] at hn
  split at hn
  · rename_i hok
    split at hn
    · rename_i hz
      subst hn
      show readQ .plain (c :: rest) acc m = _
      rw [readQ_on (st' := .plain) (e := [c]) (by rw [step_plain, if_neg hq, if_neg hb, if_neg h2, if_pos hok, if_pos hz]) (by intro e; cases e)]
      simp
    · rename_i hz
      have hs := sgn_split _ _ _ _ _ hn h0
      have e : n = (n - 1) + 1 := by omega
      have hr := read_sign t _ _ [c] _ _ hn h0 rest (acc ++ []) (m + 1)
      rw [e, List.take_succ_cons, List.cons_append, readQ_on (st' := .sign (sgU 0 0 c.toNat) (lfU 0 c.toNat) [c]) (e := []) (by rw [step_plain, if_neg hq, if_neg hb, if_neg h2, if_pos hok, if_neg hz]) (by intro e; cases e), hr]
      simp
      congr 1
      rw [Nat.min_eq_left (by omega)]
      omega
  · exact absurd hn.symm h0

set_option maxRecDepth 100000 in
theorem read_put (f : Nat) : ∀ (l : List UInt8), l.length ≤ f → ∀ acc m, readQ .plain (putGo f l ++ [34]) acc m = some (acc ++ normGo f l, m + (putGo f l).length + 1) := by
  induction f with
  | zero =>
    intro l hl acc m
    show readQ .plain [34] acc m = _
    simp [readQ, stepQ, normGo, putGo]
  | succ f ih =>
    intro l hl acc m
    unfold putGo normGo
    cases l with
    | nil => simp [readQ, stepQ]
    | cons c t =>
      simp only [reduceCtorEq, if_false]
      have hd : 1 ≤ goOn (sgnL (c :: t)) := by unfold goOn; split <;> omega
      rw [List.append_assoc, read_piece, ih _ (by simp at hl ⊢; omega)]
      simp
      omega

/-- A text comes back from its string. -/
theorem read_back (l : List UInt8) : readQ .plain (putL l ++ [34]) [] 0 = some (normL l, (putL l).length + 1) := by
  have := read_put l.length l (Nat.le_refl _) [] 0
  simpa [putL, normL] using this

end Go.Proofs.YtoahnbjpmbhpfaaDoor
