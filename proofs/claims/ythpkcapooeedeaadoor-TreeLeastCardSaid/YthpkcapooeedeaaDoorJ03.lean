/- Strings as plain mathematics: the string of a text, piece by piece, and reading byte by byte. -/
import Derived.Test.YthpkcapooeedeaaDoorJ02
import Derived.Laws.RangeAny
import Derived.Laws.Cover4
import Derived.Lib.RuneBytes
import Derived.ChangeArms
import Derived.OpenShut
import Derived.ChangeBears
import Derived.ChangeBears2
import Derived.LaidLaws
import Derived.MakeChecks
import Derived.Outline
import Derived.Deep.DeepMust
import Derived.Laws.Strings
import Derived.Lib.SlBytesConst
namespace Go.Proofs.YthpkcapooeedeaaDoor
open Go.RowKit

/-- How many bytes of a text are its first sign, from a state on; 0: none. -/
def sgnGo : Int → Int → List UInt8 → Nat → Nat
  | _, _, [], _ => 0
  | sg, lf, c :: t, k => if okU sg lf c.toNat then (if lfU lf c.toNat = 0 then k + 1 else sgnGo (sgU sg lf c.toNat) (lfU lf c.toNat) t (k + 1)) else 0
def sgnL (l : List UInt8) : Nat := sgnGo 0 0 l 0

/-- The letter of a byte's escape; 0: it has none. -/
def escB (c : UInt8) : UInt8 := if c = 34 then 34 else if c = 92 then 92 else if c = 8 then 98 else if c = 12 then 102 else if c = 10 then 110 else if c = 13 then 114 else if c = 9 then 116 else 0
/-- A number's sign of 16. -/
def lowB (n : Nat) : UInt8 := if n < 10 then UInt8.ofNat (48 + n) else if n < 16 then UInt8.ofNat (87 + n) else 48
def stranger : List UInt8 := [239, 191, 189]
/-- What the string has for a text's first n bytes; n = 0: for one that is no sign. -/
def pieceP (l : List UInt8) (n : Nat) : List UInt8 := match l with
  | [] => []
  | c :: t => if n = 0 then stranger else if escB c ≠ 0 then [92, escB c] else if c.toNat < 32 then [92, 117, 48, 48, lowB (c.toNat / 16), lowB (c.toNat % 16)] else (c :: t).take n
def pieceN (l : List UInt8) (n : Nat) : List UInt8 := if n = 0 then stranger else l.take n
def goOn (n : Nat) : Nat := if n = 0 then 1 else n
def putGo : Nat → List UInt8 → List UInt8
  | 0, _ => []
  | f + 1, l => if l = [] then [] else pieceP l (sgnL l) ++ putGo f (l.drop (goOn (sgnL l)))
def normGo : Nat → List UInt8 → List UInt8
  | 0, _ => []
  | f + 1, l => if l = [] then [] else pieceN l (sgnL l) ++ normGo f (l.drop (goOn (sgnL l)))
def putL (l : List UInt8) : List UInt8 := putGo l.length l
def normL (l : List UInt8) : List UInt8 := normGo l.length l

/-- Where one is in a string. -/
inductive QSt where
  | plain
  | sign (sg lf : Int) (p : List UInt8)
  | esc
  | hex (k : Nat) (v : Int)
  | half (h : Int)
  | hesc (h : Int)
  | hhex (h : Int) (k : Nat) (v : Int)
  | done

def hexB (c : UInt8) : Option Int :=
  if 48 ≤ c.toNat ∧ c.toNat ≤ 57 then some (c.toNat - 48) else if 97 ≤ c.toNat ∧ c.toNat ≤ 102 then some (c.toNat - 87) else if 65 ≤ c.toNat ∧ c.toNat ≤ 70 then some (c.toNat - 55) else none
def letB (c : UInt8) : UInt8 := if c = 34 then 34 else if c = 92 then 92 else if c = 47 then 47 else if c = 98 then 8 else if c = 102 then 12 else if c = 110 then 10 else if c = 114 then 13 else if c = 116 then 9 else 0
def ofB (v : Int) : List UInt8 := (ofI v).map fun x => UInt8.ofNat x.toNat

/-- One byte on: where one is then, and the bytes that are told; none: it doesn't fit. -/
def stepQ : QSt → UInt8 → Option (QSt × List UInt8)
  | .plain, c => if c = 34 then some (.done, []) else if c = 92 then some (.esc, []) else if c.toNat < 32 then none else
      if okU 0 0 c.toNat then (if lfU 0 c.toNat = 0 then some (.plain, [c]) else some (.sign (sgU 0 0 c.toNat) (lfU 0 c.toNat) [c], [])) else none
  | .sign sg lf p, c => if okU sg lf c.toNat then (if lfU lf c.toNat = 0 then some (.plain, p ++ [c]) else some (.sign (sgU sg lf c.toNat) (lfU lf c.toNat) (p ++ [c]), [])) else none
  | .esc, c => if c = 117 then some (.hex 0 0, []) else if letB c = 0 then none else some (.plain, [letB c])
  | .hex k v, c => match hexB c with
    | none => none
    | some d => if k = 1 ∧ 220 ≤ v * 16 + d ∧ v * 16 + d ≤ 223 then none else
        if k = 3 then (if 55296 ≤ v * 16 + d ∧ v * 16 + d ≤ 56319 then some (.half (v * 16 + d), []) else some (.plain, ofB (v * 16 + d))) else some (.hex (k + 1) (v * 16 + d), [])
  | .half h, c => if c = 92 then some (.hesc h, []) else none
  | .hesc h, c => if c = 117 then some (.hhex h 0 0, []) else none
  | .hhex h k v, c => match hexB c with
    | none => none
    | some d => if k = 0 ∧ d ≠ 13 then none else if k = 1 ∧ (v * 16 + d < 220 ∨ 223 < v * 16 + d) then none else
        if k = 3 then some (.plain, ofB (65536 + (h - 55296) * 1024 + (v * 16 + d - 56320))) else some (.hhex h (k + 1) (v * 16 + d), [])
  | .done, _ => none

/-- Reading: the text, and how many bytes; none: the string isn't whole, or there is none. -/
def readQ : QSt → List UInt8 → List UInt8 → Nat → Option (List UInt8 × Nat)
  | _, [], _, _ => none
  | st, c :: t, acc, n => match stepQ st c with
    | none => none
    | some (.done, e) => some (acc ++ e, n + 1)
    | some (st', e) => readQ st' t (acc ++ e) (n + 1)

theorem readQ_on {st st' : QSt} {c : UInt8} {e : List UInt8} (h : stepQ st c = some (st', e)) (hd : st' ≠ .done) (t acc : List UInt8) (n : Nat) : readQ st (c :: t) acc n = readQ st' t (acc ++ e) (n + 1) := by
  conv => lhs; unfold readQ
  rw [h]
  cases st'
  case done => exact absurd rfl hd
  all_goals rfl

theorem step_sign (sg lf : Int) (p : List UInt8) (c : UInt8) : stepQ (.sign sg lf p) c = if okU sg lf c.toNat then (if lfU lf c.toNat = 0 then some (.plain, p ++ [c]) else some (.sign (sgU sg lf c.toNat) (lfU lf c.toNat) (p ++ [c]), [])) else none := rfl
theorem step_plain (c : UInt8) : stepQ .plain c = if c = 34 then some (.done, []) else if c = 92 then some (.esc, []) else if c.toNat < 32 then none else
      if okU 0 0 c.toNat then (if lfU 0 c.toNat = 0 then some (.plain, [c]) else some (.sign (sgU 0 0 c.toNat) (lfU 0 c.toNat) [c], [])) else none := rfl

/-- The bytes p lead from between two signs to this state. -/
def Reach (p : List UInt8) (sg lf : Int) : Prop := StU sg lf ∧ ∀ rest, runU 0 0 (p ++ rest) 0 = runU sg lf rest p.length
theorem reach_nil : Reach [] 0 0 := ⟨stU_zero, fun _ => rfl⟩
theorem reach_step {p : List UInt8} {sg lf : Int} (h : Reach p sg lf) {c : UInt8} (hk : okU sg lf c.toNat = true) : Reach (p ++ [c]) (sgU sg lf c.toNat) (lfU lf c.toNat) :=
  ⟨stU_step h.1 (Int.natCast_nonneg _) hk, fun rest => by
    rw [List.append_assoc, h.2]
    show (if okU sg lf c.toNat then runU _ _ rest (p.length + 1) else _) = _
    rw [if_pos hk]
    simp⟩
theorem reach_whole {p : List UInt8} {sg : Int} (h : Reach p sg 0) : badU p = -1 := by
  have := h.2 []
  rw [List.append_nil] at this
  exact this

theorem bad_cat {l m : List UInt8} (hl : badU l = -1) (hm : badU m = -1) : badU (l ++ m) = -1 := by
  rw [(badU_append l m).1 hl, if_pos hm]
theorem bad_ofB (v : Int) (h0 : 0 ≤ v) (h9 : v ≤ 1114111) (hs : v < 55296 ∨ 57343 < v) : badU (ofB v) = -1 := by
  have := badU_of v h0 h9 hs
  rw [strOfNums_data] at this
  exact this

/-- A sign's bytes, as sgnGo finds them. -/
theorem sgn_split (l : List UInt8) : ∀ (sg lf : Int) (k j : Nat), sgnGo sg lf l k = j → j ≠ 0 → k < j ∧ j ≤ k + l.length := by
  induction l with
  | nil => intro sg lf k j h hj; exact absurd h.symm hj
  | cons c t ih =>
    intro sg lf k j h hj
    unfold sgnGo at h
    split at h
    · split at h
      · simp; omega
      · have := ih _ _ _ _ h hj
        simp
        omega
    · exact absurd h.symm hj

/-- Reading the rest of a sign. -/
theorem read_sign (l : List UInt8) : ∀ (sg lf : Int) (p : List UInt8) (k j : Nat), sgnGo sg lf l k = j → j ≠ 0 → ∀ rest acc n,
    readQ (.sign sg lf p) (l.take (j - k) ++ rest) acc n = readQ .plain rest (acc ++ p ++ l.take (j - k)) (n + (j - k)) := by
  induction l with
  | nil => intro sg lf p k j h hj; exact absurd h.symm hj
  | cons c t ih =>
    intro sg lf p k j h hj rest acc n
    have hs := sgn_split _ _ _ _ _ h hj
    have e : j - k = (j - (k + 1)) + 1 := by omega
    rw [e, List.take_succ_cons, List.cons_append]
    unfold sgnGo at h
    split at h
    · rename_i hok
      split at h
      · rename_i hz
        subst h
        rw [show k + 1 - (k + 1) = 0 by omega, List.take_zero, List.nil_append]
        rw [readQ_on (st' := .plain) (e := p ++ [c]) (by rw [step_sign, if_pos hok, if_pos hz]) (by intro e; cases e)]
        simp
      · rename_i hz
        have := ih _ _ (p ++ [c]) _ _ h hj rest (acc ++ []) (n + 1)
        rw [readQ_on (st' := .sign (sgU sg lf c.toNat) (lfU lf c.toNat) (p ++ [c])) (e := []) (by rw [step_sign, if_pos hok, if_neg hz]) (by intro e; cases e), this]
        simp
        congr 1
        omega
    · exact absurd h.symm hj

theorem sgn_cons (c : UInt8) (t : List UInt8) : sgnL (c :: t) = if okU 0 0 c.toNat then (if lfU 0 c.toNat = 0 then 1 else sgnGo (sgU 0 0 c.toNat) (lfU 0 c.toNat) t 1) else 0 := rfl
theorem sgn_small (c : UInt8) (t : List UInt8) (h : c.toNat < 128) : sgnL (c :: t) = 1 := by
  rw [sgn_cons, if_pos (okU_0 _ (by omega) 0), if_pos (by unfold lfU; (repeat' split) <;> omega)]

theorem esc_cases {c : UInt8} (h : escB c ≠ 0) : c = 34 ∨ c = 92 ∨ c = 8 ∨ c = 12 ∨ c = 10 ∨ c = 13 ∨ c = 9 := by
  unfold escB at h
  (repeat' split at h) <;> first | (exfalso; exact h rfl) | simp_all

theorem hex_low (d : Nat) (h : d < 16) : hexB (lowB d) = some (d : Int) := by
  have : d = 0 ∨ d = 1 ∨ d = 2 ∨ d = 3 ∨ d = 4 ∨ d = 5 ∨ d = 6 ∨ d = 7 ∨ d = 8 ∨ d = 9 ∨ d = 10 ∨ d = 11 ∨ d = 12 ∨ d = 13 ∨ d = 14 ∨ d = 15 := by omega
  rcases this with rfl | rfl | rfl | rfl | rfl | rfl | rfl | rfl | rfl | rfl | rfl | rfl | rfl | rfl | rfl | rfl <;> rfl

theorem step_hex (k : Nat) (v d : Int) (c : UInt8) (h : hexB c = some d) : stepQ (.hex k v) c = if k = 1 ∧ 220 ≤ v * 16 + d ∧ v * 16 + d ≤ 223 then none else
        if k = 3 then (if 55296 ≤ v * 16 + d ∧ v * 16 + d ≤ 56319 then some (QSt.half (v * 16 + d), []) else some (QSt.plain, ofB (v * 16 + d))) else some (QSt.hex (k + 1) (v * 16 + d), []) := by
  show (match hexB c with
    | none => none
    | some d => if k = 1 ∧ 220 ≤ v * 16 + d ∧ v * 16 + d ≤ 223 then none else
        if k = 3 then (if 55296 ≤ v * 16 + d ∧ v * 16 + d ≤ 56319 then some (QSt.half (v * 16 + d), []) else some (QSt.plain, ofB (v * 16 + d))) else some (QSt.hex (k + 1) (v * 16 + d), [])) = _
  rw [h]

theorem step_hex_none (k : Nat) (v : Int) (c : UInt8) (h : hexB c = none) : stepQ (.hex k v) c = none := by simp only [stepQ, h]
theorem step_hhex (g : Int) (k : Nat) (v d : Int) (c : UInt8) (h : hexB c = some d) : stepQ (.hhex g k v) c = if k = 0 ∧ d ≠ 13 then none else if k = 1 ∧ (v * 16 + d < 220 ∨ 223 < v * 16 + d) then none else
        if k = 3 then some (QSt.plain, ofB (65536 + (g - 55296) * 1024 + (v * 16 + d - 56320))) else some (QSt.hhex g (k + 1) (v * 16 + d), []) := by simp only [stepQ, h]
theorem step_hhex_none (g : Int) (k : Nat) (v : Int) (c : UInt8) (h : hexB c = none) : stepQ (.hhex g k v) c = none := by simp only [stepQ, h]

theorem ofB_small (c : UInt8) (h : c.toNat < 128) : ofB (c.toNat : Int) = [c] := by
  unfold ofB ofI
  rw [if_pos (by omega)]
  simp

set_option maxRecDepth 100000 in
/-- What Put has for the first piece is read as that piece. -/
theorem read_piece (c : UInt8) (t rest acc : List UInt8) (m : Nat) :
    readQ .plain (pieceP (c :: t) (sgnL (c :: t)) ++ rest) acc m = readQ .plain rest (acc ++ pieceN (c :: t) (sgnL (c :: t))) (m + (pieceP (c :: t) (sgnL (c :: t))).length) := by
  generalize hn : sgnL (c :: t) = n
  unfold pieceP pieceN
  by_cases h0 : n = 0
  · simp only [h0, if_true]
    show readQ .plain (239 :: 191 :: 189 :: rest) acc m = _
    rw [readQ_on (st' := .sign 15 2 [239]) (e := []) rfl (by intro e; cases e), readQ_on (st' := .sign 1023 1 [239, 191]) (e := []) rfl (by intro e; cases e), readQ_on (st' := .plain) (e := [239, 191, 189]) rfl (by intro e; cases e)]
    simp [stranger]
  simp only [h0, if_false]
  by_cases h1 : escB c ≠ 0
  · rw [if_pos h1]
    have hc := esc_cases h1
    have hn1 : n = 1 := by
      rw [← hn]
      exact sgn_small c t (by rcases hc with rfl | rfl | rfl | rfl | rfl | rfl | rfl <;> decide)
    subst hn1
    show readQ .plain (92 :: escB c :: rest) acc m = _
    rw [readQ_on (st' := .esc) (e := []) rfl (by intro e; cases e), readQ_on (st' := .plain) (e := [c]) (by rcases hc with rfl | rfl | rfl | rfl | rfl | rfl | rfl <;> rfl) (by intro e; cases e)]
    simp
  rw [if_neg h1]
  by_cases h2 : c.toNat < 32
  · rw [if_pos h2]
    have hn1 : n = 1 := by rw [← hn]; exact sgn_small c t (by omega)
    subst hn1
    show readQ .plain (92 :: 117 :: 48 :: 48 :: lowB (c.toNat / 16) :: lowB (c.toNat % 16) :: rest) acc m = _
    have e1 := hex_low (c.toNat / 16) (by omega)
    have e2 := hex_low (c.toNat % 16) (by omega)
    have ev : (((c.toNat / 16 : Nat) : Int)) * 16 + ((c.toNat % 16 : Nat) : Int) = c.toNat := by omega
    rw [readQ_on (st' := .esc) (e := []) rfl (by intro e; cases e), readQ_on (st' := .hex 0 0) (e := []) rfl (by intro e; cases e), readQ_on (st' := .hex 1 0) (e := []) rfl (by intro e; cases e), readQ_on (st' := .hex 2 0) (e := []) rfl (by intro e; cases e),
      readQ_on (st' := .hex 3 ((c.toNat / 16 : Nat) : Int)) (e := []) (by rw [step_hex _ _ _ _ e1, if_neg (by omega), if_neg (by omega)]; simp) (by intro e; cases e),
      readQ_on (st' := .plain) (e := [c]) (by rw [step_hex _ _ _ _ e2, ev, if_neg (by omega), if_pos rfl, if_neg (by omega), ofB_small c (by omega)]) (by intro e; cases e)]
    simp
  rw [if_neg h2]
  have hq : c ≠ 34 := fun e => by subst e; exact h1 (by decide)
  have hb : c ≠ 92 := fun e => by subst e; exact h1 (by decide)
  rw [sgn_cons] at hn
  split at hn
  · rename_i hok
    split at hn
    · rename_i hz
      subst hn
      show readQ .plain (c :: rest) acc m = _
      rw [readQ_on (st' := .plain) (e := [c]) (by rw [step_plain, if_neg hq, if_neg hb, if_neg h2, if_pos hok, if_pos hz]) (by intro e; cases e)]
      simp
    · rename_i hz
      have hs := sgn_split _ _ _ _ _ hn h0
      have e : n = (n - 1) + 1 := by omega
      have hr := read_sign t _ _ [c] _ _ hn h0 rest (acc ++ []) (m + 1)
      rw [e, List.take_succ_cons, List.cons_append, readQ_on (st' := .sign (sgU 0 0 c.toNat) (lfU 0 c.toNat) [c]) (e := []) (by rw [step_plain, if_neg hq, if_neg hb, if_neg h2, if_pos hok, if_neg hz]) (by intro e; cases e), hr]
      simp
      congr 1
      rw [Nat.min_eq_left (by omega)]
      omega
  · exact absurd hn.symm h0

set_option maxRecDepth 100000 in
theorem read_put (f : Nat) : ∀ (l : List UInt8), l.length ≤ f → ∀ acc m, readQ .plain (putGo f l ++ [34]) acc m = some (acc ++ normGo f l, m + (putGo f l).length + 1) := by
  induction f with
  | zero =>
    intro l hl acc m
    show readQ .plain [34] acc m = _
    simp [readQ, stepQ, normGo, putGo]
  | succ f ih =>
    intro l hl acc m
    unfold putGo normGo
    cases l with
    | nil => simp [readQ, stepQ]
    | cons c t =>
      simp only [reduceCtorEq, if_false]
      have hd : 1 ≤ goOn (sgnL (c :: t)) := by unfold goOn; split <;> omega
      rw [List.append_assoc, read_piece, ih _ (by simp at hl ⊢; omega)]
      simp
      omega

/-- A text comes back from its string. -/
theorem read_back (l : List UInt8) : readQ .plain (putL l ++ [34]) [] 0 = some (normL l, (putL l).length + 1) := by
  have := read_put l.length l (Nat.le_refl _) [] 0
  simpa [putL, normL] using this

end Go.Proofs.YthpkcapooeedeaaDoor

namespace Go.Proofs.YthpkcapooeedeaaDoor
open Go.RowKit

theorem sgn_valid (l : List UInt8) : ∀ (sg lf : Int) (p : List UInt8) (k j : Nat), sgnGo sg lf l k = j → j ≠ 0 → Reach p sg lf → badU (p ++ l.take (j - k)) = -1 := by
  induction l with
  | nil => intro sg lf p k j h hj; exact absurd h.symm hj
  | cons c t ih =>
    intro sg lf p k j h hj hr
    have hs := sgn_split _ _ _ _ _ h hj
    have e : j - k = (j - (k + 1)) + 1 := by omega
    rw [e, List.take_succ_cons, show p ++ c :: t.take (j - (k + 1)) = (p ++ [c]) ++ t.take (j - (k + 1)) by simp]
    unfold sgnGo at h
    split at h
    · rename_i hok
      have hr' := reach_step hr hok
      split at h
      · rename_i hz
        subst h
        rw [hz] at hr'
        rw [show k + 1 - (k + 1) = 0 by omega, List.take_zero, List.append_nil]
        exact reach_whole hr'
      · exact ih _ _ (p ++ [c]) _ _ h hj hr'
    · exact absurd h.symm hj

theorem bad_stranger : badU stranger = -1 := by decide +kernel

theorem bad_pieceN (l : List UInt8) : badU (pieceN l (sgnL l)) = -1 := by
  unfold pieceN
  split
  · exact bad_stranger
  · rename_i h
    have := sgn_valid l 0 0 [] 0 (sgnL l) rfl h reach_nil
    simpa using this

theorem bad_norm_go (f : Nat) : ∀ l, badU (normGo f l) = -1 := by
  induction f with
  | zero => intro l; rfl
  | succ f ih =>
    intro l
    unfold normGo
    split
    · rfl
    · exact bad_cat (bad_pieceN l) (ih _)
theorem bad_norm (l : List UInt8) : badU (normL l) = -1 := bad_norm_go _ l

theorem sgn_good (l : List UInt8) : ∀ (sg lf : Int) (k : Nat), StU sg lf → runU sg lf l 0 = -1 → (l ≠ [] ∨ lf ≠ 0) → sgnGo sg lf l k ≠ 0 ∧ runU 0 0 (l.drop (sgnGo sg lf l k - k)) 0 = -1 := by
  induction l with
  | nil =>
    intro sg lf k hst h hn
    have h : (if 0 < lf then 0 else -1 : Int) = -1 := h
    exfalso
    unfold StU at hst
    rcases hn with hn | hn
    · exact hn rfl
    · rw [if_pos (by omega)] at h
      cases h
  | cons c t ih =>
    intro sg lf k hst h _
    have h : (if okU sg lf c.toNat then runU (sgU sg lf c.toNat) (lfU lf c.toNat) t (0 + 1) else 0) = -1 := h
    unfold sgnGo
    by_cases hok : okU sg lf c.toNat = true
    · rw [if_pos hok] at h ⊢
      have hst' := stU_step hst (Int.natCast_nonneg _) hok
      have h' : runU (sgU sg lf c.toNat) (lfU lf c.toNat) t 0 = -1 := by
        rw [runU_shift] at h
        split at h
        · assumption
        · have := (runU_ge t (sgU sg lf c.toNat) (lfU lf c.toNat)).1
          omega
      by_cases hz : lfU lf c.toNat = 0
      · rw [if_pos hz, show k + 1 - k = 1 by omega]
        rw [hz] at h'
        exact ⟨by omega, by rw [runU_zero _ 0 (sgU sg lf c.toNat)]; exact h'⟩
      · rw [if_neg hz]
        obtain ⟨i1, i2⟩ := ih _ _ (k + 1) hst' h' (.inr hz)
        refine ⟨i1, ?_⟩
        have hs := sgn_split t _ _ (k + 1) _ rfl i1
        rw [show sgnGo (sgU sg lf c.toNat) (lfU lf c.toNat) t (k + 1) - k = (sgnGo (sgU sg lf c.toNat) (lfU lf c.toNat) t (k + 1) - (k + 1)) + 1 by omega, List.drop_succ_cons]
        exact i2
    · rw [if_neg hok] at h
      cases h

theorem norm_id_go (f : Nat) : ∀ l, l.length ≤ f → badU l = -1 → normGo f l = l := by
  induction f with
  | zero =>
    intro l hl _
    obtain rfl : l = [] := List.eq_nil_of_length_eq_zero (by omega)
    rfl
  | succ f ih =>
    intro l hl hb
    unfold normGo
    split
    · rename_i h; rw [h]
    · rename_i hne
      obtain ⟨h1, h2⟩ := sgn_good l 0 0 0 stU_zero hb (.inl hne)
      have hs := sgn_split l 0 0 0 _ rfl h1
      have e1 : goOn (sgnL l) = sgnL l := if_neg h1
      have e2 : pieceN l (sgnL l) = l.take (sgnL l) := if_neg h1
      rw [e1, e2, ih _ (by simp; have : 0 < sgnL l := hs.1; omega) (by simpa [sgnL, badU] using h2), List.take_append_drop]
/-- A text of UTF-8 is its own norm. -/
theorem norm_id {l : List UInt8} (h : badU l = -1) : normL l = l := norm_id_go _ l (Nat.le_refl _) h

theorem hexB_in {c : UInt8} {d : Int} (h : hexB c = some d) : 0 ≤ d ∧ d ≤ 15 := by
  unfold hexB at h
  split at h
  · have := Option.some.inj h; omega
  · split at h
    · have := Option.some.inj h; omega
    · split at h
      · have := Option.some.inj h; omega
      · cases h

/-- The states that reading comes to. -/
def WQ : QSt → Prop
  | .sign sg lf p => Reach p sg lf
  | .hex k v => (k = 0 ∧ v = 0) ∨ (k = 1 ∧ 0 ≤ v ∧ v ≤ 15) ∨ (k = 2 ∧ 0 ≤ v ∧ v ≤ 255 ∧ (v < 220 ∨ 223 < v)) ∨ (k = 3 ∧ 0 ≤ v ∧ v ≤ 4095 ∧ (v < 3520 ∨ 3583 < v))
  | .half h => 55296 ≤ h ∧ h ≤ 56319
  | .hesc h => 55296 ≤ h ∧ h ≤ 56319
  | .hhex h k v => 55296 ≤ h ∧ h ≤ 56319 ∧ ((k = 0 ∧ v = 0) ∨ (k = 1 ∧ v = 13) ∨ (k = 2 ∧ 220 ≤ v ∧ v ≤ 223) ∨ (k = 3 ∧ 3520 ≤ v ∧ v ≤ 3583))
  | _ => True

theorem bad_one (c : UInt8) (h : c.toNat < 128) : badU [c] = -1 := by
  have := reach_step reach_nil (c := c) (okU_0 _ (by omega) 0)
  rw [show lfU 0 c.toNat = 0 by unfold lfU; (repeat' split) <;> omega] at this
  exact reach_whole this

theorem letB_small (c : UInt8) : (letB c).toNat < 128 := by
  unfold letB
  (repeat' split) <;> decide

theorem stepQ_ok {st st' : QSt} {c : UInt8} {e : List UInt8} (hw : WQ st) (h : stepQ st c = some (st', e)) : WQ st' ∧ badU e = -1 := by
  cases st with
  | done => cases h
  | plain =>
    rw [step_plain] at h
    split at h
    · cases h; exact ⟨trivial, rfl⟩
    split at h
    · cases h; exact ⟨trivial, rfl⟩
    split at h
    · cases h
    split at h
    · rename_i hok
      have hr := reach_step reach_nil hok
      split at h
      · rename_i hz
        cases h
        rw [hz] at hr
        exact ⟨trivial, reach_whole hr⟩
      · cases h; exact ⟨hr, rfl⟩
    · cases h
  | sign sg lf p =>
    rw [step_sign] at h
    split at h
    · rename_i hok
      have hr := reach_step hw hok
      split at h
      · rename_i hz
        cases h
        rw [hz] at hr
        exact ⟨trivial, reach_whole hr⟩
      · cases h; exact ⟨hr, rfl⟩
    · cases h
  | esc =>
    have h : (if c = 117 then some (QSt.hex 0 0, []) else if letB c = 0 then none else some (QSt.plain, [letB c])) = some (st', e) := h
    split at h
    · cases h; exact ⟨.inl ⟨rfl, rfl⟩, rfl⟩
    split at h
    · cases h
    · cases h; exact ⟨trivial, bad_one _ (letB_small c)⟩
  | hex k v =>
    cases hd : hexB c with
    | none =>
      rw [step_hex_none _ _ _ hd] at h
      cases h
    | some d =>
      have hin := hexB_in hd
      rw [step_hex _ _ _ _ hd] at h
      unfold WQ at hw
      split at h
      · cases h
      split at h
      · split at h
        · cases h; exact ⟨by unfold WQ; omega, rfl⟩
        · cases h; exact ⟨trivial, bad_ofB _ (by omega) (by omega) (by omega)⟩
      · cases h; exact ⟨by unfold WQ; omega, rfl⟩
  | half g =>
    have h : (if c = 92 then some (QSt.hesc g, []) else none) = some (st', e) := h
    split at h
    · cases h; exact ⟨hw, rfl⟩
    · cases h
  | hesc g =>
    have h : (if c = 117 then some (QSt.hhex g 0 0, []) else none) = some (st', e) := h
    split at h
    · cases h; exact ⟨⟨hw.1, hw.2, .inl ⟨rfl, rfl⟩⟩, rfl⟩
    · cases h
  | hhex g k v =>
    cases hd : hexB c with
    | none =>
      rw [step_hhex_none _ _ _ _ hd] at h
      cases h
    | some d =>
      have hin := hexB_in hd
      rw [step_hhex _ _ _ _ _ hd] at h
      obtain ⟨g1, g2, hw⟩ := hw
      split at h
      · cases h
      split at h
      · cases h
      split at h
      · cases h; exact ⟨trivial, bad_ofB _ (by omega) (by omega) (by omega)⟩
      · cases h; exact ⟨⟨g1, g2, by omega⟩, rfl⟩

/-- Whatever is read is UTF-8. -/
theorem read_valid (l : List UInt8) : ∀ (st : QSt) (acc : List UInt8) (n : Nat) (u : List UInt8) (m : Nat), WQ st → badU acc = -1 → readQ st l acc n = some (u, m) → badU u = -1 := by
  induction l with
  | nil => intro st acc n u m _ _ h; cases h
  | cons c t ih =>
    intro st acc n u m hw ha h
    cases hs : stepQ st c with
    | none =>
      unfold readQ at h
      rw [hs] at h
      cases h
    | some x =>
      obtain ⟨st', e⟩ := x
      obtain ⟨h1, h2⟩ := stepQ_ok hw hs
      by_cases hd : st' = .done
      · subst hd
        unfold readQ at h
        rw [hs] at h
        cases h
        exact bad_cat ha h2
      · rw [readQ_on hs hd] at h
        exact ih _ _ _ _ _ h1 (bad_cat ha h2) h

theorem read_least (l : List UInt8) : ∀ (st : QSt) (acc : List UInt8) (n : Nat) (u : List UInt8) (m : Nat), readQ st l acc n = some (u, m) → n < m ∧ m ≤ n + l.length := by
  induction l with
  | nil => intro st acc n u m h; cases h
  | cons c t ih =>
    intro st acc n u m h
    cases hs : stepQ st c with
    | none =>
      unfold readQ at h
      rw [hs] at h
      cases h
    | some x =>
      obtain ⟨st', e⟩ := x
      by_cases hd : st' = .done
      · subst hd
        unfold readQ at h
        rw [hs] at h
        cases h
        simp
      · rw [readQ_on hs hd] at h
        have := ih _ _ _ _ _ h
        simp
        omega

end Go.Proofs.YthpkcapooeedeaaDoor

namespace Go.Proofs.YthpkcapooeedeaaDoor
open Go.RowKit

/-- The kind of a byte's fault, where it doesn't fit. -/
def faultQ : QSt → UInt8 → Int
  | .plain, c => if c.toNat < 32 then 7 else 2
  | .sign _ _ _, _ => 2
  | .esc, _ => 3
  | .hex _ _, c => if (hexB c).isSome then 4 else 3
  | .half _, _ => 4
  | .hesc _, _ => 4
  | .hhex _ k _, _ => if k ≤ 1 then 4 else 3
  | .done, _ => 14

/-- What Read answers: the text, how many bytes (or the fault's place), the kind. -/
def readR : QSt → List UInt8 → List UInt8 → Nat → List UInt8 × Nat × Int
  | _, [], _, n => ([], n, 10)
  | st, c :: t, acc, n => match stepQ st c with
    | none => ([], n, faultQ st c)
    | some (.done, e) => (acc ++ e, n + 1, 1)
    | some (st', e) => readR st' t (acc ++ e) (n + 1)

theorem readR_on {st st' : QSt} {c : UInt8} {e : List UInt8} (h : stepQ st c = some (st', e)) (hd : st' ≠ .done) (t acc : List UInt8) (n : Nat) : readR st (c :: t) acc n = readR st' t (acc ++ e) (n + 1) := by
  conv => lhs; unfold readR
  rw [h]
  cases st'
  case done => exact absurd rfl hd
  all_goals rfl
theorem readR_no {st : QSt} {c : UInt8} (h : stepQ st c = none) (t acc : List UInt8) (n : Nat) : readR st (c :: t) acc n = ([], n, faultQ st c) := by
  conv => lhs; unfold readR
  rw [h]
theorem readR_done {st : QSt} {c : UInt8} {e : List UInt8} (h : stepQ st c = some (.done, e)) (t acc : List UInt8) (n : Nat) : readR st (c :: t) acc n = (acc ++ e, n + 1, 1) := by
  conv => lhs; unfold readR
  rw [h]
theorem readQ_no {st : QSt} {c : UInt8} (h : stepQ st c = none) (t acc : List UInt8) (n : Nat) : readQ st (c :: t) acc n = none := by
  conv => lhs; unfold readQ
  rw [h]
theorem readQ_done {st : QSt} {c : UInt8} {e : List UInt8} (h : stepQ st c = some (.done, e)) (t acc : List UInt8) (n : Nat) : readQ st (c :: t) acc n = some (acc ++ e, n + 1) := by
  conv => lhs; unfold readQ
  rw [h]

theorem faultQ_ne (st : QSt) (c : UInt8) : faultQ st c ≠ 1 ∧ faultQ st c ≠ 0 := by
  unfold faultQ
  (repeat' split) <;> decide

/-- Read's two ways. -/
theorem readR_cases (l : List UInt8) : ∀ (st : QSt) (acc : List UInt8) (n : Nat),
    (∃ u m, readQ st l acc n = some (u, m) ∧ readR st l acc n = (u, m, 1)) ∨ (readQ st l acc n = none ∧ ∃ m j, readR st l acc n = ([], m, j) ∧ j ≠ 1 ∧ m ≤ n + l.length) := by
  induction l with
  | nil => intro st acc n; exact .inr ⟨rfl, n, 10, rfl, by decide, by omega⟩
  | cons c t ih =>
    intro st acc n
    cases hs : stepQ st c with
    | none => exact .inr ⟨readQ_no hs _ _ _, n, _, readR_no hs _ _ _, (faultQ_ne st c).1, by omega⟩
    | some x =>
      obtain ⟨st', e⟩ := x
      by_cases hd : st' = .done
      · subst hd
        exact .inl ⟨_, _, readQ_done hs _ _ _, readR_done hs _ _ _⟩
      · rw [readQ_on hs hd, readR_on hs hd]
        rcases ih st' (acc ++ e) (n + 1) with h | ⟨h1, m, j, h2, h3, h4⟩
        · exact .inl h
        · exact .inr ⟨h1, m, j, h2, h3, by simp; omega⟩

theorem readR_back (l : List UInt8) : readR .plain (putL l ++ [34]) [] 0 = (normL l, (putL l).length + 1, 1) := by
  have h := read_back l
  rcases readR_cases (putL l ++ [34]) .plain [] 0 with ⟨u, m, h1, h2⟩ | ⟨h1, _⟩
  · rw [h] at h1
    obtain ⟨rfl, rfl⟩ := Prod.mk.inj (Option.some.inj h1)
    exact h2
  · rw [h] at h1
    cases h1

def pendQ : QSt → Nat
  | .sign _ _ p => p.length
  | _ => 0
theorem ofB_len (v : Int) : (ofB v).length ≤ 4 := by
  unfold ofB ofI
  (repeat' split) <;> simp

theorem stepQ_len {st st' : QSt} {c : UInt8} {e : List UInt8} (h : stepQ st c = some (st', e)) : e.length + pendQ st' ≤ pendQ st + 4 := by
  cases st with
  | done => cases h
  | plain =>
    rw [step_plain] at h
    (repeat' split at h) <;> cases h <;> simp [pendQ]
  | sign sg lf p =>
    rw [step_sign] at h
    (repeat' split at h) <;> cases h <;> simp [pendQ] <;> omega
  | esc =>
    have h : (if c = 117 then some (QSt.hex 0 0, []) else if letB c = 0 then none else some (QSt.plain, [letB c])) = some (st', e) := h
    (repeat' split at h) <;> cases h <;> simp [pendQ]
  | hex k v =>
    cases hd : hexB c with
    | none => rw [step_hex_none _ _ _ hd] at h; cases h
    | some d =>
      rw [step_hex _ _ _ _ hd] at h
      have := ofB_len (v * 16 + d)
      (repeat' split at h) <;> cases h <;> simp [pendQ] <;> omega
  | half g =>
    have h : (if c = 92 then some (QSt.hesc g, []) else none) = some (st', e) := h
    (repeat' split at h) <;> cases h <;> simp [pendQ]
  | hesc g =>
    have h : (if c = 117 then some (QSt.hhex g 0 0, []) else none) = some (st', e) := h
    (repeat' split at h) <;> cases h <;> simp [pendQ]
  | hhex g k v =>
    cases hd : hexB c with
    | none => rw [step_hhex_none _ _ _ _ hd] at h; cases h
    | some d =>
      rw [step_hhex _ _ _ _ _ hd] at h
      have := ofB_len (65536 + (g - 55296) * 1024 + (v * 16 + d - 56320))
      (repeat' split at h) <;> cases h <;> simp [pendQ] <;> omega

theorem read_len (l : List UInt8) : ∀ (st : QSt) (acc : List UInt8) (n : Nat) (u : List UInt8) (m : Nat), readQ st l acc n = some (u, m) → u.length ≤ acc.length + pendQ st + 4 * l.length := by
  induction l with
  | nil => intro st acc n u m h; cases h
  | cons c t ih =>
    intro st acc n u m h
    cases hs : stepQ st c with
    | none => rw [readQ_no hs] at h; cases h
    | some x =>
      obtain ⟨st', e⟩ := x
      have hl := stepQ_len hs
      by_cases hd : st' = .done
      · subst hd
        rw [readQ_done hs] at h
        cases h
        simp
        omega
      · rw [readQ_on hs hd] at h
        have := ih _ _ _ _ _ h
        simp at this ⊢
        omega

theorem piece_len (c : UInt8) (t : List UInt8) : (pieceP (c :: t) (sgnL (c :: t))).length ≤ 6 * goOn (sgnL (c :: t)) ∧ goOn (sgnL (c :: t)) ≤ (c :: t).length ∧ 1 ≤ goOn (sgnL (c :: t)) := by
  have hs := sgn_split (c :: t) 0 0 0 _ rfl
  generalize hn : sgnL (c :: t) = n
  have hs : n ≠ 0 → 0 < n ∧ n ≤ 0 + (c :: t).length := fun h => by rw [← hn] at h ⊢; exact hs h
  unfold pieceP goOn
  by_cases h0 : n = 0
  · subst h0
    simp [stranger]
  · have := hs h0
    simp only [if_neg h0]
    refine ⟨?_, by omega, by omega⟩
    (repeat' split) <;> simp <;> omega

theorem putGo_len (f : Nat) : ∀ l, (putGo f l).length ≤ 6 * l.length := by
  induction f with
  | zero => intro l; simp [putGo]
  | succ f ih =>
    intro l
    unfold putGo
    split
    · simp
    · cases l with
      | nil => contradiction
      | cons c t =>
        obtain ⟨h1, h2, h3⟩ := piece_len c t
        have := ih ((c :: t).drop (goOn (sgnL (c :: t))))
        rw [List.length_append]
        rw [List.length_drop] at this
        omega
theorem putL_len (l : List UInt8) : (putL l).length ≤ 6 * l.length := putGo_len _ l

end Go.Proofs.YthpkcapooeedeaaDoor

namespace Go.Proofs.YthpkcapooeedeaaDoor
open Go.RowKit

theorem u8_eq {x : Int} {a : UInt8} (h : x = a.toNat) : UInt8.ofNat x.toNat = a := by
  subst h
  simp

theorem ofB_one {m : Int} {a : UInt8} (h : m < 128) (e : m = a.toNat) : ofB m = [a] := by
  unfold ofB
  rcases ofI_is (n := m) with ⟨_, h1⟩ | ⟨_, _, h1⟩ | ⟨_, _, h1⟩ | ⟨_, h1⟩ <;> first | (exfalso; omega) | (rw [h1]; simp [e])
theorem ofB_two {m : Int} {a b : UInt8} (h : 128 ≤ m) (h' : m < 2048) (ea : 192 + m / 64 = a.toNat) (eb : 128 + m % 64 = b.toNat) : ofB m = [a, b] := by
  unfold ofB
  rcases ofI_is (n := m) with ⟨_, h1⟩ | ⟨_, _, h1⟩ | ⟨_, _, h1⟩ | ⟨_, h1⟩ <;> first | (exfalso; omega) | (rw [h1]; simp [ea, eb])
theorem ofB_three {m : Int} {a b c : UInt8} (h : 2048 ≤ m) (h' : m < 65536) (ea : 224 + m / 4096 = a.toNat) (eb : 128 + m / 64 % 64 = b.toNat) (ec : 128 + m % 64 = c.toNat) : ofB m = [a, b, c] := by
  unfold ofB
  rcases ofI_is (n := m) with ⟨_, h1⟩ | ⟨_, _, h1⟩ | ⟨_, _, h1⟩ | ⟨_, h1⟩ <;> first | (exfalso; omega) | (rw [h1]; simp [ea, eb, ec])
theorem ofB_four {m : Int} {a b c d : UInt8} (h : 65536 ≤ m) (ea : 240 + m / 262144 = a.toNat) (eb : 128 + m / 4096 % 64 = b.toNat) (ec : 128 + m / 64 % 64 = c.toNat) (ed : 128 + m % 64 = d.toNat) : ofB m = [a, b, c, d] := by
  unfold ofB
  rcases ofI_is (n := m) with ⟨_, h1⟩ | ⟨_, _, h1⟩ | ⟨_, _, h1⟩ | ⟨_, h1⟩ <;> first | (exfalso; omega) | (rw [h1]; simp [ea, eb, ec, ed])

/-- A number that has a sign. -/
def Sgn (v : Int) : Prop := 0 ≤ v ∧ v ≤ 1114111 ∧ (v < 55296 ∨ 57343 < v)

theorem okU_bdn {sg c : Int} (h : okU sg 1 c = true) : 128 ≤ c ∧ c ≤ 191 := okU_bd (by decide) h

/-- The bytes of the sign that a byte ends. -/
theorem sign_end {p : List UInt8} {sg lf : Int} {c : UInt8} (h : InvL p sg lf) (hk : okU sg lf c.toNat = true) (hl : lfU lf c.toNat = 0) :
    ofB (sgU sg lf c.toNat) = p ++ [c] ∧ Sgn (sgU sg lf c.toNat) := by
  have h256 := UInt8.toNat_lt c
  match p, h with
  | [], h =>
    have h : lf = 0 := h
    subst h
    have hc : (c.toNat : Int) < 128 := by
      by_cases h : (c.toNat : Int) < 128
      · exact h
      · exfalso
        revert hl
        unfold lfU
        rw [if_pos rfl, if_neg h]
        by_cases h2 : (c.toNat : Int) < 224
        · rw [if_pos h2]; omega
        · rw [if_neg h2]
          by_cases h3 : (c.toNat : Int) < 240
          · rw [if_pos h3]; omega
          · rw [if_neg h3]; omega
    have e : sgU sg 0 c.toNat = c.toNat := by unfold sgU; rw [if_pos rfl, if_pos hc]
    rw [e]
    exact ⟨ofB_one hc rfl, by unfold Sgn; omega⟩
  | [a], h =>
    have h : (194 ≤ a.toNat ∧ a.toNat ≤ 223 ∧ lf = 1 ∧ sg = a.toNat - 192) ∨ (224 ≤ a.toNat ∧ a.toNat ≤ 239 ∧ lf = 2 ∧ sg = a.toNat - 224) ∨ (240 ≤ a.toNat ∧ a.toNat ≤ 244 ∧ lf = 3 ∧ sg = a.toNat - 240) := h
    rcases h with ⟨h1, h2, rfl, rfl⟩ | ⟨h1, h2, rfl, rfl⟩ | ⟨h1, h2, rfl, rfl⟩
    · have := okU_bdn hk
      have e : sgU ((a.toNat : Int) - 192) 1 c.toNat = ((a.toNat : Int) - 192) * 64 + (c.toNat - 128) := rfl
      rw [e]
      exact ⟨ofB_two (by omega) (by omega) (by omega) (by omega), by unfold Sgn; omega⟩
    · exact absurd hl (by simp [lfU])
    · exact absurd hl (by simp [lfU])
  | [a, b], h =>
    have h : 128 ≤ b.toNat ∧ b.toNat ≤ 191 ∧ ((224 ≤ a.toNat ∧ a.toNat ≤ 239 ∧ lf = 1 ∧ sg = (a.toNat - 224) * 64 + b.toNat - 128 ∧ 32 ≤ sg ∧ (sg < 864 ∨ 896 ≤ sg)) ∨ (240 ≤ a.toNat ∧ a.toNat ≤ 244 ∧ lf = 2 ∧ sg = (a.toNat - 240) * 64 + b.toNat - 128 ∧ 16 ≤ sg ∧ sg ≤ 271)) := h
    obtain ⟨hb1, hb2, ⟨h1, h2, rfl, e, h3, h4⟩ | ⟨h1, h2, rfl, e, h3, h4⟩⟩ := h
    · have := okU_bdn hk
      have e1 : sgU sg 1 c.toNat = sg * 64 + (c.toNat - 128) := rfl
      rw [e1]
      exact ⟨ofB_three (by omega) (by omega) (by omega) (by omega) (by omega), by unfold Sgn; omega⟩
    · exact absurd hl (by simp [lfU])
  | [a, b, d], h =>
    have h : 128 ≤ b.toNat ∧ b.toNat ≤ 191 ∧ 128 ≤ d.toNat ∧ d.toNat ≤ 191 ∧ 240 ≤ a.toNat ∧ a.toNat ≤ 244 ∧ lf = 1 ∧ sg = ((a.toNat - 240) * 64 + b.toNat - 128) * 64 + d.toNat - 128 ∧ 1024 ≤ sg ∧ sg ≤ 17407 := h
    obtain ⟨hb1, hb2, hd1, hd2, h1, h2, rfl, e, h3, h4⟩ := h
    have := okU_bdn hk
    have e1 : sgU sg 1 c.toNat = sg * 64 + (c.toNat - 128) := rfl
    rw [e1]
    exact ⟨ofB_four (by omega) (by omega) (by omega) (by omega) (by omega), by unfold Sgn; omega⟩
  | _ :: _ :: _ :: _ :: _, h => exact absurd h (by simp [InvL])

theorem ofB_enc {v : Int} (h : Sgn v) : Lib.encodeRune v = ofB v := by
  obtain ⟨h0, h1, h2⟩ := h
  unfold Lib.encodeRune ofB
  rcases ofI_is (n := v) with ⟨_, e⟩ | ⟨_, _, e⟩ | ⟨_, _, e⟩ | ⟨_, e⟩
  · rw [e, Lib.encodeRuneZ_one h0 (by omega)]
  · rw [e, Lib.encodeRuneZ_two (by omega) (by omega)]
  · rw [e, Lib.encodeRuneZ_three (by omega)]
  · rw [e, Lib.encodeRuneZ_four (by omega) (by omega)]

theorem ofNat_int (k : Nat) (x : Int) (h : x = k) : UInt8.ofNat x.toNat = UInt8.ofNat k := by rw [h]; rfl
theorem enc_ofB {v : Int} (h : Sgn v) : (Utf8.encode v).data.toList = ofB v := by
  obtain ⟨h0, h1, h2⟩ := h
  have hv : Utf8.valid v = true := by
    unfold Utf8.valid
    rw [Bool.or_eq_true, Bool.and_eq_true, Bool.and_eq_true]
    simp only [decide_eq_true_eq]
    omega
  have hn : (v.toNat : Int) = v := Int.toNat_of_nonneg h0
  unfold Utf8.encode
  simp only [hv, if_true]
  unfold ofB
  generalize v.toNat = n at *
  subst hn
  rcases ofI_is (n := (n : Int)) with ⟨_, e⟩ | ⟨_, _, e⟩ | ⟨_, _, e⟩ | ⟨_, e⟩
  · rw [if_pos (by omega), e]; simp
  · rw [if_neg (by omega), if_pos (by omega), e]
    show [UInt8.ofNat (192 + n / 64), UInt8.ofNat (128 + n % 64)] = [UInt8.ofNat (192 + (n : Int) / 64).toNat, UInt8.ofNat (128 + (n : Int) % 64).toNat]
    rw [ofNat_int (192 + n / 64) _ (by omega), ofNat_int (128 + n % 64) _ (by omega)]
  · rw [if_neg (by omega), if_neg (by omega), if_pos (by omega), e]
    show [UInt8.ofNat (224 + n / 4096), UInt8.ofNat (128 + n / 64 % 64), UInt8.ofNat (128 + n % 64)] = [UInt8.ofNat (224 + (n : Int) / 4096).toNat, UInt8.ofNat (128 + (n : Int) / 64 % 64).toNat, UInt8.ofNat (128 + (n : Int) % 64).toNat]
    rw [ofNat_int (224 + n / 4096) _ (by omega), ofNat_int (128 + n / 64 % 64) _ (by omega), ofNat_int (128 + n % 64) _ (by omega)]
  · rw [if_neg (by omega), if_neg (by omega), if_neg (by omega), e]
    show [UInt8.ofNat (240 + n / 262144), UInt8.ofNat (128 + n / 4096 % 64), UInt8.ofNat (128 + n / 64 % 64), UInt8.ofNat (128 + n % 64)] = [UInt8.ofNat (240 + (n : Int) / 262144).toNat, UInt8.ofNat (128 + (n : Int) / 4096 % 64).toNat, UInt8.ofNat (128 + (n : Int) / 64 % 64).toNat, UInt8.ofNat (128 + (n : Int) % 64).toNat]
    rw [ofNat_int (240 + n / 262144) _ (by omega), ofNat_int (128 + n / 4096 % 64) _ (by omega), ofNat_int (128 + n / 64 % 64) _ (by omega), ofNat_int (128 + n % 64) _ (by omega)]

/-- Signs, one behind the other. -/
def encs (vs : List Int) : List UInt8 := vs.flatMap ofB
theorem encs_snoc (vs : List Int) (v : Int) : encs (vs ++ [v]) = encs vs ++ ofB v := by simp [encs]
theorem ofB_pos (v : Int) : 1 ≤ (ofB v).length := by
  unfold ofB ofI
  (repeat' split) <;> simp
theorem encs_len (vs : List Int) : vs.length ≤ (encs vs).length ∧ (encs vs).length ≤ 4 * vs.length := by
  induction vs with
  | nil => simp [encs]
  | cons v t ih =>
    have h1 := ofB_pos v
    have h2 := ofB_len v
    have e : encs (v :: t) = ofB v ++ encs t := by simp [encs]
    rw [e]
    simp
    omega
theorem runes_fold (vs : List Int) (h : ∀ v ∈ vs, Sgn v) : ∀ r : ByteArray, (vs.foldl (fun r n => r ++ Utf8.encode n) r).data.toList = r.data.toList ++ encs vs := by
  induction vs with
  | nil => intro r; simp [encs]
  | cons v t ih =>
    intro r
    rw [List.foldl_cons, ih (fun x hx => h x (by simp [hx]))]
    have e : encs (v :: t) = ofB v ++ encs t := by simp [encs]
    rw [e, ByteArray.data_append, Array.toList_append, enc_ofB (h v (by simp)), List.append_assoc]
theorem runesBytes_encs (vs : List Int) (h : ∀ v ∈ vs, Sgn v) : runesBytes vs = ⟨(encs vs).toArray⟩ := by
  have := runes_fold vs h ByteArray.empty
  have e : ∀ a b : ByteArray, a.data.toList = b.data.toList → a = b := fun a b h => by
    cases a with | mk x => cases b with | mk y => exact congrArg ByteArray.mk (Array.toList_inj.1 h)
  apply e
  unfold runesBytes
  rw [this]
  simp

-- the first sign of a text, by its bytes
theorem sgn_none (c : UInt8) (t : List UInt8) (h : 128 ≤ c.toNat ∧ c.toNat < 194 ∨ 245 ≤ c.toNat) : sgnL (c :: t) = 0 := by
  rw [sgn_cons, if_neg (by unfold okU; rw [if_pos rfl]; simp; omega)]
theorem ok_last (sg : Int) (c : UInt8) : (okU sg 1 c.toNat = true) ↔ (128 ≤ c.toNat ∧ c.toNat ≤ 191) := by
  unfold okU lowU highU
  simp
  omega
theorem sgn_last (sg : Int) (t : List UInt8) (k : Nat) : sgnGo sg 1 t k = match t with | [] => 0 | c :: _ => if 128 ≤ c.toNat ∧ c.toNat ≤ 191 then k + 1 else 0 := by
  cases t with
  | nil => rfl
  | cons c t =>
    show (if okU sg 1 c.toNat then (if lfU 1 c.toNat = 0 then k + 1 else _) else 0) = _
    rw [if_pos (show lfU 1 c.toNat = 0 from rfl)]
    by_cases h : 128 ≤ c.toNat ∧ c.toNat ≤ 191
    · rw [if_pos ((ok_last sg c).2 h)]; simp [h]
    · rw [if_neg (fun e => h ((ok_last sg c).1 e))]; simp [h]
theorem sgn_more (sg lf : Int) (c : UInt8) (t : List UInt8) (k : Nat) (hl : 2 ≤ lf) : sgnGo sg lf (c :: t) k = if lowU sg lf ≤ c.toNat ∧ (c.toNat : Int) ≤ highU sg lf then sgnGo (sg * 64 + (c.toNat - 128)) (lf - 1) t (k + 1) else 0 := by
  show (if okU sg lf c.toNat then (if lfU lf c.toNat = 0 then k + 1 else sgnGo (sgU sg lf c.toNat) (lfU lf c.toNat) t (k + 1)) else 0) = _
  have e1 : lfU lf c.toNat = lf - 1 := by unfold lfU; rw [if_neg (by omega)]
  have e2 : sgU sg lf c.toNat = sg * 64 + (c.toNat - 128) := by unfold sgU; rw [if_neg (by omega)]
  rw [e1, e2, if_neg (show ¬ (lf - 1 = 0) by omega)]
  by_cases h : lowU sg lf ≤ c.toNat ∧ (c.toNat : Int) ≤ highU sg lf
  · rw [if_pos h, if_pos (okU_n (by omega) h)]
  · rw [if_neg h, if_neg]
    intro hk
    exact h (okU_more (by omega) hk)
theorem sgn_head (c : UInt8) (t : List UInt8) (h : 194 ≤ c.toNat) (h' : c.toNat < 245) : sgnL (c :: t) = sgnGo (if (c.toNat : Int) < 224 then c.toNat - 192 else if (c.toNat : Int) < 240 then c.toNat - 224 else c.toNat - 240) (if (c.toNat : Int) < 224 then 1 else if (c.toNat : Int) < 240 then 2 else 3) t 1 := by
  rw [sgn_cons, if_pos (okU_0 _ (by omega) 0)]
  have e1 : lfU 0 c.toNat = if (c.toNat : Int) < 224 then 1 else if (c.toNat : Int) < 240 then 2 else 3 := by unfold lfU; rw [if_pos rfl, if_neg (by omega)]
  have e2 : sgU 0 0 c.toNat = if (c.toNat : Int) < 224 then (c.toNat : Int) - 192 else if (c.toNat : Int) < 240 then (c.toNat : Int) - 224 else (c.toNat : Int) - 240 := by unfold sgU; rw [if_pos rfl, if_neg (by omega)]
  rw [e1, e2, if_neg (by (repeat' split) <;> omega)]

/-- Decoding: of the next four bytes, and which of them go on within a sign. -/
def decG (a b c d : Nat) (k1 k2 k3 : Bool) : Nat × Nat :=
  if a < 128 then (a, 1)
  else if a / 32 == 6 && k1 then (if a % 32 * 64 + b % 64 ≥ 128 then (a % 32 * 64 + b % 64, 2) else (65533, 1))
  else if a / 16 == 14 && k1 && k2 then (if a % 16 * 4096 + b % 64 * 64 + c % 64 ≥ 2048 && Utf8.valid (a % 16 * 4096 + b % 64 * 64 + c % 64 : Nat) then (a % 16 * 4096 + b % 64 * 64 + c % 64, 3) else (65533, 1))
  else if a / 8 == 30 && k1 && k2 && k3 then (if a % 8 * 262144 + b % 64 * 4096 + c % 64 * 64 + d % 64 ≥ 65536 && Utf8.valid (a % 8 * 262144 + b % 64 * 4096 + c % 64 * 64 + d % 64 : Nat) then (a % 8 * 262144 + b % 64 * 4096 + c % 64 * 64 + d % 64, 4) else (65533, 1))
  else (65533, 1)
/-- The byte at a place, if it goes on within a sign. -/
def contL (l : List UInt8) (k : Nat) : Bool := match l[k]? with | some c => c.toNat / 64 == 2 | none => false
def decL (l : List UInt8) : Nat × Nat := decG (l.getD 0 0).toNat (l.getD 1 0).toNat (l.getD 2 0).toNat (l.getD 3 0).toNat (contL l 1) (contL l 2) (contL l 3)

theorem decG_cong {a b c d b' c' d' : Nat} {k1 k2 k3 : Bool} (h1 : k1 = true → b = b') (h2 : k2 = true → c = c') (h3 : k3 = true → d = d') : decG a b c d k1 k2 k3 = decG a b' c' d' k1 k2 k3 := by
  cases k1
  · simp [decG]
  · obtain rfl := h1 rfl
    cases k2
    · simp [decG]
    · obtain rfl := h2 rfl
      cases k3
      · simp [decG]
      · obtain rfl := h3 rfl
        rfl

theorem get_drop (s : ByteArray) (i k : Nat) (h : i + k < s.size) : (s.data.toList.drop i)[k]? = some (s.get! (i + k)) := by
  have h' : i + k < s.data.toList.length := h
  have e : s.get! (i + k) = s.data.toList[i + k] := by
    show s.data[i + k]! = _
    rw [getElem!_pos s.data (i + k) h]
    rfl
  rw [e, List.getElem?_drop, List.getElem?_eq_getElem h']
theorem get_none (s : ByteArray) (i k : Nat) (h : ¬ i + k < s.size) : (s.data.toList.drop i)[k]? = none := by
  apply List.getElem?_eq_none
  have : s.data.toList.length = s.size := rfl
  simp
  omega
theorem dec_cont (s : ByteArray) (i k : Nat) : (decide (i + k < s.size) && (s.get! (i + k)).toNat / 64 == 2) = contL (s.data.toList.drop i) k := by
  unfold contL
  by_cases h : i + k < s.size
  · rw [get_drop s i k h]; simp [h]
  · rw [get_none s i k h]; simp [h]
theorem dec_list (s : ByteArray) (i : Nat) (h : i < s.size) : Utf8.decode s i = decL (s.data.toList.drop i) := by
  have h0 : (s.get! (i + 0)).toNat = ((s.data.toList.drop i).getD 0 0).toNat := by rw [List.getD, get_drop s i 0 (by omega)]; rfl
  have e : Utf8.decode s i = decG (s.get! (i + 0)).toNat (s.get! (i + 1)).toNat (s.get! (i + 2)).toNat (s.get! (i + 3)).toNat (decide (i + 1 < s.size) && (s.get! (i + 1)).toNat / 64 == 2) (decide (i + 2 < s.size) && (s.get! (i + 2)).toNat / 64 == 2) (decide (i + 3 < s.size) && (s.get! (i + 3)).toNat / 64 == 2) := rfl
  have hk : ∀ k, contL (s.data.toList.drop i) k = true → (s.get! (i + k)).toNat = ((s.data.toList.drop i).getD k 0).toNat := by
    intro k hk
    by_cases hh : i + k < s.size
    · rw [List.getD, get_drop s i k hh]; rfl
    · unfold contL at hk
      rw [get_none s i k hh] at hk
      cases hk
  rw [e, dec_cont, dec_cont, dec_cont, h0]
  exact decG_cong (hk 1) (hk 2) (hk 3)

theorem val_iff (n : Nat) : Utf8.valid (n : Nat) = decide (n < 55296 ∨ 57344 ≤ n ∧ n ≤ 1114111) := by
  unfold Utf8.valid
  rw [Bool.eq_iff_iff]
  simp
  omega

/-- What decoding has to do with the first sign. -/
def DecOk (l : List UInt8) (d : Nat × Nat) : Prop := (sgnL l = 0 ∧ d = (65533, 1)) ∨ (sgnL l ≠ 0 ∧ d.2 = sgnL l ∧ ofB d.1 = l.take (sgnL l) ∧ Sgn d.1)

theorem dec_sgn (c : UInt8) (t : List UInt8) : DecOk (c :: t) (decL (c :: t)) := by
  have hc := UInt8.toNat_lt c
  unfold DecOk
  have e0 : decL (c :: t) = decG c.toNat (t.getD 0 0).toNat (t.getD 1 0).toNat (t.getD 2 0).toNat (contL t 0) (contL t 1) (contL t 2) := rfl
  rw [e0]
  have hh : c.toNat < 128 ∨ (128 ≤ c.toNat ∧ c.toNat < 192) ∨ (192 ≤ c.toNat ∧ c.toNat < 194) ∨ (194 ≤ c.toNat ∧ c.toNat < 224) ∨ (224 ≤ c.toNat ∧ c.toNat < 240) ∨ (240 ≤ c.toNat ∧ c.toNat < 245) ∨ (245 ≤ c.toNat ∧ c.toNat < 248) ∨ 248 ≤ c.toNat := by omega
  rcases hh with h | h | h | h | h | h | h | h
  · refine .inr ?_
    rw [sgn_small c t h]
    unfold decG
    rw [if_pos h]
    exact ⟨by decide, rfl, ofB_one (by simp; omega) rfl, by unfold Sgn; simp; omega⟩
  · refine .inl ⟨sgn_none c t (by omega), ?_⟩
    unfold decG
    have a1 : (c.toNat / 32 == 6) = false := by simp; omega
    have a2 : (c.toNat / 16 == 14) = false := by simp; omega
    have a3 : (c.toNat / 8 == 30) = false := by simp; omega
    rw [if_neg (by omega)]
    simp [a1, a2, a3]
  · refine .inl ⟨sgn_none c t (by omega), ?_⟩
    unfold decG
    have a2 : (c.toNat / 16 == 14) = false := by simp; omega
    have a3 : (c.toNat / 8 == 30) = false := by simp; omega
    rw [if_neg (by omega)]
    have hx : ∀ x : Nat, ¬ c.toNat % 32 * 64 + x % 64 ≥ 128 := fun x => by omega
    simp only [a2, a3, Bool.false_and, Bool.false_eq_true, if_false, if_neg (hx _)]
    simp
  · -- two bytes
    rw [sgn_head c t (by omega) (by omega), if_pos (by omega), if_pos (by omega), sgn_last]
    have a1 : (c.toNat / 32 == 6) = true := by simp; omega
    have a2 : (c.toNat / 16 == 14) = false := by simp; omega
    have a3 : (c.toNat / 8 == 30) = false := by simp; omega
    cases t with
    | nil => exact .inl ⟨rfl, by unfold decG; rw [if_neg (by omega)]; simp [a2, a3, contL]⟩
    | cons b t =>
      have hb := UInt8.toNat_lt b
      have k0 : contL (b :: t) 0 = (b.toNat / 64 == 2) := rfl
      rw [k0]
      by_cases hP : 128 ≤ b.toNat ∧ b.toNat ≤ 191
      · have k1 : (b.toNat / 64 == 2) = true := by simp; omega
        refine .inr ?_
        simp only [if_pos hP]
        unfold decG
        rw [if_neg (by omega), k1, a1]
        have g : (List.getD (b :: t) 0 0).toNat = b.toNat := rfl
        rw [g, if_pos (show (true && true) = true from rfl), if_pos (by omega)]
        refine ⟨by decide, rfl, ?_, by unfold Sgn; simp; omega⟩
        exact ofB_two (by simp; omega) (by simp; omega) (by simp; omega) (by simp; omega)
      · have k1 : (b.toNat / 64 == 2) = false := by simp; omega
        refine .inl ?_
        simp only [if_neg hP]
        refine ⟨trivial, ?_⟩
        unfold decG
        rw [if_neg (by omega), k1, a2, a3]
        simp
  · -- three bytes
    rw [sgn_head c t (by omega) (by omega), if_neg (by omega), if_pos (by omega), if_neg (by omega), if_pos (by omega)]
    have a1 : (c.toNat / 32 == 6) = false := by simp; omega
    have a2 : (c.toNat / 16 == 14) = true := by simp; omega
    have a3 : (c.toNat / 8 == 30) = false := by simp; omega
    cases t with
    | nil => exact .inl ⟨rfl, by unfold decG; rw [if_neg (by omega)]; simp [a1, a3, contL]⟩
    | cons b t =>
      have hb := UInt8.toNat_lt b
      rw [sgn_more _ _ _ _ _ (by omega)]
      have k0 : contL (b :: t) 0 = (b.toNat / 64 == 2) := rfl
      have kk1 : contL (b :: t) 1 = contL t 0 := rfl
      have g0 : (List.getD (b :: t) 0 0).toNat = b.toNat := rfl
      have g1 : (List.getD (b :: t) 1 0).toNat = (List.getD t 0 0).toNat := rfl
      rw [k0, kk1, g0, g1, show (2 : Int) - 1 = 1 from rfl, sgn_last]
      by_cases hP : 128 ≤ b.toNat ∧ b.toNat ≤ 191
      case neg =>
        have k1 : (b.toNat / 64 == 2) = false := by simp; omega
        refine .inl ⟨if_neg (fun e => hP (by have := lowU_in (c.toNat - 224) 2; have := highU_in (c.toNat - 224) 2; omega)), ?_⟩
        unfold decG
        rw [if_neg (by omega), k1, a1, a3]
        simp
      have k1 : (b.toNat / 64 == 2) = true := by simp; omega
      cases t with
      | nil => exact .inl ⟨by simp, by unfold decG; rw [if_neg (by omega)]; simp [a1, a3, contL]⟩
      | cons d t =>
        have hd := UInt8.toNat_lt d
        have k2 : contL (d :: t) 0 = (d.toNat / 64 == 2) := rfl
        have g2 : (List.getD (d :: t) 0 0).toNat = d.toNat := rfl
        rw [k2, g2]
        by_cases hQ : 128 ≤ d.toNat ∧ d.toNat ≤ 191
        case neg =>
          have k3 : (d.toNat / 64 == 2) = false := by simp; omega
          refine .inl ⟨by simp only [if_neg hQ]; simp, ?_⟩
          unfold decG
          rw [if_neg (by omega), k3, a1, a3]
          simp
        have k3 : (d.toNat / 64 == 2) = true := by simp; omega
        simp only [if_pos hQ]
        have hlo : lowU (c.toNat - 224) 2 = if c.toNat = 224 then 160 else 128 := by unfold lowU; (repeat' split) <;> omega
        have hhi : highU (c.toNat - 224) 2 = if c.toNat = 237 then 159 else 191 := by unfold highU; (repeat' split) <;> omega
        rw [hlo, hhi]
        have hv : (decide (c.toNat % 16 * 4096 + b.toNat % 64 * 64 + d.toNat % 64 ≥ 2048) && Utf8.valid (c.toNat % 16 * 4096 + b.toNat % 64 * 64 + d.toNat % 64 : Nat)) = decide (((if c.toNat = 224 then 160 else 128 : Int) ≤ b.toNat ∧ (b.toNat : Int) ≤ (if c.toNat = 237 then 159 else 191))) := by
          rw [val_iff, Bool.eq_iff_iff]
          simp only [Bool.and_eq_true, decide_eq_true_eq]
          by_cases h1 : c.toNat = 224
          · rw [if_pos h1, if_neg (by omega)]; omega
          · rw [if_neg h1]
            by_cases h2 : c.toNat = 237
            · rw [if_pos h2]; omega
            · rw [if_neg h2]; omega
        have hdec : decG c.toNat b.toNat d.toNat (List.getD (b :: d :: t) 2 0).toNat (b.toNat / 64 == 2) (d.toNat / 64 == 2) (contL (b :: d :: t) 2) = if ((if c.toNat = 224 then 160 else 128 : Int) ≤ b.toNat ∧ (b.toNat : Int) ≤ (if c.toNat = 237 then 159 else 191)) then (c.toNat % 16 * 4096 + b.toNat % 64 * 64 + d.toNat % 64, 3) else (65533, 1) := by
          unfold decG
          rw [if_neg (by omega), a1, a2, k1, k3]
          simp only [Bool.false_and, Bool.false_eq_true, if_false, Bool.and_self, if_true, hv, decide_eq_true_eq]
        rw [hdec]
        by_cases hok : ((if c.toNat = 224 then 160 else 128 : Int) ≤ b.toNat ∧ (b.toNat : Int) ≤ (if c.toNat = 237 then 159 else 191))
        · rw [if_pos hok, if_pos hok]
          have hok' := hv.trans (decide_eq_true hok)
          rw [val_iff] at hok'
          simp only [Bool.and_eq_true, decide_eq_true_eq] at hok'
          refine .inr ⟨by omega, rfl, ?_, by unfold Sgn; simp; omega⟩
          exact ofB_three (by simp; omega) (by simp; omega) (by simp; omega) (by simp; omega) (by simp; omega)
        · rw [if_neg hok, if_neg hok]
          exact .inl ⟨rfl, rfl⟩
  · -- four bytes
    rw [sgn_head c t (by omega) (by omega), if_neg (by omega), if_neg (by omega), if_neg (by omega), if_neg (by omega)]
    have a1 : (c.toNat / 32 == 6) = false := by simp; omega
    have a2 : (c.toNat / 16 == 14) = false := by simp; omega
    have a3 : (c.toNat / 8 == 30) = true := by simp; omega
    cases t with
    | nil => exact .inl ⟨rfl, by unfold decG; rw [if_neg (by omega)]; simp [a1, a2, contL]⟩
    | cons b t =>
      have hb := UInt8.toNat_lt b
      rw [sgn_more _ _ _ _ _ (by omega)]
      have k0 : contL (b :: t) 0 = (b.toNat / 64 == 2) := rfl
      have kk1 : contL (b :: t) 1 = contL t 0 := rfl
      have kk2 : contL (b :: t) 2 = contL t 1 := rfl
      have g0 : (List.getD (b :: t) 0 0).toNat = b.toNat := rfl
      have g1 : (List.getD (b :: t) 1 0).toNat = (List.getD t 0 0).toNat := rfl
      have g2 : (List.getD (b :: t) 2 0).toNat = (List.getD t 1 0).toNat := rfl
      rw [k0, kk1, kk2, g0, g1, g2, show (3 : Int) - 1 = 2 from rfl]
      by_cases hP : 128 ≤ b.toNat ∧ b.toNat ≤ 191
      case neg =>
        have k1 : (b.toNat / 64 == 2) = false := by simp; omega
        refine .inl ⟨if_neg (fun e => hP (by have := lowU_in (c.toNat - 240) 3; have := highU_in (c.toNat - 240) 3; omega)), ?_⟩
        unfold decG
        rw [if_neg (by omega), k1, a1, a2]
        simp
      have k1 : (b.toNat / 64 == 2) = true := by simp; omega
      have hlo : lowU (c.toNat - 240) 3 = if c.toNat = 240 then 144 else 128 := by unfold lowU; (repeat' split) <;> omega
      have hhi : highU (c.toNat - 240) 3 = if c.toNat = 244 then 143 else 191 := by unfold highU; (repeat' split) <;> omega
      rw [hlo, hhi]
      cases t with
      | nil => exact .inl ⟨by simp [sgnGo], by unfold decG; rw [if_neg (by omega)]; simp [a1, a2, contL]⟩
      | cons d t =>
        have hd := UInt8.toNat_lt d
        have k2 : contL (d :: t) 0 = (d.toNat / 64 == 2) := rfl
        have kk3 : contL (d :: t) 1 = contL t 0 := rfl
        have g3 : (List.getD (d :: t) 0 0).toNat = d.toNat := rfl
        have g4 : (List.getD (d :: t) 1 0).toNat = (List.getD t 0 0).toNat := rfl
        rw [k2, kk3, g3, g4, sgn_more _ _ _ _ _ (by omega), show (2 : Int) - 1 = 1 from rfl, sgn_last]
        by_cases hQ : 128 ≤ d.toNat ∧ d.toNat ≤ 191
        case neg =>
          have k3 : (d.toNat / 64 == 2) = false := by simp; omega
          have hq : ∀ sg : Int, ¬ (lowU sg 2 ≤ d.toNat ∧ (d.toNat : Int) ≤ highU sg 2) := fun sg e => hQ (by have := lowU_in sg 2; have := highU_in sg 2; omega)
          refine .inl ⟨by rw [if_neg (hq _)]; simp, ?_⟩
          unfold decG
          rw [if_neg (by omega), k3, a1, a2]
          simp
        have k3 : (d.toNat / 64 == 2) = true := by simp; omega
        have hok2 : (if c.toNat = 240 then 144 else 128 : Int) ≤ b.toNat → (lowU (((c.toNat : Int) - 240) * 64 + (b.toNat - 128)) 2 ≤ d.toNat ∧ (d.toNat : Int) ≤ highU (((c.toNat : Int) - 240) * 64 + (b.toNat - 128)) 2) := by
          intro hge
          by_cases h1 : c.toNat = 240
          · rw [if_pos h1] at hge
            unfold lowU highU
            rw [if_neg (by omega), if_neg (by omega), if_neg (by omega), if_neg (by omega)]
            omega
          · unfold lowU highU
            rw [if_neg (by omega), if_neg (by omega), if_neg (by omega), if_neg (by omega)]
            omega
        cases t with
        | nil => exact .inl ⟨by simp, by unfold decG; rw [if_neg (by omega)]; simp [a1, a2, contL]⟩
        | cons f t =>
          have hf := UInt8.toNat_lt f
          have k4 : contL (f :: t) 0 = (f.toNat / 64 == 2) := rfl
          have g5 : (List.getD (f :: t) 0 0).toNat = f.toNat := rfl
          rw [k4, g5]
          by_cases hR : 128 ≤ f.toNat ∧ f.toNat ≤ 191
          case neg =>
            have k5 : (f.toNat / 64 == 2) = false := by simp; omega
            refine .inl ⟨by simp only [if_neg hR]; simp, ?_⟩
            unfold decG
            rw [if_neg (by omega), k5, a1, a2]
            simp
          have k5 : (f.toNat / 64 == 2) = true := by simp; omega
          simp only [if_pos hR]
          have hv : (decide (c.toNat % 8 * 262144 + b.toNat % 64 * 4096 + d.toNat % 64 * 64 + f.toNat % 64 ≥ 65536) && Utf8.valid (c.toNat % 8 * 262144 + b.toNat % 64 * 4096 + d.toNat % 64 * 64 + f.toNat % 64 : Nat)) = decide (((if c.toNat = 240 then 144 else 128 : Int) ≤ b.toNat ∧ (b.toNat : Int) ≤ (if c.toNat = 244 then 143 else 191))) := by
            rw [val_iff, Bool.eq_iff_iff]
            simp only [Bool.and_eq_true, decide_eq_true_eq]
            by_cases h1 : c.toNat = 240
            · rw [if_pos h1, if_neg (by omega)]; omega
            · rw [if_neg h1]
              by_cases h2 : c.toNat = 244
              · rw [if_pos h2]; omega
              · rw [if_neg h2]; omega
          have hdec : decG c.toNat b.toNat d.toNat f.toNat (b.toNat / 64 == 2) (d.toNat / 64 == 2) (f.toNat / 64 == 2) = if ((if c.toNat = 240 then 144 else 128 : Int) ≤ b.toNat ∧ (b.toNat : Int) ≤ (if c.toNat = 244 then 143 else 191)) then (c.toNat % 8 * 262144 + b.toNat % 64 * 4096 + d.toNat % 64 * 64 + f.toNat % 64, 4) else (65533, 1) := by
            unfold decG
            rw [if_neg (by omega), a1, a2, a3, k1, k3, k5]
            simp only [Bool.false_and, Bool.false_eq_true, if_false, Bool.and_self, if_true, hv, decide_eq_true_eq]
          rw [hdec]
          by_cases hok : ((if c.toNat = 240 then 144 else 128 : Int) ≤ b.toNat ∧ (b.toNat : Int) ≤ (if c.toNat = 244 then 143 else 191))
          · rw [if_pos hok, if_pos hok, if_pos (hok2 hok.1)]
            have hok' := hv.trans (decide_eq_true hok)
            rw [val_iff] at hok'
            simp only [Bool.and_eq_true, decide_eq_true_eq] at hok'
            refine .inr ⟨by omega, rfl, ?_, by unfold Sgn; simp; omega⟩
            exact ofB_four (by simp; omega) (by simp; omega) (by simp; omega) (by simp; omega) (by simp; omega)
          · rw [if_neg hok, if_neg hok]
            exact .inl ⟨rfl, rfl⟩
  · refine .inl ⟨sgn_none c t (by omega), ?_⟩
    unfold decG
    have a1 : (c.toNat / 32 == 6) = false := by simp; omega
    have a2 : (c.toNat / 16 == 14) = false := by simp; omega
    have hx : ∀ x y z : Nat, Utf8.valid ((c.toNat % 8 * 262144 + x % 64 * 4096 + y % 64 * 64 + z % 64 : Nat) : Int) = false := fun x y z => by rw [val_iff]; simp; omega
    rw [if_neg (by omega)]
    simp only [a1, a2, hx, Bool.false_and, Bool.and_false, Bool.false_eq_true, if_false]
    simp
  · refine .inl ⟨sgn_none c t (by omega), ?_⟩
    unfold decG
    have a1 : (c.toNat / 32 == 6) = false := by simp; omega
    have a2 : (c.toNat / 16 == 14) = false := by simp; omega
    have a3 : (c.toNat / 8 == 30) = false := by simp; omega
    rw [if_neg (by omega)]
    simp [a1, a2, a3]

end Go.Proofs.YthpkcapooeedeaaDoor

namespace Go.Proofs.YthpkcapooeedeaaDoor
open Go.RowKit

/-- The place of a sign among those that have an escape of one letter; -1: it is none. -/
def idxI (v : Int) : Int := if v = 34 then 0 else if v = 92 then 1 else if v = 8 then 2 else if v = 12 then 3 else if v = 10 then 4 else if v = 13 then 5 else if v = 9 then 6 else -1
/-- The letter at such a place. -/
def letOf (v : Int) : Int := if v = 34 then 34 else if v = 92 then 92 else if v = 8 then 98 else if v = 12 then 102 else if v = 10 then 110 else if v = 13 then 114 else 116
/-- What the string has for a sign. -/
def pieceR (v : Int) : List UInt8 := if 0 ≤ idxI v then [92, UInt8.ofNat (letOf v).toNat] else if v < 32 then [92, 117, 48, 48, lowB (v.toNat / 16), lowB (v.toNat % 16)] else ofB v

theorem piece_sgn (c : UInt8) (t : List UInt8) {d : Nat × Nat} (h : DecOk (c :: t) d) : pieceP (c :: t) (sgnL (c :: t)) = pieceR d.1 ∧ goOn (sgnL (c :: t)) = d.2 ∧ Sgn d.1 := by
  rcases h with ⟨h0, rfl⟩ | ⟨h0, h2, hb, hs⟩
  · rw [h0]
    refine ⟨?_, rfl, by unfold Sgn; omega⟩
    rfl
  · refine ⟨?_, by unfold goOn; rw [if_neg h0, h2], hs⟩
    unfold pieceP
    simp only [if_neg h0]
    by_cases hc : c.toNat < 128
    · have h1 := sgn_small c t hc
      rw [h1] at hb ⊢
      have hv : (d.1 : Int) = c.toNat := by
        have hl := ofB_len d.1
        have hb : ofB d.1 = [c] := hb
        unfold ofB at hb
        obtain ⟨hs0, _, _⟩ := hs
        rcases ofI_is (n := (d.1 : Int)) with ⟨hlt, e⟩ | ⟨_, _, e⟩ | ⟨_, _, e⟩ | ⟨_, e⟩
        · rw [e] at hb
          simp at hb
          have := congrArg UInt8.toNat hb
          simp at this
          omega
        all_goals (rw [e] at hb; simp at hb)
      rw [hv]
      unfold pieceR
      rw [Int.toNat_natCast]
      by_cases he : escB c ≠ 0
      · rw [if_pos he]
        have hc := esc_cases he
        rcases hc with rfl | rfl | rfl | rfl | rfl | rfl | rfl <;> rfl
      · rw [if_neg he]
        have hn : idxI c.toNat = -1 := by
          have he : escB c = 0 := by simpa using he
          unfold escB at he
          have hne : ∀ (k : UInt8) (n : Int), (k.toNat : Int) = n → c ≠ k → ¬ (c.toNat : Int) = n := fun k n hn h e => h (UInt8.toNat_inj.1 (by omega))
          have h1 : c ≠ 34 := fun e => by subst e; exact absurd he (by decide)
          have h2 : c ≠ 92 := fun e => by subst e; exact absurd he (by decide)
          have h3 : c ≠ 8 := fun e => by subst e; exact absurd he (by decide)
          have h4 : c ≠ 12 := fun e => by subst e; exact absurd he (by decide)
          have h5 : c ≠ 10 := fun e => by subst e; exact absurd he (by decide)
          have h6 : c ≠ 13 := fun e => by subst e; exact absurd he (by decide)
          have h7 : c ≠ 9 := fun e => by subst e; exact absurd he (by decide)
          unfold idxI
          rw [if_neg (hne 34 34 rfl h1), if_neg (hne 92 92 rfl h2), if_neg (hne 8 8 rfl h3), if_neg (hne 12 12 rfl h4), if_neg (hne 10 10 rfl h5), if_neg (hne 13 13 rfl h6), if_neg (hne 9 9 rfl h7)]
        rw [hn, if_neg (show ¬ (0 : Int) ≤ -1 by omega)]
        by_cases h32 : c.toNat < 32
        · rw [if_pos h32, if_pos (by omega)]
        · rw [if_neg h32, if_neg (by omega)]
          exact (ofB_one (by omega) rfl).symm
    · have hge : 128 ≤ (d.1 : Int) := by
        by_cases hlt : (d.1 : Int) < 128
        · exfalso
          have hlen : 2 ≤ (ofB d.1).length ∨ 2 ≤ sgnL (c :: t) := by
            right
            rw [sgn_cons] at h0 ⊢
            split at h0
            · rename_i hok
              rw [if_pos hok]
              split at h0
              · rename_i hz
                exfalso
                unfold lfU at hz
                rw [if_pos rfl, if_neg (by omega)] at hz
                revert hz
                (repeat' split) <;> omega
              · rename_i hz
                rw [if_neg hz]
                have := sgn_split _ _ _ _ _ rfl h0
                omega
            · exact absurd rfl h0
          have e : ofB d.1 = [UInt8.ofNat d.1] := by
            unfold ofB
            rcases ofI_is (n := (d.1 : Int)) with ⟨_, e⟩ | ⟨_, _, e⟩ | ⟨_, _, e⟩ | ⟨_, e⟩ <;> first | (rw [e]; rfl) | (exfalso; omega)
          have hsp := sgn_split (c :: t) 0 0 0 _ rfl h0
          have hl := congrArg List.length hb
          rw [e] at hl hlen
          rw [List.length_take] at hl
          have : sgnL (c :: t) ≤ 0 + (c :: t).length := hsp.2
          simp only [List.length_cons, List.length_nil] at hl hlen this
          omega
        · omega
      have he : escB c = 0 := by
        by_cases he : escB c = 0
        · exact he
        · rcases esc_cases he with rfl | rfl | rfl | rfl | rfl | rfl | rfl <;> exact absurd hc (by decide)
      rw [if_neg (by simp [he]), if_neg (by omega), ← hb]
      unfold pieceR
      have hn : idxI d.1 = -1 := by
        unfold idxI
        rw [if_neg (by omega), if_neg (by omega), if_neg (by omega), if_neg (by omega), if_neg (by omega), if_neg (by omega), if_neg (by omega)]
      rw [hn, if_neg (by omega), if_neg (by omega)]

/-- A text's string, one sign further. -/
theorem dput_step (s : ByteArray) (pos f : Nat) (h : pos < s.size) :
    putGo (f + 1) (s.data.toList.drop pos) = pieceR (Utf8.decode s pos).1 ++ putGo f (s.data.toList.drop (pos + (Utf8.decode s pos).2)) ∧ Sgn (Utf8.decode s pos).1 ∧ 1 ≤ (Utf8.decode s pos).2 ∧ pos + (Utf8.decode s pos).2 ≤ s.size := by
  have hl : (s.data.toList.drop pos).length = s.size - pos := by simp
  have hd := dec_list s pos h
  cases hc : s.data.toList.drop pos with
  | nil => rw [hc] at hl; simp at hl; omega
  | cons c t =>
    rw [hc] at hd hl
    have hk := dec_sgn c t
    rw [← hd] at hk
    obtain ⟨h1, h2, h3⟩ := piece_sgn c t hk
    have hp := piece_len c t
    rw [h2] at hp
    refine ⟨?_, h3, hp.2.2, by omega⟩
    show (if c :: t = [] then [] else pieceP (c :: t) (sgnL (c :: t)) ++ putGo f ((c :: t).drop (goOn (sgnL (c :: t))))) = _
    rw [if_neg (by simp), h1, h2, ← hc, List.drop_drop]

theorem pieceR_len (v : Int) : 1 ≤ (pieceR v).length ∧ (pieceR v).length ≤ 6 := by
  have h1 := ofB_pos v
  have h2 := ofB_len v
  unfold pieceR
  split
  · simp
  · split
    · simp
    · omega
theorem putGo_nil (f : Nat) : putGo f [] = [] := by cases f <;> simp [putGo]

end Go.Proofs.YthpkcapooeedeaaDoor

namespace Go.Proofs.YthpkcapooeedeaaDoor
open Go.RowKit
set_option linter.unusedVariables false

/-- Of the blocks that were there only those of F may differ. -/
structure Touch (F : Nat → Prop) (w w' : World) : Prop where
  os : w'.os = w.os
  tape : w'.tape = w.tape
  output : w'.output = w.output
  size : w.heap.size ≤ w'.heap.size
  block : ∀ k, k < w.heap.size → ¬ F k → w'.heap[k]? = w.heap[k]?

section
variable {F G : Nat → Prop} {w w' w'' : World}
theorem Touch.refl (F : Nat → Prop) (w : World) : Touch F w w := ⟨rfl, rfl, rfl, Nat.le_refl _, fun _ _ _ => rfl⟩
theorem Touch.trans (h : Touch F w w') (g : Touch G w' w'') (hs : ∀ k, k < w.heap.size → G k → F k) : Touch F w w'' :=
  ⟨g.os.trans h.os, g.tape.trans h.tape, g.output.trans h.output, Nat.le_trans h.size g.size,
   fun k hk hn => (g.block k (Nat.lt_of_lt_of_le hk h.size) (fun e => hn (hs k hk e))).trans (h.block k hk hn)⟩
theorem Touch.mono (h : Touch F w w') (hs : ∀ k, k < w.heap.size → F k → G k) : Touch G w w' :=
  ⟨h.os, h.tape, h.output, h.size, fun k hk hn => h.block k hk (fun e => hn (hs k hk e))⟩
theorem Touch.of_below {B : Nat} (h : Below B w w') (hs : ∀ k, k < w.heap.size → B ≤ k → F k) : Touch F w w' :=
  ⟨h.os, h.tape, h.output, h.size, fun k hk hn => h.block k (by
    by_cases hb : k < B
    · exact hb
    · exact absurd (hs k hk (by omega)) hn)⟩
theorem Touch.of_new (h : Below w.heap.size w w') : Touch F w w' := Touch.of_below h (fun k hk hB => absurd hB (by omega))
theorem Touch.below {B : Nat} (h : Touch F w w') (hs : ∀ k, k < w.heap.size → F k → B ≤ k) (hB : B ≤ w.heap.size) : Below B w w' :=
  ⟨h.os, h.tape, h.output, h.size, fun k hk => h.block k (by omega) (fun e => by have := hs k (by omega) e; omega)⟩
theorem Touch.of_turned {b : Nat} (h : Turned b w w') (hb : F b) : Touch F w w' :=
  ⟨h.1, h.2.1, h.2.2.1, h.2.2.2.1, fun k hk hn => h.2.2.2.2 k hk (fun e => hn (e ▸ hb))⟩
theorem Touch.alloc (h : Touch F w w') (o : Obj) : Touch F w (w'.alloc o) :=
  h.trans (Touch.of_new (F := F) ((Below.refl _ _).alloc (Nat.le_refl _) o)) (fun _ _ h => h)
theorem Touch.drewN (h : Touch F w w') (q : Nat) : Touch F w (w'.drewN q) := ⟨h.os, h.tape, h.output, h.size, h.block⟩
theorem Touch.setCell (h : Touch F w w') {p : Addr} (hp : F p.block ∨ w.heap.size ≤ p.block) (u : Value) : Touch F w (w'.setCell p u) :=
  ⟨h.os, h.tape, h.output, by have := h.size; simp [World.setCell]; omega, fun k hk hn => (Below.heap_setCell w' p u k (fun e => by
    rcases hp with hp | hp
    · exact hn (e ▸ hp)
    · omega)).trans (h.block k hk hn)⟩
theorem Touch.grown {row : Option Nat} (h : Touch F w w') (hg : w'.grownBy w'' row) (hr : ∀ k, row = some k → F k ∨ w.heap.size ≤ k) : Touch F w w'' :=
  ⟨hg.os.trans h.os, hg.tape.trans h.tape, hg.output.trans h.output, Nat.le_trans h.size hg.size, fun k hk hn => (hg.block k (Nat.lt_of_lt_of_le hk h.size) (fun e => by
    rcases hr k e.symm with hh | hh
    · exact hn hh
    · omega)).trans (h.block k hk hn)⟩
theorem Touch.own {b : Nat} {t : TypeId} {cs : Array Value} (h : Touch F w w') (ho : Own w b t cs) (hn : ¬ F b) : Own w' b t cs := (h.block b ho.inside hn).trans ho
theorem Touch.row {base : Nat} {e : TypeId} {v : Value} {n : Nat} {xs : List Value} (h : Touch F w w') (ho : w.ownsRow base e 1 v n xs) (hn : ∀ g, v.ownBlock = some g → ¬ F g) : w'.ownsRow base e 1 v n xs := by
  refine ⟨ho.1, ?_⟩
  rcases ho.2 with hh | ⟨g, c, cur, rfl, hb, hg, rest⟩
  · exact .inl hh
  · exact .inr ⟨g, c, cur, rfl, hb, (h.block g (Array.getElem?_eq_some_iff.1 hg).1 (hn g rfl)).trans hg, rest⟩

/-- What a slice of one-cell elements reads as; its cells lie in a block of G. -/
def RdS (w : World) (G : Nat → Prop) (A : Option Addr) (n : Nat) (xs : List Value) : Prop :=
  xs.length = n ∧ (0 < n → ∃ ad : Addr, A = some ad ∧ G ad.block ∧ ∀ j u, xs[j]? = some u → w.cell? (ad.add j) = some u)

variable {A : Option Addr} {n : Nat} {xs : List Value}
theorem RdS.live (h : RdS w G A n xs) : Rd w w.heap.size A n xs :=
  ⟨h.1, fun hn => by
    obtain ⟨ad, e, _, hc⟩ := h.2 hn
    have h0 : 0 < xs.length := by have := h.1; omega
    have := cell_inside (hc 0 xs[0] (List.getElem?_eq_getElem h0))
    rw [add_block] at this
    exact ⟨ad, e, this, hc⟩⟩
theorem RdS.stay (h : RdS w G A n xs) (ht : Touch F w w') (hd : ∀ k, k < w.heap.size → G k → ¬ F k) : RdS w' G A n xs :=
  ⟨h.1, fun hn => by
    obtain ⟨ad, e, hg, hc⟩ := h.2 hn
    refine ⟨ad, e, hg, fun j u hu => ?_⟩
    have := hc j u hu
    have hin := cell_inside this
    rw [add_block] at hin
    rw [World.cell?_of_block (w := w) (by rw [add_block]; exact ht.block _ hin (hd _ hin hg))]
    exact this⟩
theorem RdS.mono (h : RdS w F A n xs) (hs : ∀ k, k < w.heap.size → F k → G k) : RdS w G A n xs :=
  ⟨h.1, fun hn => by
    obtain ⟨ad, e, hg, hc⟩ := h.2 hn
    have h0 : 0 < xs.length := by have := h.1; omega
    have := cell_inside (hc 0 xs[0] (List.getElem?_eq_getElem h0))
    rw [add_block] at this
    exact ⟨ad, e, hs _ this hg, hc⟩⟩
theorem Rd.toS {B : Nat} (h : Rd w B A n xs) : RdS w (· < B) A n xs := h
theorem RdS.of_row {base c : Nat} {e : TypeId} (h : w.ownsRow base e 1 (.slice A n c) n xs) (hG : ∀ g, base ≤ g → g < w.heap.size → G g) : RdS w G A n xs := by
  refine ⟨by simpa using h.1, fun hn => ?_⟩
  have hl := h.lt
  rcases h.2 with ⟨_, h0⟩ | ⟨g, cap, cur, hv, hb, hg, _⟩
  · omega
  · injection hv with hA _ _
    subst hA
    have := hl g rfl
    exact ⟨_, rfl, hG _ this.1 this.2, h.cells (g := g) rfl⟩
end

end Go.Proofs.YthpkcapooeedeaaDoor

namespace Go.Proofs.YthpkcapooeedeaaDoor
open Go.RowKit Go.ChangeShapes

mutual
/-- The cells of a datum that is plain. -/
def flatD {H : Type} : DataW H → Option (List Value)
  | .lit (.bool b) => some [.bool b]
  | .lit (.int k n) => some [.int k n]
  | .lit (.string l) => some [.string ⟨l.toArray⟩]
  | .agg parts => flatAll parts
  | _ => none
def flatAll {H : Type} : List (DataW H) → Option (List Value)
  | [] => some []
  | d :: r => match flatD d, flatAll r with
    | some a, some b => some (a ++ b)
    | _, _ => none
end

theorem flatAll_cons {H : Type} {d : DataW H} {r : List (DataW H)} {l : List Value} (h : flatAll (d :: r) = some l) : ∃ a b, flatD d = some a ∧ flatAll r = some b ∧ l = a ++ b := by
  unfold flatAll at h
  split at h
  · rename_i a b ha hb
    exact ⟨a, b, ha, hb, (Option.some.inj h).symm⟩
  · cases h

theorem flat_parts {H : Type} : ∀ (ns : List Nat) (xs : List (DataW H × List MemPlace)) (cs l : List Value), cs.length = ns.sum → ns.length = xs.length →
    (∀ (i n : Nat) x m, ns[i]? = some n → xs[i]? = some x → flatD x.1 = some m → (cs.drop (ns.take i).sum).take n = m) → flatAll (xs.map (·.1)) = some l → cs = l
  | [], [], cs, l, hl, _, _, hf => by
    have e : l = [] := by simpa [flatAll] using hf.symm
    rw [e]
    exact List.eq_nil_of_length_eq_zero (by simpa using hl)
  | n :: r, x :: t, cs, l, hl, hn, hp, hf => by
    obtain ⟨a, b, ha, hb, rfl⟩ := flatAll_cons (by simpa using hf)
    have h0 := hp 0 n x a rfl rfl ha
    simp only [List.take_zero, List.sum_nil, List.drop_zero] at h0
    have hr := flat_parts r t (cs.drop n) b (by simp at hl ⊢; omega) (by simpa using hn) (fun i n' x' m hi hx hm => by
      have := hp (i + 1) n' x' m hi hx hm
      rw [List.take_succ_cons, List.sum_cons] at this
      rw [List.drop_drop]
      exact this) hb
    rw [← h0, ← hr, List.take_append_drop]
  | [], _ :: _, _, _, _, hn, _, _ => by simp at hn
  | _ :: _, [], _, _, _, hn, _, _ => by simp at hn

theorem trod_flat {H : Type} {enc : TypeId × Value → H} {P : Program} {w : World} {base : Nat} {sp : Nat → Bool} {held : Bool} (hl : laidOutB P = true) :
    ∀ (fuel : Nat) (t : TypeId) (cs : List Value) (d : DataW H) (p : List MemPlace) (l : List Value), t < P.types.size → DataW.trod enc P w base sp held fuel t cs = some (d, p) → flatD d = some l → cs = l := by
  intro fuel
  induction fuel with
  | zero => intro t cs d p l _ h; simp [DataW.trod] at h
  | succ n ih =>
    intro t cs d p l ht h hf
    cases hu : P.underlying t with
    | none => simp [DataW.trod, hu] at h
    | some u =>
      by_cases hs : ∃ fs, u = .struct fs
      · obtain ⟨fs, rfl⟩ := hs
        obtain ⟨xs, m, hm, hx, hlen, hxl, hall⟩ := DataW.trod_struct hu h
        obtain rfl : n = m := by omega
        obtain ⟨k1, k2, k3⟩ := kid_struct hl ht hu
        simp only [Prod.mk.injEq] at hx
        obtain ⟨rfl, rfl⟩ := hx
        refine flat_parts (fs.toList.map fun f => P.cellsOf f.type) xs cs l (hlen.trans k2) (by simp [hxl]) (fun i n' x m hi hx hm => ?_) (by simpa [flatD] using hf)
        rw [List.getElem?_map, Option.map_eq_some_iff] at hi
        obtain ⟨f, hfi, rfl⟩ := hi
        have := hall i f (by simpa using hfi)
        rw [hx] at this
        have ho := k3 i f hfi
        rw [← List.map_take] 
        rw [ho] at this
        exact ih _ _ _ _ _ (k1 f (List.mem_of_getElem? hfi)) this hm
      by_cases ha : ∃ k e, u = .array k e
      · obtain ⟨k, e, rfl⟩ := ha
        obtain ⟨xs, m, hm, hx, hlen, hxl, hall⟩ := DataW.trod_array hu h
        obtain rfl : n = m := by omega
        obtain ⟨k1, k2⟩ := kid_array hl ht hu
        simp only [Prod.mk.injEq] at hx
        obtain ⟨rfl, rfl⟩ := hx
        refine flat_parts (List.replicate k (P.cellsOf e)) xs cs l (by rw [hlen, k2]; simp) (by simp [hxl]) (fun i n' x m hi hx hm => ?_) (by simpa [flatD] using hf)
        rw [List.getElem?_replicate] at hi
        split at hi
        · rename_i hik
          obtain rfl := Option.some.inj hi
          have := hall i hik
          rw [hx] at this
          rw [show ((List.replicate k (P.cellsOf e)).take i).sum = i * P.cellsOf e by rw [List.take_replicate, Nat.min_eq_left (Nat.le_of_lt hik)]; simp]
          exact ih _ _ _ _ _ k1 this hm
        · cases hi
      by_cases hi : ∃ k, u = .int k
      · obtain ⟨k, rfl⟩ := hi
        obtain ⟨m, rfl, hx, _⟩ := DataW.trod_int hu h
        cases hx
        simpa [flatD] using hf
      by_cases hc : ∃ e, u = .slice e
      · obtain ⟨e, rfl⟩ := hc
        exfalso
        unfold DataW.trod at h
        rw [hu] at h
        split at h
        all_goals first
          | (cases h; done)
          | (exfalso; simp_all; done)
          | (cases h; simp [flatD] at hf; done)
          | skip
        simp only at h
        split at h
        · obtain ⟨y, _, hy⟩ := Option.bind_eq_some_iff.1 h
          obtain ⟨z, _, hz⟩ := Option.map_eq_some_iff.1 hy
          cases hz
          simp [flatD] at hf
        · cases h
      by_cases hm : ∃ k e, u = .map k e
      · obtain ⟨k, e, rfl⟩ := hm
        exfalso
        unfold DataW.trod at h
        rw [hu] at h
        split at h
        all_goals first
          | (cases h; done)
          | (exfalso; simp_all; done)
          | (cases h; simp [flatD] at hf; done)
          | skip
        simp only at h
        split at h
        · split at h
          · obtain ⟨y, _, hy⟩ := Option.bind_eq_some_iff.1 h
            split at hy
            · cases hy
              simp [flatD] at hf
            · cases hy
          · cases h
        · cases h
      unfold DataW.trod at h
      rw [hu] at h
      split at h
      all_goals first
        | (cases h; done)
        | (exfalso; simp_all; done)
        | (cases h; simp [flatD] at hf; done)
        | (cases h; simpa [flatD] using hf)
        | (split at h <;> cases h <;> simp [flatD] at hf <;> exact hf)
        | (split at h <;> cases h <;> simp [flatD] at hf <;> done)
        | (obtain ⟨y, _, hy⟩ := Option.map_eq_some_iff.1 h; cases hy; simp [flatD] at hf; done)
        | (split at h <;> first | (cases h; done) | (cases h; simp [flatD] at hf; done) | (obtain ⟨y, _, hy⟩ := Option.map_eq_some_iff.1 h; cases hy; simp [flatD] at hf; done))

theorem laidVars_own {P : Program} (hl : laidOutB P = true) {W : World} {name : String} {d : DataW Unit} {g : Nat} {l : List Value} (hf : flatD d = some l) (hne : l ≠ []) (hg : P.globalNamed name = some g) :
    ∀ {laid : List (String × DataW Unit)} {ps : List MemPlace}, DataW.LaidVars P W laid ps → (∀ b off, MemPlace.cell b off ∈ ps → ∃ c t, W.heap[b]? = some (.cells c t (0, 0))) → (name, d) ∈ laid → ∃ t, Own W g t l.toArray
  | [], _, _, _, hm => by cases hm
  | (n, e) :: r, ps, ⟨g', t, cs, fuel, p, q, h1, h2, h3, h4, h5, h6⟩, hps, hm => by
    subst h6
    rcases List.mem_cons.1 hm with h | h
    · obtain ⟨rfl, rfl⟩ := Prod.mk.inj h
      obtain rfl := Option.some.inj (hg.symm.trans h1)
      have hcs : cs.toList = l := trod_flat hl _ _ _ _ _ _ (global_row hl h2) h4 hf
      have hpos : 0 < cs.size := by
        rcases Nat.eq_zero_or_pos cs.size with hz | hz
        · exact absurd (hcs.symm.trans (List.eq_nil_of_length_eq_zero (by simpa using hz))) hne
        · exact hz
      obtain ⟨c, t', hc⟩ := hps g 0 (by
        refine List.mem_append_left _ (List.mem_append_left _ ?_)
        unfold MemPlace.row
        simp
        exact hpos)
      have : W.var? P name = some c := by
        unfold World.var?
        rw [h1]
        simp [hc]
      rw [h3] at this
      obtain rfl := Option.some.inj this
      refine ⟨t', ?_⟩
      rw [← hcs]
      exact hc
    · exact laidVars_own hl hf hne hg h5 (fun b off hb => hps b off (List.mem_append_right _ hb)) h

/-- A listed variable of plain data lies in its block, cell by cell. -/
theorem laid_own {P : Program} (hl : laidOutB P = true) {W : World} {laid : List (String × DataW Unit)} (hn : (laid.all fun x => x.2.handleName?.isNone) = true) (h : laidMetH P laid W) {name : String} {d : DataW Unit} {g : Nat} {l : List Value}
    (hm : (name, d) ∈ laid) (hf : flatD d = some l) (hne : l ≠ []) (hg : P.globalNamed name = some g) : ∃ t, Own W g t l.toArray := by
  have h' : laidMet P laid W := by
    unfold laidMetH at h
    have : (laid.filter fun x => x.2.handleName?.isSome) = [] := by
      rw [List.filter_eq_nil_iff]
      intro x hx
      have := List.all_eq_true.1 hn x hx
      simpa using this
    rw [this] at h
    exact h
  obtain ⟨ps, hv, _, hps⟩ := h'
  exact laidVars_own hl hf hne hg hv (fun b off hb => (hps b off hb).1) hm

end Go.Proofs.YthpkcapooeedeaaDoor

namespace Go.Proofs.YthpkcapooeedeaaDoor
open Go.RowKit

def wT : ByteArray := ⟨#[116, 114, 117, 101]⟩
def wF : ByteArray := ⟨#[102, 97, 108, 115, 101]⟩
def wN : ByteArray := ⟨#[110, 117, 108, 108]⟩
def tabV : Array Value := #[.string wT, .int .i64 1, .string wF, .int .i64 1, .string wN, .int .i64 0]
/-- The table of words lies in its block. -/
def Tab (w : World) : Prop := ∃ t, Own w 0 t tabV

theorem Tab.cells {w : World} (h : Tab w) : w.cell? ⟨0, 0, none⟩ = some (.string wT) ∧ w.cell? ⟨0, 1, none⟩ = some (.int .i64 1) ∧ w.cell? ⟨0, 2, none⟩ = some (.string wF) ∧
    w.cell? ⟨0, 3, none⟩ = some (.int .i64 1) ∧ w.cell? ⟨0, 4, none⟩ = some (.string wN) ∧ w.cell? ⟨0, 5, none⟩ = some (.int .i64 0) := by
  obtain ⟨t, h⟩ := h
  exact ⟨h.at 0, h.at 1, h.at 2, h.at 3, h.at 4, h.at 5⟩
theorem Tab.stay {w w' : World} {B : Nat} (h : Tab w) (hb : Below B w w') (hB : 0 < B) : Tab w' := by
  obtain ⟨t, h⟩ := h
  exact ⟨t, h.stay hb hB⟩

theorem at0 (w : World) : (Instr.index 126 (.agg #[.string wT, .int .i64 1, .string wF, .int .i64 1, .string wN, .int .i64 0]) (.int .i64 0)).run Tryd.prog w = .ok (.agg #[.string wT, .int .i64 1]) w := by kernel_rfl
theorem at1 (w : World) : (Instr.index 126 (.agg #[.string wT, .int .i64 1, .string wF, .int .i64 1, .string wN, .int .i64 0]) (.int .i64 1)).run Tryd.prog w = .ok (.agg #[.string wF, .int .i64 1]) w := by kernel_rfl
theorem at2 (w : World) : (Instr.index 126 (.agg #[.string wT, .int .i64 1, .string wF, .int .i64 1, .string wN, .int .i64 0]) (.int .i64 2)).run Tryd.prog w = .ok (.agg #[.string wN, .int .i64 0]) w := by kernel_rfl

theorem zT : wT.size = 4 := rfl
theorem zF : wF.size = 5 := rfl
theorem zN : wN.size = 4 := rfl
theorem hdT (h : 0 < wT.size) : (wT[0].toNat : Int) = 116 := rfl
theorem hdF (h : 0 < wF.size) : (wF[0].toNat : Int) = 102 := rfl
theorem hdN (h : 0 < wN.size) : (wN[0].toNat : Int) = 110 := rfl

theorem below3 (w : World) (a b c : Obj) : Below w.heap.size w (((w.alloc a).alloc b).alloc c) :=
  have h := below2 w a b
  h.alloc h.size c

set_option maxHeartbeats 1000000 in
theorem begun_t (W : World) (h : Tab W) :
    Calls Tryd.prog 77 #[.int .u8 116] W fun e w' => e = .returned (.string wT) ∧ Below W.heap.size W w' := by
  obtain ⟨c0, c1, c2, c3, c4, c5⟩ := h.cells
  have i0 := at0
  have zt : 0 < wT.size := by decide
  have ht := hdT zt
  go_enter Tryd.func77, Tryd.ntmps77
  go_wp2
  refine wp_loop_rounds 3 ?_
  rw [rounds_succ]
  go_wp2
  go_ret
  exact ⟨rfl, (Below.refl _ _).alloc (Nat.le_refl _) _⟩

set_option maxHeartbeats 1000000 in
theorem begun_f (W : World) (h : Tab W) :
    Calls Tryd.prog 77 #[.int .u8 102] W fun e w' => e = .returned (.string wF) ∧ Below W.heap.size W w' := by
  obtain ⟨c0, c1, c2, c3, c4, c5⟩ := h.cells
  have i0 := at0
  have i1 := at1
  have zt : 0 < wT.size := by decide
  have ht := hdT zt
  have zf : 0 < wF.size := by decide
  have hf := hdF zf
  go_enter Tryd.func77, Tryd.ntmps77
  go_wp2
  refine wp_loop_rounds 3 ?_
  rw [rounds_succ]
  go_wp2
  rw [rounds_succ]
  go_wp2
  go_ret
  exact ⟨rfl, below2 _ _ _⟩

set_option maxHeartbeats 1000000 in
theorem begun_n (W : World) (h : Tab W) :
    Calls Tryd.prog 77 #[.int .u8 110] W fun e w' => e = .returned (.string wN) ∧ Below W.heap.size W w' := by
  obtain ⟨c0, c1, c2, c3, c4, c5⟩ := h.cells
  have i0 := at0
  have i1 := at1
  have i2 := at2
  have zt : 0 < wT.size := by decide
  have ht := hdT zt
  have zf : 0 < wF.size := by decide
  have hf := hdF zf
  have zn : 0 < wN.size := by decide
  have hn := hdN zn
  go_enter Tryd.func77, Tryd.ntmps77
  go_wp2
  refine wp_loop_rounds 4 ?_
  rw [rounds_succ]
  go_wp2
  rw [rounds_succ]
  go_wp2
  rw [rounds_succ]
  go_wp2
  go_ret
  exact ⟨rfl, below3 _ _ _ _⟩

set_option maxHeartbeats 1000000 in
theorem begun_no (c : Int) (h1 : c ≠ 116) (h2 : c ≠ 102) (h3 : c ≠ 110) (W : World) (h : Tab W) :
    Calls Tryd.prog 77 #[.int .u8 c] W fun e w' => e = .returned (.string ⟨#[]⟩) ∧ Below W.heap.size W w' := by
  obtain ⟨c0, c1, c2, c3, c4, c5⟩ := h.cells
  have i0 := at0
  have i1 := at1
  have i2 := at2
  have zt : 0 < wT.size := by decide
  have ht := hdT zt
  have zf : 0 < wF.size := by decide
  have hf := hdF zf
  have zn : 0 < wN.size := by decide
  have hn := hdN zn
  have g1 : ((116 : Int) == c) = false := beq_eq_false_iff_ne.2 (Ne.symm h1)
  have g2 : ((102 : Int) == c) = false := beq_eq_false_iff_ne.2 (Ne.symm h2)
  have g3 : ((110 : Int) == c) = false := beq_eq_false_iff_ne.2 (Ne.symm h3)
  go_enter Tryd.func77, Tryd.ntmps77
  go_wp2
  refine wp_loop_rounds 4 ?_
  rw [rounds_succ]
  go_wp2
  rw [rounds_succ]
  go_wp2
  rw [rounds_succ]
  go_wp2
  rw [rounds_succ]
  go_wp2
  go_ret
  exact ⟨rfl, below3 _ _ _ _⟩

set_option maxHeartbeats 1000000 in
theorem lword_any (b k : Nat) (t : ByteArray) (w : World) (h : Own w b 77 #[.string t, .int .i64 k]) (hk : k ≤ t.size) :
    Calls Tryd.prog 61 #[.pointer (some ⟨b, 0, none⟩)] w fun e w' => e = .returned (.string (t.extract 0 k)) ∧ ∃ q, w' = w.drewN q := by
  have c0 := h.at 0
  have c1 := h.at 1
  simp at c0 c1
  go_enter Tryd.func61, Tryd.ntmps61
  go_wp2
  go_quiet (fail)
  go_wp2
  go_ret
  exact ⟨rfl, _, rfl⟩

/-- Behind the end. -/
theorem lstep_end (b k : Nat) (t : ByteArray) (c : Int) (w : World) (h : Own w b 77 #[.string t, .int .i64 k]) (h0 : 0 < k) (hk : k = t.size) :
    Calls Tryd.prog 60 #[.pointer (some ⟨b, 0, none⟩), .int .u8 c] w fun e w' => e = .returned (.int .i64 2) ∧ w = w' := by
  have c0 := h.at 0
  have c1 := h.at 1
  simp at c0 c1
  have g0 : ((k : Int) == 0) = false := beq_eq_false_iff_ne.2 (by omega)
  subst hk
  go_enter Tryd.func60, Tryd.ntmps60
  go_wp2
  go_ret
  exact ⟨rfl, rfl⟩

theorem lstep_no (b k : Nat) (t : ByteArray) (c : Int) (w : World) (h : Own w b 77 #[.string t, .int .i64 k]) (h0 : 0 < k) (hk : k < t.size) (hc : (t[k].toNat : Int) ≠ c) :
    Calls Tryd.prog 60 #[.pointer (some ⟨b, 0, none⟩), .int .u8 c] w fun e w' => e = .returned (.int .i64 2) ∧ w = w' := by
  have c0 := h.at 0
  have c1 := h.at 1
  simp at c0 c1
  have g0 : ((k : Int) == 0) = false := beq_eq_false_iff_ne.2 (by omega)
  have g1 : ((k : Int) == t.size) = false := beq_eq_false_iff_ne.2 (by omega)
  have g2 : ((t[k].toNat : Int) != c) = true := by simp [hc]
  clear hc
  go_enter Tryd.func60, Tryd.ntmps60
  go_wp2
  go_ret
  exact ⟨rfl, rfl⟩

theorem lstep_goes (b k : Nat) (t : ByteArray) (c : Int) (w : World) (h : Own w b 77 #[.string t, .int .i64 k]) (hz : t.size ≤ 5) (h0 : 0 < k) (hk : k + 1 < t.size) (hc : (t[k].toNat : Int) = c) :
    Calls Tryd.prog 60 #[.pointer (some ⟨b, 0, none⟩), .int .u8 c] w fun e w' => e = .returned (.int .i64 0) ∧ Own w' b 77 #[.string t, .int .i64 ((k + 1 : Nat) : Int)] ∧ Turned b w w' := by
  have c0 := h.at 0
  have c1 := h.at 1
  have f0 := h.free 0
  have f1 := h.free 1
  simp at c0 c1
  have g0 : ((k : Int) == 0) = false := beq_eq_false_iff_ne.2 (by omega)
  have g1 : ((k : Int) == t.size) = false := beq_eq_false_iff_ne.2 (by omega)
  have g2 : ((t[k].toNat : Int) != c) = false := by simp [hc]
  have g3 : ((k : Int) + 1 == t.size) = false := beq_eq_false_iff_ne.2 (by omega)
  have k1 : k < t.size := by omega
  clear hc
  go_enter Tryd.func60, Tryd.ntmps60
  go_wp2
  go_ret
  exact ⟨rfl, by simpa using (h.put 0 (.string t)).put 1 (.int .i64 ((k : Int) + 1)), ((Turned.refl b w).put 0 _).put 1 _⟩

theorem lstep_done (b k : Nat) (t : ByteArray) (c : Int) (w : World) (h : Own w b 77 #[.string t, .int .i64 k]) (hz : t.size ≤ 5) (h0 : 0 < k) (k1 : k < t.size) (k2 : t.size ≤ k + 1) (hc : (t[k].toNat : Int) = c) :
    Calls Tryd.prog 60 #[.pointer (some ⟨b, 0, none⟩), .int .u8 c] w fun e w' => e = .returned (.int .i64 1) ∧ Own w' b 77 #[.string t, .int .i64 ((k + 1 : Nat) : Int)] ∧ Turned b w w' := by
  have c0 := h.at 0
  have c1 := h.at 1
  have f0 := h.free 0
  have f1 := h.free 1
  simp at c0 c1
  have g0 : ((k : Int) == 0) = false := beq_eq_false_iff_ne.2 (by omega)
  have g1 : ((k : Int) == t.size) = false := beq_eq_false_iff_ne.2 (by omega)
  have g2 : ((t[k].toNat : Int) != c) = false := by simp [hc]
  have g3 : ((k : Int) + 1 == t.size) = true := beq_iff_eq.2 (by omega)
  clear hc
  go_enter Tryd.func60, Tryd.ntmps60
  go_wp2
  go_ret
  exact ⟨rfl, by simpa using (h.put 0 (.string t)).put 1 (.int .i64 ((k : Int) + 1)), ((Turned.refl b w).put 0 _).put 1 _⟩

/-- Ahead of a word: a byte that begins none. -/
theorem lstep_none (b : Nat) (t : ByteArray) (c : Int) (h1 : c ≠ 116) (h2 : c ≠ 102) (h3 : c ≠ 110) (w : World) (hT : Tab w) (h : Own w b 77 #[.string t, .int .i64 0]) :
    Calls Tryd.prog 60 #[.pointer (some ⟨b, 0, none⟩), .int .u8 c] w fun e w' => e = .returned (.int .i64 2) ∧ Below w.heap.size w w' := by
  have c0 := h.at 0
  have c1 := h.at 1
  simp at c0 c1
  have KB := Lib.hid (fun w hw => begun_no c h1 h2 h3 w hw)
  clear h1 h2 h3
  have hin := h.inside
  go_enter Tryd.func60, Tryd.ntmps60
  go_wp2_with (go_at_call 77; refine (KB.out _ hT).mono ?_; rintro e w' ⟨rfl, hb⟩; have d1 := (h.stay hb hin).at 1; simp at d1)
  go_ret
  exact ⟨rfl, hb⟩

theorem lstep_first (b : Nat) (t t' : ByteArray) (c : Int) (hz : 1 < t'.size) (hc : (t'[0].toNat : Int) = c) (w : World) (hT : Tab w) (h : Own w b 77 #[.string t, .int .i64 0])
    (hB : ∀ w, Tab w → Calls Tryd.prog 77 #[.int .u8 c] w fun e w' => e = .returned (.string t') ∧ Below w.heap.size w w') :
    Calls Tryd.prog 60 #[.pointer (some ⟨b, 0, none⟩), .int .u8 c] w fun e w' => e = .returned (.int .i64 0) ∧ Own w' b 77 #[.string t', .int .i64 ((1 : Nat) : Int)] ∧ Turned b w w' := by
  have c0 := h.at 0
  have c1 := h.at 1
  simp at c0 c1
  have KB := Lib.hid hB
  clear hB
  have hin := h.inside
  have g1 : ((0 : Int) == t'.size) = false := beq_eq_false_iff_ne.2 (by omega)
  have g2 : ((t'[0].toNat : Int) != c) = false := by simp [hc]
  have g3 : ((1 : Int) == t'.size) = false := beq_eq_false_iff_ne.2 (by omega)
  have k1 : 0 < t'.size := by omega
  clear hc
  go_enter Tryd.func60, Tryd.ntmps60
  go_wp2_with (go_at_call 77; refine (KB.out _ hT).mono ?_; rintro e w' ⟨rfl, hb⟩; have h' := h.stay hb hin; have d0 := h'.at 0; have d1 := h'.at 1; have f0 := h'.free 0; have f1 := h'.free 1; simp at d0 d1)
  go_ret
  exact ⟨rfl, by simpa using (h'.put 0 (.string t')).put 1 (.int .i64 1), ((Turned.of_below hb rfl).put 0 _).put 1 _⟩

end Go.Proofs.YthpkcapooeedeaaDoor

namespace Go.Proofs.YthpkcapooeedeaaDoor
open Go.RowKit

def lT : List UInt8 := [116, 114, 117, 101]
def lF : List UInt8 := [102, 97, 108, 115, 101]
def lN : List UInt8 := [110, 117, 108, 108]
/-- What a text is for one word: it (1), the beginning of it (0), or neither (2). -/
def hit (lw l : List UInt8) : Int := if l = lw then 1 else if l.length < lw.length ∧ lw.take l.length = l then 0 else 2
/-- What a text is: a word (1), the beginning of one (0), or neither (2). -/
def refL (l : List UInt8) : Int := if hit lT l = 2 then (if hit lF l = 2 then hit lN l else hit lF l) else hit lT l

theorem ba_ext {a b : ByteArray} (h : a.data.toList = b.data.toList) : a = b := by
  cases a with | mk x => cases b with | mk y => exact congrArg ByteArray.mk (Array.toList_inj.1 h)
theorem str_ne {a b : ByteArray} (h : a ≠ b) : (a.toList == b.toList) = false := beq_eq_false_iff_ne.2 fun e => h (ba_ext (by rw [← ByteArray.toList_eq, ← ByteArray.toList_eq, e]))
theorem head_list (s : ByteArray) (k : Nat) : (s.extract 0 k).data.toList = s.data.toList.take k := by
  rw [ByteArray.data_extract, Array.toList_extract, List.extract_eq_take_drop]
  simp
theorem cat_list (s t : ByteArray) : (s ++ t).data.toList = s.data.toList ++ t.data.toList := by simp

theorem hit_one {lw l : List UInt8} (h : hit lw l = 1) : l = lw := by
  unfold hit at h
  split at h
  · assumption
  · split at h <;> cases h
theorem ref_one {l : List UInt8} (h : refL l = 1) : l = lT ∨ l = lF ∨ l = lN := by
  unfold refL at h
  split at h
  · split at h
    · exact .inr (.inr (hit_one h))
    · exact .inr (.inl (hit_one h))
  · exact .inl (hit_one h)

/-- Where one is in a word. -/
def StL (t : ByteArray) (k : Nat) : Prop := (k = 0 ∧ t = ⟨#[]⟩) ∨ ((t = wT ∨ t = wF ∨ t = wN) ∧ 1 ≤ k ∧ k ≤ t.size)

theorem ref_first (c : UInt8) : refL [c] = if c = 116 ∨ c = 102 ∨ c = 110 then 0 else 2 := by
  unfold refL hit lT lF lN
  by_cases h1 : c = 116
  · subst h1; decide
  by_cases h2 : c = 102
  · subst h2; decide
  by_cases h3 : c = 110
  · subst h3; decide
  simp [h1, h2, h3, Ne.symm h1, Ne.symm h2, Ne.symm h3]

theorem refT1 (c : UInt8) : refL [116, c] = if 114 = c then 0 else 2 := by
  by_cases hc : 114 = c
  · subst hc; decide
  · rw [if_neg hc]
    simp [refL, hit, lT, lF, lN, hc, Ne.symm hc]

theorem refT2 (c : UInt8) : refL [116, 114, c] = if 117 = c then 0 else 2 := by
  by_cases hc : 117 = c
  · subst hc; decide
  · rw [if_neg hc]
    simp [refL, hit, lT, lF, lN, hc, Ne.symm hc]

theorem refT3 (c : UInt8) : refL [116, 114, 117, c] = if 101 = c then 1 else 2 := by
  by_cases hc : 101 = c
  · subst hc; decide
  · rw [if_neg hc]
    simp [refL, hit, lT, lF, lN, hc, Ne.symm hc]

theorem refT4 (c : UInt8) : refL [116, 114, 117, 101, c] = 2 := by
  simp [refL, hit, lT, lF, lN]

theorem refF1 (c : UInt8) : refL [102, c] = if 97 = c then 0 else 2 := by
  by_cases hc : 97 = c
  · subst hc; decide
  · rw [if_neg hc]
    simp [refL, hit, lT, lF, lN, hc, Ne.symm hc]

theorem refF2 (c : UInt8) : refL [102, 97, c] = if 108 = c then 0 else 2 := by
  by_cases hc : 108 = c
  · subst hc; decide
  · rw [if_neg hc]
    simp [refL, hit, lT, lF, lN, hc, Ne.symm hc]

theorem refF3 (c : UInt8) : refL [102, 97, 108, c] = if 115 = c then 0 else 2 := by
  by_cases hc : 115 = c
  · subst hc; decide
  · rw [if_neg hc]
    simp [refL, hit, lT, lF, lN, hc, Ne.symm hc]

theorem refF4 (c : UInt8) : refL [102, 97, 108, 115, c] = if 101 = c then 1 else 2 := by
  by_cases hc : 101 = c
  · subst hc; decide
  · rw [if_neg hc]
    simp [refL, hit, lT, lF, lN, hc, Ne.symm hc]

theorem refF5 (c : UInt8) : refL [102, 97, 108, 115, 101, c] = 2 := by
  simp [refL, hit, lT, lF, lN]

theorem refN1 (c : UInt8) : refL [110, c] = if 117 = c then 0 else 2 := by
  by_cases hc : 117 = c
  · subst hc; decide
  · rw [if_neg hc]
    simp [refL, hit, lT, lF, lN, hc, Ne.symm hc]

theorem refN2 (c : UInt8) : refL [110, 117, c] = if 108 = c then 0 else 2 := by
  by_cases hc : 108 = c
  · subst hc; decide
  · rw [if_neg hc]
    simp [refL, hit, lT, lF, lN, hc, Ne.symm hc]

theorem refN3 (c : UInt8) : refL [110, 117, 108, c] = if 108 = c then 1 else 2 := by
  by_cases hc : 108 = c
  · subst hc; decide
  · rw [if_neg hc]
    simp [refL, hit, lT, lF, lN, hc, Ne.symm hc]

theorem refN4 (c : UInt8) : refL [110, 117, 108, 108, c] = 2 := by
  simp [refL, hit, lT, lF, lN]

/-- Within a word, and behind it. -/
theorem ref_in (t : ByteArray) (ht : t = wT ∨ t = wF ∨ t = wN) (k : Nat) (h1 : 1 ≤ k) (h2 : k ≤ t.size) (c : UInt8) :
    refL (t.data.toList.take k ++ [c]) = if h : k < t.size then (if t[k] = c then (if k + 1 = t.size then 1 else 0) else 2) else 2 := by
  rcases ht with rfl | rfl | rfl
  · rw [zT] at h2
    have hk : k = 1 ∨ k = 2 ∨ k = 3 ∨ k = 4 := by omega
    rcases hk with rfl | rfl | rfl | rfl
    · exact refT1 c
    · exact refT2 c
    · exact refT3 c
    · exact refT4 c
  · rw [zF] at h2
    have hk : k = 1 ∨ k = 2 ∨ k = 3 ∨ k = 4 ∨ k = 5 := by omega
    rcases hk with rfl | rfl | rfl | rfl | rfl
    · exact refF1 c
    · exact refF2 c
    · exact refF3 c
    · exact refF4 c
    · exact refF5 c
  · rw [zN] at h2
    have hk : k = 1 ∨ k = 2 ∨ k = 3 ∨ k = 4 := by omega
    rcases hk with rfl | rfl | rfl | rfl
    · exact refN1 c
    · exact refN2 c
    · exact refN3 c
    · exact refN4 c

/-- A walk that has stepped through P. -/
def WalkAt (w : World) (b : Nat) (P : ByteArray) : Prop := ∃ (t : ByteArray) (k : Nat), StL t k ∧ P = t.extract 0 k ∧ Own w b 77 #[.string t, .int .i64 k]

theorem WalkAt.stay {w w' : World} {b B : Nat} {P : ByteArray} (h : WalkAt w b P) (hb : Below B w w') (hB : b < B) : WalkAt w' b P := by
  obtain ⟨t, k, h1, h2, h3⟩ := h
  exact ⟨t, k, h1, h2, h3.stay hb hB⟩
theorem WalkAt.inside {w : World} {b : Nat} {P : ByteArray} (h : WalkAt w b P) : b < w.heap.size := by
  obtain ⟨t, k, h1, h2, h3⟩ := h
  exact h3.inside
theorem WalkAt.drewN {w : World} {b : Nat} {P : ByteArray} (h : WalkAt w b P) (q : Nat) : WalkAt (w.drewN q) b P := h
theorem WalkAt.fresh (w : World) : WalkAt (w.alloc (.cells #[.string ⟨#[]⟩, .int .i64 0] 77)) w.heap.size ⟨#[]⟩ := ⟨⟨#[]⟩, 0, .inl ⟨rfl, rfl⟩, by decide, Own.fresh _ _ _⟩

theorem lword_at (b : Nat) (P : ByteArray) (w : World) (h : WalkAt w b P) :
    Calls Tryd.prog 61 #[.pointer (some ⟨b, 0, none⟩)] w fun e w' => e = .returned (.string P) ∧ ∃ q, w' = w.drewN q := by
  obtain ⟨t, k, hst, rfl, hown⟩ := h
  refine lword_any b k t w hown ?_
  rcases hst with ⟨rfl, rfl⟩ | ⟨_, _, h⟩
  · exact Nat.le_refl _
  · exact h

theorem word_sizes {t : ByteArray} (h : t = wT ∨ t = wF ∨ t = wN) : 3 < t.size ∧ t.size ≤ 5 := by
  rcases h with rfl | rfl | rfl <;> decide

/-- One byte on: what Step answers, and where the walk is then. -/
def After (w : World) (b : Nat) (P : ByteArray) (c : UInt8) (e : Ending) (w' : World) : Prop :=
  e = .returned (.int .i64 (refL (P.data.toList ++ [c]))) ∧ (refL (P.data.toList ++ [c]) = 2 → WalkAt w' b P) ∧ (refL (P.data.toList ++ [c]) ≠ 2 → WalkAt w' b (P ++ ⟨#[c]⟩)) ∧ Turned b w w'

theorem lstep_any (b : Nat) (P : ByteArray) (c : UInt8) (w : World) (h : WalkAt w b P) (hT : Tab w) :
    Calls Tryd.prog 60 #[.pointer (some ⟨b, 0, none⟩), .int .u8 c.toNat] w (After w b P c) := by
  have hwa := h
  obtain ⟨t, k, hst, rfl, hown⟩ := h
  unfold After
  rcases hst with ⟨rfl, rfl⟩ | ⟨ht, h1, h2⟩
  · rw [show (ByteArray.extract ⟨#[]⟩ 0 0).data.toList ++ [c] = [c] from rfl, ref_first]
    by_cases g1 : c = 116
    · subst g1
      refine (lstep_first b _ wT 116 (by decide) rfl w hT hown begun_t).mono ?_
      rintro e w' ⟨rfl, ho, htu⟩
      exact ⟨rfl, fun e => by simp at e, fun _ => ⟨wT, 1, .inr ⟨.inl rfl, by decide, by decide⟩, by decide, ho⟩, htu⟩
    by_cases g2 : c = 102
    · subst g2
      refine (lstep_first b _ wF 102 (by decide) rfl w hT hown begun_f).mono ?_
      rintro e w' ⟨rfl, ho, htu⟩
      exact ⟨rfl, fun e => by simp at e, fun _ => ⟨wF, 1, .inr ⟨.inr (.inl rfl), by decide, by decide⟩, by decide, ho⟩, htu⟩
    by_cases g3 : c = 110
    · subst g3
      refine (lstep_first b _ wN 110 (by decide) rfl w hT hown begun_n).mono ?_
      rintro e w' ⟨rfl, ho, htu⟩
      exact ⟨rfl, fun e => by simp at e, fun _ => ⟨wN, 1, .inr ⟨.inr (.inr rfl), by decide, by decide⟩, by decide, ho⟩, htu⟩
    have hne : ∀ {c : UInt8} {n : Nat}, n < 256 → ¬ c = UInt8.ofNat n → (c.toNat : Int) ≠ n := fun {c n} hn hc e => hc (by
      have : c.toNat = n := by omega
      rw [← this]; simp)
    refine (lstep_none b _ c.toNat (hne (by decide) g1) (hne (by decide) g2) (hne (by decide) g3) w hT hown).mono ?_
    rintro e w' ⟨rfl, hb⟩
    rw [if_neg (by simp [g1, g2, g3])]
    exact ⟨rfl, fun _ => hwa.stay hb hown.inside, fun e => absurd rfl e, Turned.of_below hb rfl⟩
  · obtain ⟨hz3, hz5⟩ := word_sizes ht
    rw [head_list, ref_in t ht k h1 h2 c]
    by_cases hlt : k < t.size
    · rw [dif_pos hlt]
      by_cases hc : t[k] = c
      · have hcI : (t[k].toNat : Int) = c.toNat := by rw [hc]
        have hP : t.extract 0 k ++ ⟨#[c]⟩ = t.extract 0 (k + 1) := ba_ext (by
          rw [cat_list, head_list, head_list, List.take_succ_eq_append_getElem (show k < t.data.toList.length from hlt), ← hc]
          rfl)
        rw [if_pos hc, hP]
        by_cases hd : k + 1 = t.size
        · rw [if_pos hd]
          refine (lstep_done b k t c.toNat w hown hz5 h1 hlt (by omega) hcI).mono ?_
          rintro e w' ⟨rfl, ho, htu⟩
          exact ⟨rfl, fun e => by simp at e, fun _ => ⟨t, k + 1, .inr ⟨ht, by omega, by omega⟩, rfl, ho⟩, htu⟩
        · rw [if_neg hd]
          refine (lstep_goes b k t c.toNat w hown hz5 h1 (by omega) hcI).mono ?_
          rintro e w' ⟨rfl, ho, htu⟩
          exact ⟨rfl, fun e => by simp at e, fun _ => ⟨t, k + 1, .inr ⟨ht, by omega, by omega⟩, rfl, ho⟩, htu⟩
      · have hcI : (t[k].toNat : Int) ≠ c.toNat := fun e => hc (UInt8.toNat_inj.1 (by omega))
        rw [if_neg hc]
        refine (lstep_no b k t c.toNat w hown h1 hlt hcI).mono ?_
        rintro e w' ⟨rfl, rfl⟩
        exact ⟨rfl, fun _ => hwa, fun e => absurd rfl e, Turned.refl _ _⟩
    · rw [dif_neg hlt]
      refine (lstep_end b k t c.toNat w hown h1 (by omega)).mono ?_
      rintro e w' ⟨rfl, rfl⟩
      exact ⟨rfl, fun _ => hwa, fun e => absurd rfl e, Turned.refl _ _⟩

/-- One byte on that fits not. -/
theorem lstep_stays (b : Nat) (P : ByteArray) (c : UInt8) (hr : refL (P.data.toList ++ [c]) = 2) (w : World) (h : WalkAt w b P) (hT : Tab w) :
    Calls Tryd.prog 60 #[.pointer (some ⟨b, 0, none⟩), .int .u8 c.toNat] w fun e w' => e = .returned (.int .i64 2) ∧ WalkAt w' b P ∧ Turned b w w' :=
  (lstep_any b P c w h hT).mono fun _ _ ⟨h1, h2, _, h4⟩ => ⟨by rw [h1, hr], h2 hr, h4⟩
/-- One that does. -/
theorem lstep_on (b : Nat) (P : ByteArray) (c : UInt8) (hr : refL (P.data.toList ++ [c]) ≠ 2) (w : World) (h : WalkAt w b P) (hT : Tab w) :
    Calls Tryd.prog 60 #[.pointer (some ⟨b, 0, none⟩), .int .u8 c.toNat] w fun e w' => e = .returned (.int .i64 (refL (P.data.toList ++ [c]))) ∧ WalkAt w' b (P ++ ⟨#[c]⟩) ∧ Turned b w w' :=
  (lstep_any b P c w h hT).mono fun _ _ ⟨h1, _, h3, h4⟩ => ⟨h1, h3 hr, h4⟩

set_option maxHeartbeats 1000000 in
theorem kind_t (W : World) (h : Tab W) :
    Calls Tryd.prog 63 #[.string wT] W fun e w' => e = .returned (.tuple #[.int .i64 1, .bool true]) ∧ Below W.heap.size W w' := by
  obtain ⟨c0, c1, c2, c3, c4, c5⟩ := h.cells
  have i0 := at0
  go_enter Tryd.func63, Tryd.ntmps63
  go_wp2
  refine wp_loop_rounds 4 ?_
  rw [rounds_succ]
  go_wp2
  go_ret2
  exact ⟨rfl, (Below.refl _ _).alloc (Nat.le_refl _) _⟩

set_option maxHeartbeats 1000000 in
theorem kind_f (W : World) (h : Tab W) :
    Calls Tryd.prog 63 #[.string wF] W fun e w' => e = .returned (.tuple #[.int .i64 1, .bool true]) ∧ Below W.heap.size W w' := by
  obtain ⟨c0, c1, c2, c3, c4, c5⟩ := h.cells
  have i0 := at0
  have i1 := at1
  have g1 : (wT.toList == wF.toList) = false := str_ne (by decide)
  go_enter Tryd.func63, Tryd.ntmps63
  go_wp2
  refine wp_loop_rounds 4 ?_
  rw [rounds_succ]
  go_wp2
  rw [rounds_succ]
  go_wp2
  go_ret2
  exact ⟨rfl, below2 _ _ _⟩

set_option maxHeartbeats 1000000 in
theorem kind_n (W : World) (h : Tab W) :
    Calls Tryd.prog 63 #[.string wN] W fun e w' => e = .returned (.tuple #[.int .i64 0, .bool true]) ∧ Below W.heap.size W w' := by
  obtain ⟨c0, c1, c2, c3, c4, c5⟩ := h.cells
  have i0 := at0
  have i1 := at1
  have i2 := at2
  have g1 : (wT.toList == wN.toList) = false := str_ne (by decide)
  have g2 : (wF.toList == wN.toList) = false := str_ne (by decide)
  go_enter Tryd.func63, Tryd.ntmps63
  go_wp2
  refine wp_loop_rounds 4 ?_
  rw [rounds_succ]
  go_wp2
  rw [rounds_succ]
  go_wp2
  rw [rounds_succ]
  go_wp2
  go_ret2
  exact ⟨rfl, below3 _ _ _ _⟩

set_option maxHeartbeats 1000000 in
theorem kind_no (s : ByteArray) (h1 : s ≠ wT) (h2 : s ≠ wF) (h3 : s ≠ wN) (W : World) (h : Tab W) :
    Calls Tryd.prog 63 #[.string s] W fun e w' => e = .returned (.tuple #[.int .i64 0, .bool false]) ∧ Below W.heap.size W w' := by
  obtain ⟨c0, c1, c2, c3, c4, c5⟩ := h.cells
  have i0 := at0
  have i1 := at1
  have i2 := at2
  have g1 : (wT.toList == s.toList) = false := str_ne (Ne.symm h1)
  have g2 : (wF.toList == s.toList) = false := str_ne (Ne.symm h2)
  have g3 : (wN.toList == s.toList) = false := str_ne (Ne.symm h3)
  go_enter Tryd.func63, Tryd.ntmps63
  go_wp2
  refine wp_loop_rounds 4 ?_
  rw [rounds_succ]
  go_wp2
  rw [rounds_succ]
  go_wp2
  rw [rounds_succ]
  go_wp2
  rw [rounds_succ]
  go_wp2
  go_ret2
  exact ⟨rfl, below3 _ _ _ _⟩

end Go.Proofs.YthpkcapooeedeaaDoor

namespace Go.Proofs.YthpkcapooeedeaaDoor
open Go.RowKit

structure Tok where
  kind : Int
  begun : Bool
  fr : Nat
  to : Nat
  text : List UInt8

/-- Where one is in a text: outside of tokens, or within a number, a word, a string that began at f; dead: at the end. -/
inductive LSt where
  | out
  | num (a : Int) (f : Nat) (p : List UInt8)
  | word (f : Nat) (p : List UInt8)
  | str (q : QSt) (f : Nat) (acc : List UInt8)
  | dead

/-- A byte outside of tokens: the tokens, the fault's kind (0: none), where one is then. -/
def outL (k : Nat) (c : UInt8) : List Tok × Int × LSt :=
  if kindI c.toNat = 1 then ([], 0, .out) else if kindI c.toNat = 0 then ([], 8, .dead) else if kindI c.toNat < 8 then ([⟨kindI c.toNat, false, k, k + 1, []⟩], 0, .out) else
  if kindI c.toNat = 8 then ([⟨8, true, k, k, []⟩], 0, .str .plain k []) else if kindI c.toNat = 9 then ([⟨9, true, k, k, []⟩], 0, .num (nxI 0 c.toNat) k [c]) else ([⟨10, true, k, k, []⟩], 0, .word k [c])
def strL (q : QSt) (f : Nat) (acc : List UInt8) (k : Nat) (c : UInt8) : Option (QSt × List UInt8) → List Tok × Int × LSt
  | none => ([], faultQ q c, .dead)
  | some (.done, e) => ([⟨8, false, f, k + 1, acc ++ e⟩], 0, .out)
  | some (q', e) => ([], 0, .str q' f (acc ++ e))
def stepL : LSt → Nat → UInt8 → List Tok × Int × LSt
  | .out, k, c => outL k c
  | .num a f p, k, c => if nxI a c.toNat ≠ 0 then ([], 0, .num (nxI a c.toNat) f (p ++ [c])) else
      if whI a && !stickI c.toNat then (⟨9, false, f, k, p⟩ :: (outL k c).1, (outL k c).2.1, (outL k c).2.2) else ([], 5, .dead)
  | .word f p, k, c => if refL (p ++ [c]) = 2 then ([], 6, .dead) else if refL (p ++ [c]) = 1 then ([⟨10, false, f, k + 1, p ++ [c]⟩], 0, .out) else ([], 0, .word f (p ++ [c]))
  | .str q f acc, k, c => strL q f acc k c (stepQ q c)
  | .dead, _, _ => ([], 14, .dead)
def closeL : LSt → Nat → List Tok × Int
  | .out, _ => ([], 1)
  | .num a f p, k => if whI a then ([⟨9, false, f, k, p⟩], 1) else ([], 10)
  | .dead, _ => ([], 14)
  | _, _ => ([], 10)
def lexGo : LSt → List UInt8 → Nat → List Tok → List Tok × Int × Nat
  | st, [], k, acc => (acc ++ (closeL st k).1, (closeL st k).2, k)
  | st, c :: t, k, acc => if (stepL st k c).2.1 ≠ 0 then (acc ++ (stepL st k c).1, (stepL st k c).2.1, k) else lexGo (stepL st k c).2.2 t (k + 1) (acc ++ (stepL st k c).1)
/-- All tokens of a text, the verdict's kind, and where. -/
def lexR (l : List UInt8) : List Tok × Int × Nat := lexGo .out l 0 []

def blankC (c : UInt8) : Prop := c = 32 ∨ c = 9 ∨ c = 10 ∨ c = 13
/-- What lies from i to ahead of j is blank. -/
def AllBlank (b : List UInt8) (i j : Nat) : Prop := ∀ m, i ≤ m → m < j → ∃ c, b[m]? = some c ∧ blankC c

/-- May this token come, behind at, where op has begun? -/
def okTok (b : List UInt8) (s : Nat × Option Nat) (t : Tok) : Prop :=
  if t.begun then s.2 = none ∧ s.1 ≤ t.fr ∧ t.to = t.fr ∧ t.fr < b.length
  else (s.2 = none ∨ s.2 = some t.fr) ∧ s.1 ≤ t.fr ∧ t.fr < t.to ∧ t.to ≤ b.length ∧ AllBlank b s.1 t.fr
def nextTok (s : Nat × Option Nat) (t : Tok) : Nat × Option Nat := if t.begun then (s.1, some t.fr) else (t.to, none)
def Spans (b : List UInt8) : List Tok → Nat × Option Nat → Nat × Option Nat → Prop
  | [], s, s' => s = s'
  | t :: ts, s, s' => okTok b s t ∧ Spans b ts (nextTok s t) s'

theorem spans_append (b : List UInt8) (l m : List Tok) : ∀ s s' s'', Spans b l s s' → Spans b m s' s'' → Spans b (l ++ m) s s'' := by
  induction l with
  | nil => intro s s' s'' h g; cases h; exact g
  | cons t l ih => intro s s' s'' h g; exact ⟨h.1, ih _ _ _ h.2 g⟩

/-- What holds behind k bytes. -/
def InvT (b : List UInt8) (st : LSt) (k : Nat) (s : Nat × Option Nat) : Prop := match st with
  | .out => s.2 = none ∧ s.1 ≤ k ∧ AllBlank b s.1 k
  | .num _ f _ => s.2 = some f ∧ s.1 ≤ f ∧ f < k ∧ AllBlank b s.1 f
  | .word f _ => s.2 = some f ∧ s.1 ≤ f ∧ f < k ∧ AllBlank b s.1 f
  | .str _ f _ => s.2 = some f ∧ s.1 ≤ f ∧ f < k ∧ AllBlank b s.1 f
  | .dead => False

theorem ite_both {p : Prop} [Decidable p] {a b : Int} {P : Int → Prop} (ha : P a) (hb : P b) : P (if p then a else b) := by split <;> assumption
theorem kind_blank {c : UInt8} (h : kindI c.toNat = 1) : blankC c := by
  have e : ∀ n : Nat, n < 256 → (c.toNat : Int) = n → c = UInt8.ofNat n := fun n hn e => by
    have : c.toNat = n := by omega
    rw [← this]; simp
  unfold blankC
  by_cases h1 : (c.toNat : Int) = 32
  · exact .inl (e 32 (by decide) h1)
  by_cases h2 : (c.toNat : Int) = 9
  · exact .inr (.inl (e 9 (by decide) h2))
  by_cases h3 : (c.toNat : Int) = 10
  · exact .inr (.inr (.inl (e 10 (by decide) h3)))
  by_cases h4 : (c.toNat : Int) = 13
  · exact .inr (.inr (.inr (e 13 (by decide) h4)))
  unfold kindI at h
  rw [if_neg h1, if_neg h2, if_neg h3, if_neg h4] at h
  refine absurd h ?_
  iterate 12 (refine ite_both (P := fun x : Int => ¬ x = 1) (by decide) ?_)
  decide

/-- What a byte does, in the sense of spans. -/
def StepOk (b : List UInt8) (k : Nat) (s : Nat × Option Nat) (r : List Tok × Int × LSt) : Prop :=
  ∃ s', Spans b r.1 s s' ∧ r.2.1 ≠ 1 ∧ (r.2.1 = 0 → InvT b r.2.2 (k + 1) s') ∧ (r.2.1 ≠ 0 → s'.1 ≤ k)

theorem blank_more {b : List UInt8} {i k : Nat} (h : AllBlank b i k) {c : UInt8} (hc : b[k]? = some c) (hb : blankC c) : AllBlank b i (k + 1) := fun m h1 h2 => by
  by_cases hm : m = k
  · subst hm; exact ⟨c, hc, hb⟩
  · exact h m h1 (by omega)

theorem out_ok (b : List UInt8) (k : Nat) (c : UInt8) (hc : b[k]? = some c) (s : Nat × Option Nat) (h : InvT b .out k s) : StepOk b k s (outL k c) := by
  obtain ⟨h1, h2, h3⟩ := h
  have hk : k < b.length := (List.getElem?_eq_some_iff.1 hc).1
  unfold outL
  split
  · rename_i hb
    exact ⟨s, rfl, (by show (0 : Int) ≠ 1; decide), fun _ => ⟨h1, by omega, blank_more h3 hc (kind_blank hb)⟩, fun e => absurd rfl e⟩
  split
  · exact ⟨s, rfl, (by show (8 : Int) ≠ 1; decide), (fun e => by cases e), fun _ => h2⟩
  split
  · exact ⟨(k + 1, none), ⟨⟨.inl h1, h2, Nat.lt_succ_self _, hk, h3⟩, rfl⟩, (by show (0 : Int) ≠ 1; decide), fun _ => ⟨rfl, Nat.le_refl _, fun m g1 g2 => absurd g2 (by simp at g1; omega)⟩, fun e => absurd rfl e⟩
  split
  · exact ⟨(s.1, some k), ⟨⟨h1, h2, rfl, hk⟩, rfl⟩, (by show (0 : Int) ≠ 1; decide), fun _ => ⟨rfl, h2, Nat.lt_succ_self _, h3⟩, fun e => absurd rfl e⟩
  split
  · exact ⟨(s.1, some k), ⟨⟨h1, h2, rfl, hk⟩, rfl⟩, (by show (0 : Int) ≠ 1; decide), fun _ => ⟨rfl, h2, Nat.lt_succ_self _, h3⟩, fun e => absurd rfl e⟩
  · exact ⟨(s.1, some k), ⟨⟨h1, h2, rfl, hk⟩, rfl⟩, (by show (0 : Int) ≠ 1; decide), fun _ => ⟨rfl, h2, Nat.lt_succ_self _, h3⟩, fun e => absurd rfl e⟩

theorem blank_none (b : List UInt8) (k : Nat) : AllBlank b k k := fun m h1 h2 => absurd h2 (by omega)

theorem stepL_ok (b : List UInt8) (st : LSt) (k : Nat) (c : UInt8) (hc : b[k]? = some c) (s : Nat × Option Nat) (h : InvT b st k s) : StepOk b k s (stepL st k c) := by
  have hk : k < b.length := (List.getElem?_eq_some_iff.1 hc).1
  cases st with
  | out => exact out_ok b k c hc s h
  | dead => exact h.elim
  | num a f p =>
    obtain ⟨h1, h2, h3, h4⟩ := h
    show StepOk b k s (if nxI a c.toNat ≠ 0 then ([], 0, LSt.num (nxI a c.toNat) f (p ++ [c])) else
      if whI a && !stickI c.toNat then (⟨9, false, f, k, p⟩ :: (outL k c).1, (outL k c).2.1, (outL k c).2.2) else ([], 5, .dead))
    split
    · exact ⟨s, rfl, (by show (0 : Int) ≠ 1; decide), fun _ => ⟨h1, h2, by omega, h4⟩, fun e => absurd rfl e⟩
    split
    · obtain ⟨s', g1, g2, g3, g4⟩ := out_ok b k c hc (k, none) ⟨rfl, Nat.le_refl _, blank_none b k⟩
      exact ⟨s', ⟨⟨.inr h1, h2, h3, by show k ≤ b.length; omega, h4⟩, g1⟩, g2, g3, g4⟩
    · exact ⟨s, rfl, by decide, fun e => (by cases e), fun _ => by omega⟩
  | word f p =>
    obtain ⟨h1, h2, h3, h4⟩ := h
    show StepOk b k s (if refL (p ++ [c]) = 2 then ([], 6, LSt.dead) else if refL (p ++ [c]) = 1 then ([⟨10, false, f, k + 1, p ++ [c]⟩], 0, .out) else ([], 0, .word f (p ++ [c])))
    split
    · exact ⟨s, rfl, by decide, fun e => (by cases e), fun _ => by omega⟩
    split
    · exact ⟨(k + 1, none), ⟨⟨.inr h1, h2, by show f < k + 1; omega, hk, h4⟩, rfl⟩, (by show (0 : Int) ≠ 1; decide), fun _ => ⟨rfl, Nat.le_refl _, blank_none b _⟩, fun e => absurd rfl e⟩
    · exact ⟨s, rfl, (by show (0 : Int) ≠ 1; decide), fun _ => ⟨h1, h2, by omega, h4⟩, fun e => absurd rfl e⟩
  | str q f acc =>
    obtain ⟨h1, h2, h3, h4⟩ := h
    show StepOk b k s (strL q f acc k c (stepQ q c))
    cases hq : stepQ q c with
    | none =>
      have := faultQ_ne q c
      exact ⟨s, rfl, this.1, fun e => absurd e this.2, fun _ => by omega⟩
    | some x =>
      obtain ⟨q', e⟩ := x
      by_cases hd : q' = .done
      · subst hd
        exact ⟨(k + 1, none), ⟨⟨.inr h1, h2, by show f < k + 1; omega, hk, h4⟩, rfl⟩, by show (0 : Int) ≠ 1; decide, fun _ => ⟨rfl, Nat.le_refl _, blank_none b _⟩, fun e => absurd rfl e⟩
      · have hs : strL q f acc k c (some (q', e)) = ([], 0, .str q' f (acc ++ e)) := by
          cases q' <;> first | rfl | exact absurd rfl hd
        rw [hs]
        exact ⟨s, rfl, by show (0 : Int) ≠ 1; decide, fun _ => ⟨h1, h2, by omega, h4⟩, fun e => absurd rfl e⟩

theorem close_ok (b : List UInt8) (st : LSt) (s : Nat × Option Nat) (h : InvT b st b.length s) :
    ∃ s', Spans b (closeL st b.length).1 s s' ∧ s'.1 ≤ b.length ∧ ((closeL st b.length).2 = 1 → s'.2 = none) := by
  cases st with
  | dead => exact h.elim
  | out => exact ⟨s, rfl, h.2.1, fun _ => h.1⟩
  | num a f p =>
    obtain ⟨h1, h2, h3, h4⟩ := h
    show ∃ s', Spans b (if whI a then ([⟨9, false, f, b.length, p⟩], (1 : Int)) else ([], 10)).1 s s' ∧ s'.1 ≤ b.length ∧ ((if whI a then ([(⟨9, false, f, b.length, p⟩ : Tok)], (1 : Int)) else ([], 10)).2 = 1 → s'.2 = none)
    split
    · exact ⟨(b.length, none), ⟨⟨.inr h1, h2, h3, Nat.le_refl _, h4⟩, rfl⟩, Nat.le_refl _, fun _ => rfl⟩
    · exact ⟨s, rfl, by omega, fun e => (by cases e)⟩
  | word f p => exact ⟨s, rfl, by have := h.2.1; have := h.2.2.1; omega, fun e => (by cases e)⟩
  | str q f acc => exact ⟨s, rfl, by have := h.2.1; have := h.2.2.1; omega, fun e => (by cases e)⟩

/-- Tokens lie one behind the other. -/
theorem lexGo_spans (b : List UInt8) (n : Nat) : ∀ (st : LSt) (k : Nat) (acc : List Tok) (s : Nat × Option Nat), b.length - k = n → k ≤ b.length → InvT b st k s → Spans b acc (0, none) s →
    ∃ s', Spans b (lexGo st (b.drop k) k acc).1 (0, none) s' ∧ s'.1 ≤ (lexGo st (b.drop k) k acc).2.2 ∧ (lexGo st (b.drop k) k acc).2.2 ≤ b.length ∧
      ((lexGo st (b.drop k) k acc).2.1 = 1 → s'.2 = none ∧ (lexGo st (b.drop k) k acc).2.2 = b.length) := by
  induction n with
  | zero =>
    intro st k acc s hn hk hi ha
    obtain rfl : k = b.length := by omega
    rw [List.drop_of_length_le (Nat.le_refl _)]
    obtain ⟨s', g1, g2, g3⟩ := close_ok b st s hi
    exact ⟨s', spans_append b _ _ _ _ _ ha g1, g2, Nat.le_refl _, fun e => ⟨g3 e, rfl⟩⟩
  | succ n ih =>
    intro st k acc s hn hk hi ha
    have hlt : k < b.length := by omega
    rw [List.drop_eq_getElem_cons hlt]
    obtain ⟨s', g1, g2, g3, g4⟩ := stepL_ok b st k b[k] (List.getElem?_eq_getElem hlt) s hi
    unfold lexGo
    by_cases hf : (stepL st k b[k]).2.1 ≠ 0
    · rw [if_pos hf]
      exact ⟨s', spans_append b _ _ _ _ _ ha g1, g4 hf, hk, fun e => absurd e g2⟩
    · rw [if_neg hf]
      exact ih _ _ _ _ (by omega) hlt (g3 (Decidable.not_not.1 hf)) (spans_append b _ _ _ _ _ ha g1)
theorem lexR_spans (b : List UInt8) : ∃ s', Spans b (lexR b).1 (0, none) s' ∧ s'.1 ≤ (lexR b).2.2 ∧ (lexR b).2.2 ≤ b.length ∧ ((lexR b).2.1 = 1 → s'.2 = none ∧ (lexR b).2.2 = b.length) :=
  lexGo_spans b b.length .out 0 [] (0, none) rfl (Nat.zero_le _) ⟨rfl, Nat.le_refl _, blank_none b 0⟩ rfl

end Go.Proofs.YthpkcapooeedeaaDoor

namespace Go.Proofs.YthpkcapooeedeaaDoor
open Go.RowKit

def tokCells (t : Tok) : List Value := [.int .i64 t.kind, .bool t.begun, .int .i64 t.fr, .int .i64 t.to, .string ⟨t.text.toArray⟩]
/-- v is a slice of tokens. -/
def Toks (w : World) (v : Value) (ts : List Tok) : Prop :=
  ∃ (A : Option Addr) (c : Nat), v = .slice A ts.length c ∧ ts.length ≤ c ∧ ts.length ≤ 1000000 ∧ (0 < ts.length → ∃ b o : Nat, A = some ⟨b, o, none⟩ ∧ b < w.heap.size ∧ ∀ (i : Nat) (t : Tok), ts[i]? = some t →
    w.cell? ⟨b, o + i * 5, none⟩ = some (.int .i64 t.kind) ∧ w.cell? ⟨b, o + i * 5 + 1, none⟩ = some (.bool t.begun) ∧ w.cell? ⟨b, o + i * 5 + 2, none⟩ = some (.int .i64 t.fr) ∧
    w.cell? ⟨b, o + i * 5 + 3, none⟩ = some (.int .i64 t.to) ∧ w.cell? ⟨b, o + i * 5 + 4, none⟩ = some (.string ⟨t.text.toArray⟩))
theorem Toks.stay {w w' : World} {v : Value} {ts : List Tok} (h : Toks w v ts) {B : Nat} (hb : Below B w w') (hB : w.heap.size ≤ B) : Toks w' v ts := by
  obtain ⟨A, c, e, h1, h2, h3⟩ := h
  refine ⟨A, c, e, h1, h2, fun hn => ?_⟩
  obtain ⟨b, o, e, hlt, hc⟩ := h3 hn
  refine ⟨b, o, e, by have := hb.size; omega, fun i t ht => ?_⟩
  obtain ⟨g1, g2, g3, g4, g5⟩ := hc i t ht
  have hcell : ∀ k, w'.cell? ⟨b, k, none⟩ = w.cell? ⟨b, k, none⟩ := fun k => hb.cell (p := ⟨b, k, none⟩) (by show b < B; omega)
  exact ⟨(hcell _).trans g1, (hcell _).trans g2, (hcell _).trans g3, (hcell _).trans g4, (hcell _).trans g5⟩

theorem Rd.of_block {w : World} {b : Nat} {t : TypeId} {l : List Value} {k : Nat} {fr : Nat × Nat} (h : w.heap[b]? = some (.cells l.toArray t fr)) (hk : l.length = k) : Rd w (b + 1) (some ⟨b, 0, none⟩) k l := by
  refine ⟨hk, fun _ => ⟨_, rfl, Nat.lt_succ_self _, fun j u hu => ?_⟩⟩
  rw [add_none, cell_of_row w b _ l.toArray t fr h]
  simpa using hu

def Lasts (T : World → Prop) : Prop := ∀ w w', T w → Below w.heap.size w w' → T w'

end Go.Proofs.YthpkcapooeedeaaDoor
