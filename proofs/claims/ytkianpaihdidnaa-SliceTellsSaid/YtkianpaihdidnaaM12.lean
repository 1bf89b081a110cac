/- Which items of an array an index, or a slice, means, as plain mathematics. -/
import Derived.Test.YtkianpaihdidnaaKit
namespace Go.Proofs.Ytkianpaihdidnaa

structure Sel where
  kind : Int
  name : ByteArray
  index : Int
  start : Int
  en : Int
  hs : Bool
  he : Bool
  stride : Int

def placeI (i m : Int) : Int := if 0 ≤ i then i else m + i
def clipI (n lo hi : Int) : Int := if (if n > hi then hi else n) < lo then lo else (if n > hi then hi else n)
def startI (s : Sel) (m : Int) : Int := placeI s.start m
def endI (s : Sel) (m : Int) : Int := placeI s.en m
def lowI (s : Sel) (m : Int) : Int :=
  if s.stride = 0 then 0 else if 0 < s.stride then clipI (if s.hs then startI s m else 0) 0 m else clipI (if s.he then endI s m else -1) (-1) (m - 1)
def highI (s : Sel) (m : Int) : Int :=
  if s.stride = 0 then 0 else if 0 < s.stride then clipI (if s.he then endI s m else m) 0 m else clipI (if s.hs then startI s m else m - 1) (-1) (m - 1)
/-- Does it mean an item? -/
def hasI (s : Sel) (i m : Int) : Bool :=
  if i < 0 ∨ m ≤ i then false
  else if s.kind = 2 then decide (placeI s.index m = i)
  else if s.kind ≠ 3 ∨ s.stride = 0 then false
  else if 0 < s.stride then decide (lowI s m ≤ i ∧ i < highI s m ∧ (i - lowI s m) % s.stride = 0)
  else decide (lowI s m < i ∧ i ≤ highI s m ∧ (highI s m - i) % (0 - s.stride) = 0)
def hangsI (s : Sel) : Bool :=
  if s.kind = 2 then decide (s.index < 0) else if s.kind ≠ 3 ∨ s.stride = 0 then false
  else decide (s.stride < 0) || (s.hs && decide (s.start < 0)) || (s.he && decide (s.en < 0))
def okI (n : Int) : Prop := -9007199254740991 ≤ n ∧ n ≤ 9007199254740991
structure RightI (s : Sel) : Prop where
  index : okI s.index
  start : okI s.start
  en : okI s.en
  stride : okI s.stride
def allI (s : Sel) (m : Nat) : List Nat := (List.range m).filter fun i => hasI s i m

theorem clip_cases (n lo hi : Int) (h : lo ≤ hi + 1) : (clipI n lo hi = lo ∧ n < lo) ∨ (clipI n lo hi = hi ∧ hi < n ∧ lo ≤ hi) ∨ (clipI n lo hi = n ∧ lo ≤ n ∧ n ≤ hi) ∨ (clipI n lo hi = lo ∧ hi < lo) := by
  unfold clipI
  split <;> split <;> omega
theorem place_bound (i m : Int) (hi : okI i) (h0 : 0 ≤ m) (h9 : m ≤ 9007199254740992) : -9007199254740991 ≤ placeI i m ∧ placeI i m ≤ 9007199254740992 := by
  unfold placeI okI at *
  split <;> omega
theorem bounds_in (s : Sel) (m : Int) (h0 : 0 ≤ m) : -1 ≤ lowI s m ∧ lowI s m ≤ m ∧ -1 ≤ highI s m ∧ highI s m ≤ m ∧ (0 < s.stride → 0 ≤ lowI s m ∧ 0 ≤ highI s m) ∧ (s.stride < 0 → lowI s m ≤ m - 1 ∧ highI s m ≤ m - 1) := by
  unfold lowI highI
  by_cases h1 : s.stride = 0
  · rw [if_pos h1, if_pos h1]; omega
  rw [if_neg h1, if_neg h1]
  by_cases h2 : 0 < s.stride
  · rw [if_pos h2, if_pos h2]
    have a := clip_cases (if s.hs then startI s m else 0) 0 m (by omega)
    have b := clip_cases (if s.he then endI s m else m) 0 m (by omega)
    generalize clipI (if s.hs then startI s m else 0) 0 m = x at *
    generalize clipI (if s.he then endI s m else m) 0 m = y at *
    omega
  · rw [if_neg h2, if_neg h2]
    have a := clip_cases (if s.he then endI s m else -1) (-1) (m - 1) (by omega)
    have b := clip_cases (if s.hs then startI s m else m - 1) (-1) (m - 1) (by omega)
    generalize clipI (if s.he then endI s m else -1) (-1) (m - 1) = x at *
    generalize clipI (if s.hs then startI s m else m - 1) (-1) (m - 1) = y at *
    omega

/-- What doesn't hang on how many there are means the same, however many there are. -/
theorem has_same (s : Sel) (i m k : Int) (h : hangsI s = false) (h0 : 0 ≤ i) (hi : i < m) (hk : 0 ≤ k) : hasI s i m = hasI s i (m + k) := by
  unfold hasI
  rw [if_neg (show ¬ (i < 0 ∨ m ≤ i) by omega), if_neg (show ¬ (i < 0 ∨ m + k ≤ i) by omega)]
  unfold hangsI at h
  by_cases h2 : s.kind = 2
  · rw [if_pos h2] at h
    rw [if_pos h2, if_pos h2]
    have h := of_decide_eq_false h
    unfold placeI
    rw [if_pos (show 0 ≤ s.index by omega), if_pos (show 0 ≤ s.index by omega)]
  rw [if_neg h2] at h
  rw [if_neg h2, if_neg h2]
  by_cases h3 : s.kind ≠ 3 ∨ s.stride = 0
  · rw [if_pos h3, if_pos h3]
  rw [if_neg h3] at h
  rw [if_neg h3, if_neg h3]
  simp only [Bool.or_eq_false_iff, Bool.and_eq_false_iff, decide_eq_false_iff_not] at h
  obtain ⟨⟨hs, h4⟩, h5⟩ := h
  have hp : 0 < s.stride := by omega
  rw [if_pos hp, if_pos hp]
  have hst : ∀ M : Int, (if s.hs then startI s M else 0) = (if s.hs then s.start else 0) ∧ 0 ≤ (if s.hs then s.start else 0) := fun M => by
    cases hh : s.hs
    · exact ⟨rfl, by simp⟩
    · have : 0 ≤ s.start := by rcases h4 with h | h; · rw [hh] at h; cases h
                               · omega
      simp [startI, placeI, this]
  have hen : ∀ M : Int, i < M → ((i < clipI (if s.he then endI s M else M) 0 M) ↔ (s.he = true → i < s.en)) := fun M hM => by
    cases hh : s.he
    · have := clip_cases M 0 M (by omega)
      simp only [Bool.false_eq_true, if_false, false_implies, iff_true]
      omega
    · have : 0 ≤ s.en := by rcases h5 with h | h; · rw [hh] at h; cases h
                            · omega
      have e : endI s M = s.en := by simp [endI, placeI, this]
      have := clip_cases s.en 0 M (by omega)
      simp only [if_true, e, true_implies]
      omega
  have e1 : ∀ M : Int, lowI s M = clipI (if s.hs then s.start else 0) 0 M := fun M => by
    unfold lowI
    rw [if_neg (by omega), if_pos hp, (hst M).1]
  have e2 : ∀ M : Int, highI s M = clipI (if s.he then endI s M else M) 0 M := fun M => by
    unfold highI
    rw [if_neg (by omega), if_pos hp]
  have hz := (hst m).2
  rw [e1, e1, e2, e2]
  have ha := hen m hi
  have hb := hen (m + k) (by omega)
  generalize (if s.hs then s.start else 0) = st at *
  have c1 := clip_cases st 0 m (by omega)
  have c2 := clip_cases st 0 (m + k) (by omega)
  generalize clipI (if s.he then endI s m else m) 0 m = y1 at *
  generalize clipI (if s.he then endI s (m + k) else m + k) 0 (m + k) = y2 at *
  have hy : i < y1 ↔ i < y2 := ha.trans hb.symm
  by_cases hlt : st ≤ i
  · have e3 : clipI st 0 m = st := by omega
    have e4 : clipI st 0 (m + k) = st := by omega
    rw [e3, e4]
    congr 1
    rw [hy]
  · have e3 : ¬ clipI st 0 m ≤ i := by omega
    have e4 : ¬ clipI st 0 (m + k) ≤ i := by omega
    rw [decide_eq_false (fun h => e3 h.1), decide_eq_false (fun h => e4 h.1)]
theorem has_on (i m : Int) (nm : ByteArray) (h0 : 0 ≤ i) (hi : i < m) : hasI ⟨3, nm, 0, 0, 0, false, false, 1⟩ i m = true := by
  unfold hasI
  rw [if_neg (show ¬ (i < 0 ∨ m ≤ i) by omega), if_neg (show ¬ ((3 : Int) = 2) by decide), if_neg (show ¬ ((3 : Int) ≠ 3 ∨ (1 : Int) = 0) by decide), if_pos (show (0 : Int) < 1 by decide)]
  have a := clip_cases 0 0 m (by omega)
  have b := clip_cases m 0 m (by omega)
  show decide (clipI 0 0 m ≤ i ∧ i < clipI m 0 m ∧ (i - clipI 0 0 m) % 1 = 0) = true
  rw [decide_eq_true_eq]
  exact ⟨by omega, by omega, Int.emod_one _⟩
theorem has_back (i m : Int) (nm : ByteArray) (h0 : 0 ≤ i) (hi : i < m) : hasI ⟨3, nm, 0, 0, 0, false, false, -1⟩ i m = true := by
  unfold hasI
  rw [if_neg (show ¬ (i < 0 ∨ m ≤ i) by omega), if_neg (show ¬ ((3 : Int) = 2) by decide), if_neg (show ¬ ((3 : Int) ≠ 3 ∨ (-1 : Int) = 0) by decide), if_neg (show ¬ (0 : Int) < -1 by decide)]
  have a := clip_cases (-1) (-1) (m - 1) (by omega)
  have b := clip_cases (m - 1) (-1) (m - 1) (by omega)
  show decide (clipI (-1) (-1) (m - 1) < i ∧ i ≤ clipI (m - 1) (-1) (m - 1) ∧ (clipI (m - 1) (-1) (m - 1) - i) % 1 = 0) = true
  rw [decide_eq_true_eq]
  exact ⟨by omega, by omega, Int.emod_one _⟩
theorem has_last (i m : Int) (nm : ByteArray) (h0 : 0 ≤ i) (hi : i < m) : hasI ⟨2, nm, -1, 0, 0, false, false, 0⟩ i m = decide (i = m - 1) := by
  unfold hasI
  rw [if_neg (show ¬ (i < 0 ∨ m ≤ i) by omega), if_pos rfl]
  show decide ((if (0 : Int) ≤ -1 then -1 else m + -1) = i) = _
  rw [if_neg (by decide)]
  congr 1
  apply propext
  omega
theorem has_at (i m : Int) (nm : ByteArray) (h0 : 0 ≤ i) (hi : i < m) : hasI ⟨2, nm, i, 0, 0, false, false, 0⟩ i m = true := by
  unfold hasI
  rw [if_neg (show ¬ (i < 0 ∨ m ≤ i) by omega), if_pos rfl]
  show decide ((if 0 ≤ i then i else m + i) = i) = true
  rw [if_pos h0, decide_eq_true_eq]

end Go.Proofs.Ytkianpaihdidnaa
