/- The document's All (riffleref12): step by step. -/
import Derived.Test.YtkianpaihdidnaaGrow
import Derived.Deep.CutRange
namespace Go.Proofs.Ytkianpaihdidnaa
open Go.RowKit
set_option linter.unusedVariables false

def bls (l : List Bool) : List Value := l.map Value.bool
/-- Slices of numbers. -/
def nmK : RowK Nat where
  T := 3
  S := 30
  n := 1
  bytes := 8
  zero := .int .i64 0
  enc := fun c => [.int .i64 c]
  pos := by decide
  len := fun _ => rfl
  one := fun c u h => by simp at h; subst h; rfl
  under := Try.underlying30
  info := by kernel_rfl
  zlen := rfl
  small := by decide
theorem bool_info12 : (Try.prog.info? 4).map (fun i => (i.zero, i.size, i.bytes)) = some (some (.bool false), 1, 1) := by kernel_rfl

/-- What was met so far, going up. -/
def upTo (lo st i : Int) (j : Nat) : Bool := decide (lo ≤ j ∧ (j : Int) < i ∧ ((j : Int) - lo) % st = 0)
def downTo (hi st i : Int) (j : Nat) : Bool := decide (i < j ∧ (j : Int) ≤ hi ∧ (hi - (j : Int)) % st = 0)

theorem mod_same {a b st : Int} (ha : a % st = 0) (hb : b % st = 0) : (a - b) % st = 0 := by
  rw [Int.sub_emod, ha, hb]; simp
theorem up_step (lo st i : Int) (j : Nat) (hst : 0 < st) (hi : lo ≤ i) (hm : (i - lo) % st = 0) : upTo lo st (i + st) j = if (j : Int) = i then true else upTo lo st i j := by
  unfold upTo
  by_cases e : (j : Int) = i
  · rw [if_pos e, e]
    exact decide_eq_true ⟨hi, by omega, hm⟩
  · rw [if_neg e]
    by_cases hj : (j : Int) < i
    · congr 1
      apply propext
      constructor
      · rintro ⟨a, b, c⟩; exact ⟨a, hj, c⟩
      · rintro ⟨a, b, c⟩; exact ⟨a, by omega, c⟩
    · have hA : decide (lo ≤ (j : Int) ∧ (j : Int) < i ∧ ((j : Int) - lo) % st = 0) = false := decide_eq_false (fun h => hj h.2.1)
      rw [hA]
      apply decide_eq_false
      rintro ⟨a, b, c⟩
      have h1 := mod_same c hm
      rw [show (j : Int) - lo - (i - lo) = j - i by omega, Int.emod_eq_of_lt (by omega) (by omega)] at h1
      omega
theorem up_start (lo st : Int) (j : Nat) : upTo lo st lo j = false := decide_eq_false (fun h => by omega)
/-- At the end: all that lies below the bound. -/
theorem up_end (lo st i hi : Int) (j : Nat) (hst : 0 < st) (hm : (i - lo) % st = 0) (hge : hi ≤ i) (hlast : i = lo ∨ i - st < hi) : upTo lo st i j = decide (lo ≤ j ∧ (j : Int) < hi ∧ ((j : Int) - lo) % st = 0) := by
  unfold upTo
  congr 1
  apply propext
  constructor
  · rintro ⟨a, b, c⟩
    refine ⟨a, ?_, c⟩
    rcases hlast with h | h
    · omega
    · by_cases hj : (j : Int) < hi
      · exact hj
      · exfalso
        have h1 := mod_same hm c
        rw [show i - lo - ((j : Int) - lo) = i - j by omega, Int.emod_eq_of_lt (by omega) (by omega)] at h1
        omega
  · rintro ⟨a, b, c⟩
    exact ⟨a, by omega, c⟩
theorem down_step (hi st i : Int) (j : Nat) (hst : 0 < st) (h : i ≤ hi) (hm : (hi - i) % st = 0) : downTo hi st (i - st) j = if (j : Int) = i then true else downTo hi st i j := by
  unfold downTo
  by_cases e : (j : Int) = i
  · rw [if_pos e, e]
    exact decide_eq_true ⟨by omega, h, hm⟩
  · rw [if_neg e]
    by_cases hj : i < (j : Int)
    · congr 1
      apply propext
      constructor
      · rintro ⟨a, b, c⟩; exact ⟨hj, b, c⟩
      · rintro ⟨a, b, c⟩; exact ⟨by omega, b, c⟩
    · have hA : decide (i < (j : Int) ∧ (j : Int) ≤ hi ∧ (hi - (j : Int)) % st = 0) = false := decide_eq_false (fun h => hj h.1)
      rw [hA]
      apply decide_eq_false
      rintro ⟨a, b, c⟩
      have h1 := mod_same c hm
      rw [show hi - (j : Int) - (hi - i) = i - j by omega, Int.emod_eq_of_lt (by omega) (by omega)] at h1
      omega
theorem down_start (hi st : Int) (j : Nat) : downTo hi st hi j = false := decide_eq_false (fun h => by omega)
theorem down_end (hi st i lo : Int) (j : Nat) (hst : 0 < st) (hm : (hi - i) % st = 0) (hge : i ≤ lo) (hlast : i = hi ∨ lo < i + st) : downTo hi st i j = decide (lo < j ∧ (j : Int) ≤ hi ∧ (hi - (j : Int)) % st = 0) := by
  unfold downTo
  congr 1
  apply propext
  constructor
  · rintro ⟨a, b, c⟩
    refine ⟨?_, b, c⟩
    rcases hlast with h | h
    · omega
    · by_cases hj : lo < (j : Int)
      · exact hj
      · exfalso
        have h1 := mod_same hm c
        rw [show hi - i - (hi - (j : Int)) = j - i by omega, Int.emod_eq_of_lt (by omega) (by omega)] at h1
        omega
  · rintro ⟨a, b, c⟩
    exact ⟨by omega, b, c⟩

/-- The list of bools with one set. -/
theorem set_map (n : Nat) (f g : Nat → Bool) (i : Nat) (hi : i < n) (h : ∀ j, j < n → g j = if j = i then true else f j) : ((List.range n).map f).set i true = (List.range n).map g := by
  apply List.ext_getElem
  · simp
  · intro j h1 h2
    rw [List.getElem_set]
    have hj : j < n := by simpa using h1
    have := h j hj
    by_cases e : i = j
    · subst e; simp [this]
    · simp [e, this, Ne.symm e]
theorem bls_set (l : List Bool) (i : Nat) : (bls l).set i (.bool true) = bls (l.set i true) := by unfold bls; rw [List.map_set]
theorem filter_take (n : Nat) (f : Nat → Bool) (k : Nat) (hk : k < n) : ((List.range n).take (k + 1)).filter f = ((List.range n).take k).filter f ++ (if f k then [k] else []) := by
  rw [List.take_succ_eq_append_getElem (by simpa using hk), List.filter_append]
  congr 1
  simp [List.filter_cons]

end Go.Proofs.Ytkianpaihdidnaa
