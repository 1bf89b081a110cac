/- UTF-8 as plain mathematics: a walk's state (the number so far, how many bytes are left), and the answer by definition. -/
import Derived.Test.YtddkljlggcbcjaaRow
namespace Go.Proofs.Ytddkljlggcbcjaa

/-- The bytes of a string, as numbers. -/
def nums (l : List UInt8) : List Int := l.map fun c => (c.toNat : Int)

def lowU (sg lf : Int) : Int := if lf = 2 ∧ sg = 0 then 160 else if lf = 3 ∧ sg = 0 then 144 else 128
def highU (sg lf : Int) : Int := if lf = 2 ∧ sg = 13 then 159 else if lf = 3 ∧ sg = 4 then 143 else 191
/-- May the byte come next? -/
def okU (sg lf c : Int) : Bool := if lf = 0 then decide (c < 128 ∨ 194 ≤ c ∧ c < 245) else decide (lowU sg lf ≤ c ∧ c ≤ highU sg lf)
def sgU (sg lf c : Int) : Int := if lf = 0 then (if c < 128 then c else if c < 224 then c - 192 else if c < 240 then c - 224 else c - 240) else sg * 64 + (c - 128)
def lfU (lf c : Int) : Int := if lf = 0 then (if c < 128 then 0 else if c < 224 then 1 else if c < 240 then 2 else 3) else lf - 1

/-- The states that a walk comes to. -/
def StU (sg lf : Int) : Prop := 0 ≤ sg ∧ (lf = 0 ∧ sg ≤ 1114111 ∨ lf = 1 ∧ sg ≤ 17407 ∨ lf = 2 ∧ sg ≤ 271 ∨ lf = 3 ∧ sg ≤ 4)

theorem stU_zero : StU 0 0 := by unfold StU; omega
theorem okU_zero {sg c : Int} (h : okU sg 0 c = true) : c < 128 ∨ 194 ≤ c ∧ c < 245 := by
  unfold okU at h
  rw [if_pos rfl] at h
  exact of_decide_eq_true h
theorem okU_more {sg lf c : Int} (hl : lf ≠ 0) (h : okU sg lf c = true) : lowU sg lf ≤ c ∧ c ≤ highU sg lf := by
  unfold okU at h
  rw [if_neg hl] at h
  exact of_decide_eq_true h
theorem lowU_in (sg lf : Int) : 128 ≤ lowU sg lf ∧ lowU sg lf ≤ 160 := by unfold lowU; (repeat' split) <;> omega
theorem highU_in (sg lf : Int) : 143 ≤ highU sg lf ∧ highU sg lf ≤ 191 := by unfold highU; (repeat' split) <;> omega
theorem okU_bd {sg lf c : Int} (hl : lf ≠ 0) (h : okU sg lf c = true) : 128 ≤ c ∧ c ≤ 191 := by
  have := okU_more hl h
  have := lowU_in sg lf
  have := highU_in sg lf
  omega

theorem stU_step {sg lf c : Int} (h : StU sg lf) (h0 : 0 ≤ c) (hk : okU sg lf c = true) : StU (sgU sg lf c) (lfU lf c) := by
  by_cases hl : lf = 0
  · subst hl
    have := okU_zero hk
    unfold StU sgU lfU
    simp only [if_true]
    repeat' split
    all_goals omega
  · have := okU_more hl hk
    have g := okU_bd hl hk
    have e1 : sgU sg lf c = sg * 64 + (c - 128) := by unfold sgU; rw [if_neg hl]
    have e2 : lfU lf c = lf - 1 := by unfold lfU; rw [if_neg hl]
    have e3 : lf = 3 ∧ sg = 4 → highU sg lf = 143 := by rintro ⟨rfl, rfl⟩; rfl
    rw [e1, e2]
    unfold StU at h ⊢
    omega

/-- Where a text isn't UTF-8, from a state on. -/
def runU : Int → Int → List UInt8 → Int → Int
  | _, lf, [], k => if 0 < lf then k else -1
  | sg, lf, c :: l, k => if okU sg lf c.toNat then runU (sgU sg lf c.toNat) (lfU lf c.toNat) l (k + 1) else k
def badU (l : List UInt8) : Int := runU 0 0 l 0

end Go.Proofs.Ytddkljlggcbcjaa
