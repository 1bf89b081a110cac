/- The contracts of package octet: what each function answers, for every argument. -/
import Derived.Test.YtaklbbkjhbkieaaJ01
import Derived.WalkKit
import Derived.WalkSpells
import Derived.WalkLawsBesides
import Derived.BigQuiet
import Derived.Deep.QuietTactic
import Derived.Lib.Hide
import Derived.Below
import Derived.Outline
import Derived.Laws.BytesArg
import Derived.Maps.AppendAt
import Derived.Deep.AppendLies
import Derived.RegionTactic
import Derived.OwnWalk
import Derived.Laws.CopyOwn
import Derived.Lib.AppendStr
import Derived.Deep.DeepMust
namespace Go.Proofs.Ytaklbbkjhbkieaa
open Go.RowKit

/-- Is it a digit? -/
def isDigitI (c : Int) : Bool := decide (48 ≤ c ∧ c ≤ 57)

/-- What a byte begins, by its number. -/
def kindI (c : Int) : Int :=
  if c = 32 then 1 else if c = 9 then 1 else if c = 10 then 1 else if c = 13 then 1 else
  if c = 91 then 2 else if c = 93 then 3 else if c = 123 then 4 else if c = 125 then 5 else
  if c = 44 then 6 else if c = 58 then 7 else if c = 34 then 8 else if c = 45 then 9 else
  if c = 116 then 10 else if c = 102 then 10 else if c = 110 then 10 else
  if isDigitI c then 9 else 0

/-- A small letter in the place of a capital one. -/
def smallI (c : Int) : Int := if 65 ≤ c ∧ c ≤ 90 then c + 32 else c

/-- Which number of 16. -/
def hexI (c : Int) : Int :=
  if 48 ≤ c ∧ c ≤ 57 then c - 48 else if 97 ≤ c ∧ c ≤ 102 then c - 87 else if 65 ≤ c ∧ c ≤ 70 then c - 55 else 0
def isHexI (c : Int) : Bool :=
  decide (48 ≤ c ∧ c ≤ 57) || decide (97 ≤ c ∧ c ≤ 102) || decide (65 ≤ c ∧ c ≤ 70)
def isAlphaI (c : Int) : Bool := decide (97 ≤ c ∧ c ≤ 122) || decide (65 ≤ c ∧ c ≤ 90)

theorem ret_int {k : IntKind} {a b : Int} (h : a = b) : Ending.returned (.int k a) = .returned (.int k b) := by rw [h]
theorem ret_bool {a b : Bool} (h : a = b) : Ending.returned (.bool a) = .returned (.bool b) := by rw [h]

/-- A number's sign. -/
def lowI (n : Int) : Int := if 0 ≤ n ∧ n ≤ 9 then n + 48 else if 10 ≤ n ∧ n ≤ 15 then n + 87 else 48

set_option maxHeartbeats 1000000 in
theorem lower_any (n : Int) (w : World) :
    Calls Try.prog 54 #[.int .i64 n] w fun e w' => e = .returned (.int .u8 (lowI n)) ∧ w = w' := by
  by_cases h1 : 0 ≤ n <;> by_cases h2 : n < 16
  · obtain ⟨k, rfl⟩ := Int.eq_ofNat_of_zero_le h1
    have hk : k = 0 ∨ k = 1 ∨ k = 2 ∨ k = 3 ∨ k = 4 ∨ k = 5 ∨ k = 6 ∨ k = 7 ∨ k = 8 ∨ k = 9 ∨ k = 10 ∨ k = 11 ∨ k = 12 ∨ k = 13 ∨ k = 14 ∨ k = 15 := by omega
    rcases hk with rfl | rfl | rfl | rfl | rfl | rfl | rfl | rfl | rfl | rfl | rfl | rfl | rfl | rfl | rfl | rfl
    all_goals
      go_enter Try.func54, Try.ntmps54
      go_wp2
      go_ret
      exact ⟨rfl, rfl⟩
  all_goals
    go_enter Try.func54, Try.ntmps54
    go_wp2
    go_ret
    exact ⟨ret_int (by unfold lowI; split; omega; split; omega; rfl), rfl⟩

theorem hex_hit (c : Int) (k : Nat) (hk : k < 16) (h : smallI c = lowI k) : hexI c = k ∧ isHexI c = true := by
  unfold smallI lowI at h
  unfold hexI isHexI
  split at h <;> split at h <;> (try split at h) <;>
    first
      | (refine ⟨?_, ?_⟩; (repeat' split) <;> omega; simp; omega)
      | omega

/-- No sign among the first k ones is this one. -/
def NoneOf (s : Int) (k : Nat) : Prop := ∀ j : Nat, j < k → s ≠ lowI j

theorem noneOf_zero (s : Int) : NoneOf s 0 := fun _ h => absurd h (by omega)
theorem noneOf_succ {s : Int} {k : Nat} (h : NoneOf s k) (e : s ≠ lowI k) : NoneOf s (k + 1) := by
  intro j hj
  by_cases hjk : j = k
  · subst hjk; exact e
  · exact h j (by omega)

theorem hit_of {s c : Int} {k : Nat} (_ : NoneOf s k) (H : ∀ k : Nat, k < 16 → s = lowI k → hexI c = k ∧ isHexI c = true) (hk : k < 16) (h : s = lowI k) :
    hexI c = k ∧ isHexI c = true := H k hk h

theorem hex_miss (c : Int) (h : NoneOf (smallI c) 16) : hexI c = 0 ∧ isHexI c = false := by
  have g : ∀ j : Nat, j < 16 → c ≠ lowI j ∧ (65 ≤ c ∧ c ≤ 90 → c + 32 ≠ lowI j) := by
    intro j hj
    have := h j hj
    unfold smallI at this
    split at this
    · exact ⟨by unfold lowI; split <;> (try split) <;> omega, fun _ => this⟩
    · exact ⟨this, fun hh => absurd hh ‹_›⟩
  have g1 : ¬ (48 ≤ c ∧ c ≤ 57) := by
    intro hh
    obtain ⟨k, rfl⟩ := Int.eq_ofNat_of_zero_le (show 0 ≤ c by omega)
    have := (g (k - 48) (by omega)).1
    unfold lowI at this
    rw [if_pos (by omega)] at this
    omega
  have g2 : ¬ (97 ≤ c ∧ c ≤ 102) := by
    intro hh
    obtain ⟨k, rfl⟩ := Int.eq_ofNat_of_zero_le (show 0 ≤ c by omega)
    have := (g (k - 87) (by omega)).1
    unfold lowI at this
    rw [if_neg (by omega), if_pos (by omega)] at this
    omega
  have g3 : ¬ (65 ≤ c ∧ c ≤ 70) := by
    intro hh
    obtain ⟨k, rfl⟩ := Int.eq_ofNat_of_zero_le (show 0 ≤ c by omega)
    have := (g (k - 55) (by omega)).2 (by omega)
    unfold lowI at this
    rw [if_neg (by omega), if_pos (by omega)] at this
    omega
  unfold hexI isHexI
  rw [if_neg g1, if_neg g2, if_neg g3]
  simp [g1, g2, g3]

theorem ret_two {k : IntKind} {a b : Int} {x y : Bool} (h : a = b) (g : x = y) :
    Ending.returned (.tuple #[.int k a, .bool x]) = .returned (.tuple #[.int k b, .bool y]) := by rw [h, g]

end Go.Proofs.Ytaklbbkjhbkieaa

namespace Go.Proofs.Ytaklbbkjhbkieaa
open Go.RowKit

set_option maxHeartbeats 400000 in
theorem rdigit_any (c : Int) (w : World) :
    Calls Try.prog 39 #[.int .u8 c] w fun e w' => e = .returned (.bool (isDigitI c)) ∧ w = w' := by
  by_cases h1 : 48 ≤ c <;> by_cases h2 : c ≤ 57
  all_goals
    go_enter Try.func39, Try.ntmps39
    go_wp2
    go_ret
    exact ⟨by simp [isDigitI, h1, h2], rfl⟩

def isBlankI (c : Int) : Bool := decide (c = 32) || decide (c = 9) || decide (c = 10) || decide (c = 13)

set_option maxHeartbeats 400000 in
theorem rblank_any (c : Int) (w : World) :
    Calls Try.prog 24 #[.int .u8 c] w fun e w' => e = .returned (.bool (isBlankI c)) ∧ w = w' := by
  by_cases h1 : c = 32
  · subst h1
    go_enter Try.func24, Try.ntmps24
    go_wp2
    go_ret
    exact ⟨rfl, rfl⟩
  by_cases h2 : c = 9
  · subst h2
    go_enter Try.func24, Try.ntmps24
    go_wp2
    go_ret
    exact ⟨rfl, rfl⟩
  by_cases h3 : c = 10
  · subst h3
    go_enter Try.func24, Try.ntmps24
    go_wp2
    go_ret
    exact ⟨rfl, rfl⟩
  by_cases h4 : c = 13
  · subst h4
    go_enter Try.func24, Try.ntmps24
    go_wp2
    go_ret
    exact ⟨rfl, rfl⟩
  have g1 : (c == 32) = false := beq_eq_false_iff_ne.2 h1
  have g2 : (c == 9) = false := beq_eq_false_iff_ne.2 h2
  have g3 : (c == 10) = false := beq_eq_false_iff_ne.2 h3
  have g4 : (c == 13) = false := beq_eq_false_iff_ne.2 h4
  go_enter Try.func24, Try.ntmps24
  go_wp2
  go_ret
  exact ⟨ret_bool (by simp [isBlankI, h1, h2, h3, h4]), rfl⟩

set_option maxHeartbeats 400000 in
theorem ralpha_any (c : Int) (w : World) :
    Calls Try.prog 49 #[.int .u8 c] w fun e w' => e = .returned (.bool (isAlphaI c)) ∧ w = w' := by
  by_cases h1 : 97 ≤ c <;> by_cases h2 : c ≤ 122 <;> by_cases h3 : 65 ≤ c <;> by_cases h4 : c ≤ 90
  all_goals
    go_enter Try.func49, Try.ntmps49
    go_wp2
    go_ret
    exact ⟨by simp [isAlphaI, h1, h2, h3, h4], rfl⟩

set_option maxHeartbeats 400000 in
theorem rlower_any (n : Int) (w : World) :
    Calls Try.prog 23 #[.int .i64 n] w fun e w' => e = .returned (.int .u8 (lowI n)) ∧ w = w' := by
  by_cases h1 : 10 ≤ n <;> by_cases h2 : n ≤ 15 <;> by_cases h3 : 0 ≤ n <;> by_cases h4 : n ≤ 9
  all_goals first
    | omega
    | (go_enter Try.func23, Try.ntmps23
       go_wp2
       go_ret
       exact ⟨ret_int (by unfold lowI; (repeat' split) <;> omega), rfl⟩)

theorem ret_two' {k : IntKind} {a b : Int} {x y : Bool} (h : a = b) (g : x = y) :
    Ending.returned (.tuple #[.int k a, .bool x]) = .returned (.tuple #[.int k b, .bool y]) := by rw [h, g]

set_option maxHeartbeats 1000000 in
theorem rhex_any (c : Int) (w : World) (h0 : 0 ≤ c) (h9 : c ≤ 255) :
    Calls Try.prog 64 #[.int .u8 c] w fun e w' => e = .returned (.tuple #[.int .i64 (hexI c), .bool (isHexI c)]) ∧ w = w' := by
  by_cases h1 : 48 ≤ c <;> by_cases h2 : c ≤ 57 <;> by_cases h3 : 97 ≤ c <;> by_cases h4 : c ≤ 102 <;> by_cases h5 : 65 ≤ c <;> by_cases h6 : c ≤ 70
  all_goals first
    | omega
    | (have hd : isDigitI c = true := by simp [isDigitI]; omega
       go_enter Try.func64, Try.ntmps64
       go_wp2_with (go_at_call 39; refine (rdigit_any _ _).mono ?_; rintro e w' ⟨rfl, rfl⟩)
       go_ret2
       exact ⟨ret_two' (by unfold hexI; (repeat' split) <;> omega) (by simp [isHexI]; omega), rfl⟩)
    | (have hd : isDigitI c = false := by simp [isDigitI]; omega
       go_enter Try.func64, Try.ntmps64
       go_wp2_with (go_at_call 39; refine (rdigit_any _ _).mono ?_; rintro e w' ⟨rfl, rfl⟩)
       go_ret2
       exact ⟨ret_two' (by unfold hexI; (repeat' split) <;> omega) (by simp [isHexI]; omega), rfl⟩)

end Go.Proofs.Ytaklbbkjhbkieaa

namespace Go.Proofs.Ytaklbbkjhbkieaa
open Go.RowKit

/-- The seven signs. -/
def sevenI (j : Nat) : Int := [91, 93, 123, 125, 44, 58, 34].getD j 0
def NoSeven (c : Int) (k : Nat) : Prop := ∀ j : Nat, j < k → c ≠ sevenI j
theorem noSeven_zero (c : Int) : NoSeven c 0 := fun _ h => absurd h (by omega)
theorem noSeven_succ {c : Int} {k : Nat} (h : NoSeven c k) (e : c ≠ sevenI k) : NoSeven c (k + 1) := by
  intro j hj
  by_cases hjk : j = k
  · subst hjk; exact e
  · exact h j (by omega)
theorem seven_hit {c : Int} {k : Nat} (_ : NoSeven c k) (hk : k < 7) (h : c = sevenI k) : (k : Int) + 2 = kindI c := by
  have hk : k = 0 ∨ k = 1 ∨ k = 2 ∨ k = 3 ∨ k = 4 ∨ k = 5 ∨ k = 6 := by omega
  rcases hk with rfl | rfl | rfl | rfl | rfl | rfl | rfl <;> subst h <;> rfl
theorem seven_miss {c : Int} (h : NoSeven c 7) (hb : isBlankI c = false) :
    kindI c = if c = 45 ∨ isDigitI c = true then 9 else if c = 116 ∨ c = 102 ∨ c = 110 then 10 else 0 := by
  have g0 : c ≠ 91 := h 0 (by omega)
  have g1 : c ≠ 93 := h 1 (by omega)
  have g2 : c ≠ 123 := h 2 (by omega)
  have g3 : c ≠ 125 := h 3 (by omega)
  have g4 : c ≠ 44 := h 4 (by omega)
  have g5 : c ≠ 58 := h 5 (by omega)
  have g6 : c ≠ 34 := h 6 (by omega)
  have g7 : c ≠ 32 ∧ c ≠ 9 ∧ c ≠ 10 ∧ c ≠ 13 := by
    simp [isBlankI] at hb; omega
  unfold kindI
  rw [if_neg g7.1, if_neg g7.2.1, if_neg g7.2.2.1, if_neg g7.2.2.2, if_neg g0, if_neg g1, if_neg g2, if_neg g3, if_neg g4, if_neg g5, if_neg g6]
  by_cases e : c = 45
  · simp [e]
  by_cases d : isDigitI c = true
  · have : c ≠ 116 ∧ c ≠ 102 ∧ c ≠ 110 := by simp [isDigitI] at d; omega
    rw [if_neg e, if_neg this.1, if_neg this.2.1, if_neg this.2.2, if_pos d, if_pos (.inr d)]
  · rw [if_neg e, if_neg (show ¬ (c = 45 ∨ isDigitI c = true) from fun h => h.elim e d)]
    by_cases e1 : c = 116
    · simp [e1]
    by_cases e2 : c = 102
    · simp [e2]
    by_cases e3 : c = 110
    · simp [e3]
    simp [e1, e2, e3, d]

set_option maxHeartbeats 1000000 in
theorem rkind_blank (c : Int) (w : World) (hb : isBlankI c = true) :
    Calls Try.prog 25 #[.int .u8 c] w fun e w' => e = .returned (.int .i64 (kindI c)) ∧ Below w.heap.size w w' := by
  have hk : kindI c = 1 := by
    have : c = 32 ∨ c = 9 ∨ c = 10 ∨ c = 13 := by simpa [isBlankI, or_assoc] using hb
    rcases this with rfl | rfl | rfl | rfl <;> rfl
  have HK := Lib.hid hk
  clear hk
  go_enter Try.func25, Try.ntmps25
  go_wp2_with (go_at_call 24; refine (rblank_any _ _).mono ?_; rintro e w' ⟨rfl, rfl⟩)
  go_ret
  exact ⟨ret_int HK.out.symm, Below.refl _ _⟩

set_option maxHeartbeats 1000000 in
theorem rkind_any (c : Int) (w : World) :
    Calls Try.prog 25 #[.int .u8 c] w fun e w' => e = .returned (.int .i64 (kindI c)) ∧ Below w.heap.size w w' := by
  by_cases hb : isBlankI c = true
  · exact rkind_blank c w hb
  replace hb : isBlankI c = false := by simpa using hb
  have hm : NoSeven c 7 → kindI c = if c = 45 ∨ isDigitI c = true then 9 else if c = 116 ∨ c = 102 ∨ c = 110 then 10 else 0 := fun h => seven_miss h hb
  have HM := Lib.hid hm
  clear hm
  go_enter Try.func25, Try.ntmps25
  go_wp2_with (go_at_call 24; refine (rblank_any _ _).mono ?_; rintro e w' ⟨rfl, rfl⟩)
  go_loop [9] (fun i => ∃ k : Nat, k ≤ 7 ∧ i = .int .i64 k ∧ NoSeven c k) (fun i => 7 - (intOf i).toNat)
  case atStart => exact ⟨0, by omega, rfl, noSeven_zero c⟩
  case round =>
    obtain ⟨k, hk, rfl, hno⟩ := hrel
    by_cases hlt : k < 7
    · have hk : k = 0 ∨ k = 1 ∨ k = 2 ∨ k = 3 ∨ k = 4 ∨ k = 5 ∨ k = 6 := by omega
      rcases hk with rfl | rfl | rfl | rfl | rfl | rfl | rfl
      all_goals
        go_wp2
        · rename_i h _
          have g := seven_hit hno (by omega) (beq_iff_eq.1 h)
          go_ret
          exact ⟨ret_int g, (Below.refl _ _).alloc (Nat.le_refl _) _⟩
        · rename_i h
          have g := noSeven_succ hno (beq_eq_false_iff_ne.1 h)
          go_round
          case rel => exact ⟨_, Nat.succ_le_of_lt hlt, rfl, g⟩
          case measure => simp [intOf]
    · obtain rfl : k = 7 := by omega
      have hf := HM.out hno
      have hs : (c == 45) = true ∧ kindI c = 9 ∨ (c == 45) = false ∧ isDigitI c = true ∧ kindI c = 9 ∨
          (c == 45) = false ∧ isDigitI c = false ∧ ((c == 116) = true ∧ kindI c = 10 ∨ (c == 116) = false ∧ ((c == 102) = true ∧ kindI c = 10 ∨ (c == 102) = false ∧ ((c == 110) = true ∧ kindI c = 10 ∨ (c == 110) = false ∧ kindI c = 0))) := by
        rw [hf]
        by_cases e : c = 45
        · simp [e]
        by_cases d : isDigitI c = true
        · simp [e, d]
        by_cases e1 : c = 116
        · simp [e1]
        by_cases e2 : c = 102
        · simp [e2]
        by_cases e3 : c = 110
        · simp [e3]
        simp [e, d, e1, e2, e3]
      clear hf HM
      rcases hs with ⟨e, g⟩ | ⟨e, d, g⟩ | ⟨e, d, ⟨f, g⟩ | ⟨f, ⟨f2, g⟩ | ⟨f2, ⟨f3, g⟩ | ⟨f3, g⟩⟩⟩⟩
      all_goals
        have HG := Lib.hid g
        clear g
        go_wp2_with (go_at_call 39; refine (rdigit_any _ _).mono ?_; rintro e w' ⟨rfl, rfl⟩)
        go_ret
        exact ⟨ret_int HG.out.symm, (Below.refl _ _).alloc (Nat.le_refl _) _⟩

end Go.Proofs.Ytaklbbkjhbkieaa

namespace Go.Proofs.Ytaklbbkjhbkieaa

/-- The bytes of a string, as numbers. -/
def nums (l : List UInt8) : List Int := l.map fun c => (c.toNat : Int)

def lowU (sg lf : Int) : Int := if lf = 2 ∧ sg = 0 then 160 else if lf = 3 ∧ sg = 0 then 144 else 128
def highU (sg lf : Int) : Int := if lf = 2 ∧ sg = 13 then 159 else if lf = 3 ∧ sg = 4 then 143 else 191
/-- May the byte come next? -/
def okU (sg lf c : Int) : Bool := if lf = 0 then decide (c < 128 ∨ 194 ≤ c ∧ c < 245) else decide (lowU sg lf ≤ c ∧ c ≤ highU sg lf)
def sgU (sg lf c : Int) : Int := if lf = 0 then (if c < 128 then c else if c < 224 then c - 192 else if c < 240 then c - 224 else c - 240) else sg * 64 + (c - 128)
def lfU (lf c : Int) : Int := if lf = 0 then (if c < 128 then 0 else if c < 224 then 1 else if c < 240 then 2 else 3) else lf - 1

/-- The states that a walk comes to. -/
def StU (sg lf : Int) : Prop := 0 ≤ sg ∧ (lf = 0 ∧ sg ≤ 1114111 ∨ lf = 1 ∧ sg ≤ 17407 ∨ lf = 2 ∧ sg ≤ 271 ∨ lf = 3 ∧ sg ≤ 4)

theorem stU_zero : StU 0 0 := by unfold StU; omega
theorem okU_zero {sg c : Int} (h : okU sg 0 c = true) : c < 128 ∨ 194 ≤ c ∧ c < 245 := by
  unfold okU at h
  rw [if_pos rfl] at h
  exact of_decide_eq_true h
theorem okU_more {sg lf c : Int} (hl : lf ≠ 0) (h : okU sg lf c = true) : lowU sg lf ≤ c ∧ c ≤ highU sg lf := by
  unfold okU at h
  rw [if_neg hl] at h
  exact of_decide_eq_true h
theorem lowU_in (sg lf : Int) : 128 ≤ lowU sg lf ∧ lowU sg lf ≤ 160 := by unfold lowU; (repeat' split) <;> omega
theorem highU_in (sg lf : Int) : 143 ≤ highU sg lf ∧ highU sg lf ≤ 191 := by unfold highU; (repeat' split) <;> omega
theorem okU_bd {sg lf c : Int} (hl : lf ≠ 0) (h : okU sg lf c = true) : 128 ≤ c ∧ c ≤ 191 := by
  have := okU_more hl h
  have := lowU_in sg lf
  have := highU_in sg lf
  omega

theorem stU_step {sg lf c : Int} (h : StU sg lf) (h0 : 0 ≤ c) (hk : okU sg lf c = true) : StU (sgU sg lf c) (lfU lf c) := by
  by_cases hl : lf = 0
  · subst hl
    have := okU_zero hk
    unfold StU sgU lfU
    simp only [if_true]
    repeat' split
    all_goals omega
  · have := okU_more hl hk
    have g := okU_bd hl hk
    have e1 : sgU sg lf c = sg * 64 + (c - 128) := by unfold sgU; rw [if_neg hl]
    have e2 : lfU lf c = lf - 1 := by unfold lfU; rw [if_neg hl]
    have e3 : lf = 3 ∧ sg = 4 → highU sg lf = 143 := by rintro ⟨rfl, rfl⟩; rfl
    rw [e1, e2]
    unfold StU at h ⊢
    omega

/-- Where a text isn't UTF-8, from a state on. -/
def runU : Int → Int → List UInt8 → Int → Int
  | _, lf, [], k => if 0 < lf then k else -1
  | sg, lf, c :: l, k => if okU sg lf c.toNat then runU (sgU sg lf c.toNat) (lfU lf c.toNat) l (k + 1) else k
def badU (l : List UInt8) : Int := runU 0 0 l 0

end Go.Proofs.Ytaklbbkjhbkieaa

namespace Go.Proofs.Ytaklbbkjhbkieaa
open Go.RowKit

theorem two_put {w : World} {b : Nat} {t : Nat} {x y u v : Value} (h : Own w b t #[x, y]) :
    Own ((w.setCell ⟨b, 0, none⟩ u).setCell ⟨b, 1, none⟩ v) b t #[u, v] ∧ Turned b w ((w.setCell ⟨b, 0, none⟩ u).setCell ⟨b, 1, none⟩ v) :=
  ⟨by simpa using (h.put 0 u).put 1 v, ((Turned.refl b w).put 0 u).put 1 v⟩

theorem own_eq {w : World} {b : Nat} {t : Nat} {k1 k2 : IntKind} {a a' c c' : Int} (h : Own w b t #[.int k1 a, .int k2 c]) (e : a = a') (f : c = c') : Own w b t #[.int k1 a', .int k2 c'] := by
  subst e f; exact h

theorem runU_cons (sg lf : Int) (l : List UInt8) (k : Nat) (h : k < l.length) (n : Int) :
    runU sg lf (l.drop k) n = if okU sg lf l[k].toNat then runU (sgU sg lf l[k].toNat) (lfU lf l[k].toNat) (l.drop (k + 1)) (n + 1) else n := by
  rw [List.drop_eq_getElem_cons h]; rfl

end Go.Proofs.Ytaklbbkjhbkieaa

namespace Go.Proofs.Ytaklbbkjhbkieaa
open Go.RowKit

/-- How many bytes a sign has that begins so. -/
def sizeR (c : Int) : Int := if c < 128 then 1 else if 192 ≤ c ∧ c < 224 then 2 else if 224 ≤ c ∧ c < 240 then 3 else if 240 ≤ c ∧ c < 248 then 4 else 0

set_option maxHeartbeats 400000 in
theorem rsize_any (c : Int) (w : World) :
    Calls Try.prog 37 #[.int .u8 c] w fun e w' => e = .returned (.int .i64 (sizeR c)) ∧ w = w' := by
  have hh : c < 128 ∨ (128 ≤ c ∧ c < 192) ∨ (192 ≤ c ∧ c < 224) ∨ (224 ≤ c ∧ c < 240) ∨ (240 ≤ c ∧ c < 248) ∨ 248 ≤ c := by omega
  rcases hh with hh | ⟨h1, h2⟩ | ⟨h1, h2⟩ | ⟨h1, h2⟩ | ⟨h1, h2⟩ | hh
  all_goals
    go_enter Try.func37, Try.ntmps37
    go_wp2
    go_ret
    exact ⟨ret_i (by unfold sizeR; (repeat' split) <;> omega), rfl⟩

/-- The number of as many bytes as its first one tells. -/
def baseR (n : Nat) : Int := if n = 2 then 192 else if n = 3 then 224 else if n = 4 then 240 else 0
def moreR (n : Int) (l : List UInt8) : Int := l.foldl (fun n c => n * 64 + c.toNat - 128) n
def numR (l : List UInt8) : Int := match l with
  | [] => 0
  | c :: t => moreR (c.toNat - baseR l.length) t


theorem byte_le (s : ByteArray) (k : Nat) (h : k < s.size) : 0 ≤ (s[k].toNat : Int) ∧ (s[k].toNat : Int) ≤ 255 := by
  have := UInt8.toNat_lt s[k]
  omega

theorem moreR_snoc (n : Int) (l : List UInt8) (k : Nat) (h : k < l.length) : moreR n (l.take (k + 1)) = moreR n (l.take k) * 64 + l[k].toNat - 128 := by
  rw [List.take_succ_eq_append_getElem h]
  unfold moreR
  rw [List.foldl_append]
  rfl

/-- The number behind k bytes. -/
def upR (s : ByteArray) (k : Nat) : Int := moreR ((s.data.toList.headD 0).toNat - baseR s.size) ((s.data.toList.take k).drop 1)
def bN (k : Nat) : Int := if k ≤ 1 then 256 else if k = 2 then 16640 else if k = 3 then 1081600 else 70304000
theorem bN_up (k : Nat) (h : 1 ≤ k) (h4 : k < 4) : bN k * 64 + 128 ≤ bN (k + 1) ∧ 0 ≤ bN k ∧ bN k ≤ 70304000 := by
  have : k = 1 ∨ k = 2 ∨ k = 3 := by omega
  rcases this with rfl | rfl | rfl <;> decide

theorem upR_one (s : ByteArray) (h : 0 < s.size) : upR s 1 = s[0].toNat - baseR s.size := by
  unfold upR
  have : (s.data.toList.take 1).drop 1 = [] := by
    apply List.drop_of_length_le
    simp
    omega
  rw [this]
  have h0 : s.data.toList.headD 0 = s[0] := by
    have : 0 < s.data.toList.length := h
    cases hl : s.data.toList with
    | nil => rw [hl] at this; simp at this
    | cons a t =>
      have : s.data.toList[0] = a := by simp [hl]
      exact this.symm
  rw [h0]; rfl

theorem upR_more (s : ByteArray) (k : Nat) (h1 : 1 ≤ k) (h : k < s.size) : upR s (k + 1) = upR s k * 64 + s[k].toNat - 128 := by
  unfold upR
  have hk : k < s.data.toList.length := h
  rw [List.take_succ_eq_append_getElem hk, List.drop_append_of_le_length (by simp; omega)]
  unfold moreR
  rw [List.foldl_append]
  rfl

theorem upR_all (s : ByteArray) (h : 0 < s.size) : upR s s.size = numR s.data.toList := by
  unfold upR
  have hl : 0 < s.data.toList.length := h
  have e : s.data.toList.take s.size = s.data.toList := List.take_of_length_le (Nat.le_refl _)
  have es : s.size = s.data.toList.length := rfl
  rw [e, es]
  cases hc : s.data.toList with
  | nil => rw [hc] at hl; simp at hl
  | cons a t => rfl

def RelNum (s : ByteArray) (n i : Value) : Prop :=
  ∃ k : Nat, 1 ≤ k ∧ k ≤ s.size ∧ i = .int .i64 k ∧ n = .int .i64 (upR s k) ∧ -bN k ≤ upR s k ∧ upR s k ≤ bN k

set_option maxHeartbeats 2000000 in
theorem rnumber_any (s : ByteArray) (w : World) (h1 : 0 < s.size) (h4 : s.size ≤ 4) :
    Calls Try.prog 38 #[.string s] w fun e w' => e = .returned (.int .i64 (numR s.data.toList)) ∧ w = w' := by
  obtain ⟨b0, b9⟩ := byte_le s 0 h1
  have hu := upR_one s h1
  have hz : s.size = 1 ∨ s.size = 2 ∨ s.size = 3 ∨ s.size = 4 := by omega
  rcases hz with hz | hz | hz | hz
  all_goals
    rw [hz] at hu
    have HU := Lib.hid hu
    have HZ := Lib.hid hz
    have hb : -bN 1 ≤ upR s 1 ∧ upR s 1 ≤ bN 1 := by rw [hu]; simp [baseR, bN]; omega
    clear hu
    go_enter Try.func38, Try.ntmps38
    go_wp2
    go_loop [3, 4] (fun n i => RelNum s n i) (fun _ i => s.size - (intOf i).toNat)
    case atStart => exact ⟨1, Nat.le_refl _, h1, rfl, by rw [HU.out]; rfl, hb⟩
    case round =>
      obtain ⟨k, hk1, hk, rfl, rfl, hb1, hb2⟩ := hrel
      by_cases hlt : k < s.size
      · obtain ⟨c0, c9⟩ := byte_le s k hlt
        obtain ⟨n0, n1, n2⟩ := bN_up k hk1 (by omega)
        have HM := Lib.hid (upR_more s k hk1 hlt)
        first
          | omega
          | (go_wp2
             go_round
             case rel => exact ⟨k + 1, by omega, hlt, by go_num, by rw [HM.out], by rw [HM.out]; omega, by rw [HM.out]; omega⟩
             case measure => simp [intOf]; omega)
      · have hk' : k = s.size := by omega
        have HA := upR_all s h1
        rw [← hk'] at HA
        have HA' := Lib.hid HA
        clear HA hk'
        go_wp2
        go_ret
        exact ⟨ret_i HA'.out, rfl⟩

def contR (l : List UInt8) : Bool := l.all fun c => decide (128 ≤ c.toNat ∧ c.toNat ≤ 191)
def leastR (n : Nat) : Int := if n = 2 then 128 else if n = 3 then 2048 else if n = 4 then 65536 else 0
def padR (l : List UInt8) (n : Nat) (c : UInt8) : List UInt8 := l ++ List.replicate (n - l.length) c
/-- The answer behind the bytes' looks: from the lowest and the topmost number. -/
def endR (m n : Nat) (a b : Int) : Bool × Bool × Int :=
  if b < leastR n ∨ 1114111 < a ∨ (55296 ≤ a ∧ b ≤ 57343) then (false, false, 0) else if m = n then (true, true, a) else (true, false, 0)
def begR (l : List UInt8) : Bool × Bool × Int := match l with
  | [] => (true, false, 0)
  | c :: t =>
    if sizeR c.toNat = 0 ∨ sizeR c.toNat < (c :: t).length then (false, false, 0) else
    if contR t then endR (c :: t).length (sizeR c.toNat).toNat (numR (padR (c :: t) (sizeR c.toNat).toNat 128)) (numR (padR (c :: t) (sizeR c.toNat).toNat 191)) else (false, false, 0)

/-- The first k bytes but the first one go on within a sign. -/
def ContTo (s : ByteArray) (k : Nat) : Prop := contR ((s.data.toList.take k).drop 1) = true
theorem contTo_one (s : ByteArray) : ContTo s 1 := by
  unfold ContTo
  have : (s.data.toList.take 1).drop 1 = [] := by
    apply List.drop_of_length_le
    simp
    omega
  rw [this]; rfl
theorem cont_snoc (s : ByteArray) (k : Nat) (h1 : 1 ≤ k) (h : k < s.size) : contR ((s.data.toList.take (k + 1)).drop 1) = (contR ((s.data.toList.take k).drop 1) && decide (128 ≤ s[k].toNat ∧ s[k].toNat ≤ 191)) := by
  have hk : k < s.data.toList.length := h
  rw [List.take_succ_eq_append_getElem hk, List.drop_append_of_le_length (by simp; omega)]
  unfold contR
  rw [List.all_append]
  simp
  rfl
def RelCont (s : ByteArray) (i : Value) : Prop := ∃ k : Nat, 1 ≤ k ∧ k ≤ s.size ∧ i = .int .i64 k ∧ ContTo s k

theorem cont_no (l : List UInt8) : ∀ k, contR ((l.take k).drop 1) = false → contR (l.drop 1) = false := by
  intro k h
  have e : l.drop 1 = (l.take k).drop 1 ++ ((l.drop 1).drop (k - 1)) := by
    cases l with
    | nil => simp
    | cons a t =>
      cases k with
      | zero => simp [contR] at h
      | succ k => simp
  rw [e]
  unfold contR at h ⊢
  rw [List.all_append, h]; rfl

end Go.Proofs.Ytaklbbkjhbkieaa

namespace Go.Proofs.Ytaklbbkjhbkieaa

/-- The bytes since the last sign's end, and the state that they lead to. -/
def InvL (l : List UInt8) (sg lf : Int) : Prop := match l with
  | [] => lf = 0
  | [a] => (194 ≤ a.toNat ∧ a.toNat ≤ 223 ∧ lf = 1 ∧ sg = a.toNat - 192) ∨ (224 ≤ a.toNat ∧ a.toNat ≤ 239 ∧ lf = 2 ∧ sg = a.toNat - 224) ∨ (240 ≤ a.toNat ∧ a.toNat ≤ 244 ∧ lf = 3 ∧ sg = a.toNat - 240)
  | [a, b] => 128 ≤ b.toNat ∧ b.toNat ≤ 191 ∧ ((224 ≤ a.toNat ∧ a.toNat ≤ 239 ∧ lf = 1 ∧ sg = (a.toNat - 224) * 64 + b.toNat - 128 ∧ 32 ≤ sg ∧ (sg < 864 ∨ 896 ≤ sg)) ∨ (240 ≤ a.toNat ∧ a.toNat ≤ 244 ∧ lf = 2 ∧ sg = (a.toNat - 240) * 64 + b.toNat - 128 ∧ 16 ≤ sg ∧ sg ≤ 271))
  | [a, b, c] => 128 ≤ b.toNat ∧ b.toNat ≤ 191 ∧ 128 ≤ c.toNat ∧ c.toNat ≤ 191 ∧ 240 ≤ a.toNat ∧ a.toNat ≤ 244 ∧ lf = 1 ∧ sg = ((a.toNat - 240) * 64 + b.toNat - 128) * 64 + c.toNat - 128 ∧ 1024 ≤ sg ∧ sg ≤ 17407
  | _ => False

theorem begR_val (c : UInt8) (t : List UInt8) (n : Nat) (hn : sizeR c.toNat = n) (h1 : 1 ≤ n) (h : (c :: t).length ≤ n) :
    begR (c :: t) = if contR t then endR (c :: t).length n (numR (padR (c :: t) n 128)) (numR (padR (c :: t) n 191)) else (false, false, 0) := by
  show (if sizeR c.toNat = 0 ∨ sizeR c.toNat < (c :: t).length then (false, false, 0) else
    if contR t then endR (c :: t).length (sizeR c.toNat).toNat (numR (padR (c :: t) (sizeR c.toNat).toNat 128)) (numR (padR (c :: t) (sizeR c.toNat).toNat 191)) else (false, false, 0)) = _
  rw [if_neg (by rw [hn]; omega), hn]
  rfl

theorem sizeR_2 {c : Int} (h : 192 ≤ c) (h' : c < 224) : sizeR c = (2 : Nat) := by unfold sizeR; (repeat' split) <;> omega
theorem sizeR_3 {c : Int} (h : 224 ≤ c) (h' : c < 240) : sizeR c = (3 : Nat) := by unfold sizeR; (repeat' split) <;> omega
theorem sizeR_4 {c : Int} (h : 240 ≤ c) (h' : c < 248) : sizeR c = (4 : Nat) := by unfold sizeR; (repeat' split) <;> omega
theorem sizeR_1 {c : Int} (h' : c < 128) : sizeR c = (1 : Nat) := by unfold sizeR; (repeat' split) <;> omega
theorem sizeR_0 {c : Int} (h : 128 ≤ c ∧ c < 192 ∨ 248 ≤ c) : sizeR c = 0 := by unfold sizeR; (repeat' split) <;> omega
theorem begR_zero (c : UInt8) (t : List UInt8) (h : sizeR c.toNat = 0) : begR (c :: t) = (false, false, 0) := by
  show (if sizeR c.toNat = 0 ∨ sizeR c.toNat < (c :: t).length then (false, false, 0) else
    if contR t then endR (c :: t).length (sizeR c.toNat).toNat (numR (padR (c :: t) (sizeR c.toNat).toNat 128)) (numR (padR (c :: t) (sizeR c.toNat).toNat 191)) else (false, false, 0)) = _
  rw [if_pos (.inl h)]

/-- What the walk's step answers, as Begins says it. -/
def ansU (sg lf c : Int) : Bool × Bool × Int :=
  if okU sg lf c then (if lfU lf c = 0 then (true, true, sgU sg lf c) else (true, false, 0)) else (false, false, 0)

theorem ans_end {m n : Nat} {a b sg lf c : Int} (hr : (b < leastR n ∨ 1114111 < a ∨ (55296 ≤ a ∧ b ≤ 57343)) ↔ okU sg lf c = false)
    (hw : okU sg lf c = true → (m = n ↔ lfU lf c = 0)) (hv : okU sg lf c = true → m = n → sgU sg lf c = a) : endR m n a b = ansU sg lf c := by
  unfold endR ansU
  by_cases hk : okU sg lf c = true
  · rw [if_neg (by rw [hr, hk]; simp), if_pos hk]
    by_cases hm : m = n
    · rw [if_pos hm, if_pos ((hw hk).1 hm), hv hk hm]
    · rw [if_neg hm, if_neg (fun h => hm ((hw hk).2 h))]
  · rw [if_pos (hr.2 (by simpa using hk)), if_neg hk]

theorem okU_iff0 (sg c : Int) : okU sg 0 c = false ↔ ¬ (c < 128 ∨ 194 ≤ c ∧ c < 245) := by
  unfold okU; rw [if_pos rfl]; simp
theorem okU_iff {sg lf c : Int} (h : lf ≠ 0) : okU sg lf c = false ↔ ¬ (lowU sg lf ≤ c ∧ c ≤ highU sg lf) := by
  unfold okU; rw [if_neg h]; simp

theorem beg_one (c : UInt8) (sg : Int) : begR [c] = ansU sg 0 c.toNat := by
  have hc := UInt8.toNat_lt c
  have hh : (c.toNat : Int) < 128 ∨ (192 ≤ (c.toNat : Int) ∧ (c.toNat : Int) < 224) ∨ (224 ≤ (c.toNat : Int) ∧ (c.toNat : Int) < 240) ∨ (240 ≤ (c.toNat : Int) ∧ (c.toNat : Int) < 248) ∨ (128 ≤ (c.toNat : Int) ∧ (c.toNat : Int) < 192 ∨ 248 ≤ (c.toNat : Int)) := by omega
  rcases hh with h | ⟨h, h'⟩ | ⟨h, h'⟩ | ⟨h, h'⟩ | h
  · rw [begR_val c [] 1 (sizeR_1 h) (by omega) (by simp), if_pos (show contR [] = true from rfl)]
    refine ans_end ?_ ?_ ?_
    · rw [okU_iff0]; simp [padR, numR, moreR, leastR, baseR]; omega
    · simp [lfU]; omega
    · simp [sgU, padR, numR, moreR, baseR]; omega
  · rw [begR_val c [] 2 (sizeR_2 h h') (by omega) (by simp), if_pos (show contR [] = true from rfl)]
    refine ans_end ?_ ?_ ?_
    · rw [okU_iff0]; simp [padR, numR, moreR, leastR, baseR]; omega
    · simp [lfU]; omega
    · simp
  · rw [begR_val c [] 3 (sizeR_3 h h') (by omega) (by simp), if_pos (show contR [] = true from rfl)]
    refine ans_end ?_ ?_ ?_
    · rw [okU_iff0]; simp [padR, numR, moreR, leastR, baseR, List.replicate]; omega
    · simp [lfU]; omega
    · simp
  · rw [begR_val c [] 4 (sizeR_4 h h') (by omega) (by simp), if_pos (show contR [] = true from rfl)]
    refine ans_end ?_ ?_ ?_
    · rw [okU_iff0]; simp [padR, numR, moreR, leastR, baseR, List.replicate]; omega
    · simp [lfU]; omega
    · simp
  · rw [begR_zero c [] (sizeR_0 h)]
    unfold ansU
    rw [(okU_iff0 sg c.toNat).2 (by omega)]; rfl

theorem beg_bad (c : UInt8) (t : List UInt8) (n : Nat) (hn : sizeR c.toNat = n) (h1 : 1 ≤ n) (h : (c :: t).length ≤ n) (hb : contR t = false) {sg lf x : Int} (hl : lf ≠ 0) (hx : ¬ (128 ≤ x ∧ x ≤ 191)) :
    begR (c :: t) = ansU sg lf x := by
  rw [begR_val c t n hn h1 h, if_neg (by rw [hb]; simp)]
  unfold ansU
  rw [(okU_iff hl).2 (by have := lowU_in sg lf; have := highU_in sg lf; omega)]; rfl

theorem lowhigh (sg lf c : Int) (h : 128 ≤ c) (h' : c ≤ 191) (hl : lf ≠ 0) :
    okU sg lf c = false ↔ (lf = 2 ∧ sg = 0 ∧ c < 160) ∨ (lf = 3 ∧ sg = 0 ∧ c < 144) ∨ (lf = 2 ∧ sg = 13 ∧ 160 ≤ c) ∨ (lf = 3 ∧ sg = 4 ∧ 144 ≤ c) := by
  rw [okU_iff hl]
  unfold lowU highU
  (repeat' split) <;> omega

theorem beg_more (l : List UInt8) (c : UInt8) (sg lf : Int) (hne : l ≠ []) (h : InvL l sg lf) : begR (l ++ [c]) = ansU sg lf c.toNat := by
  have hc := UInt8.toNat_lt c
  have hlf : lf ≠ 0 := by
    unfold InvL at h
    split at h <;> (first | exact absurd rfl hne | exact h.elim | omega)
  have e2 : lfU lf c.toNat = lf - 1 := by unfold lfU; rw [if_neg hlf]
  have e1 : sgU sg lf c.toNat = sg * 64 + (c.toNat - 128) := by unfold sgU; rw [if_neg hlf]
  match l, h with
  | [a], h =>
    have ha := UInt8.toNat_lt a
    show begR (a :: [c]) = _
    rcases h with ⟨h1, h2, rfl, h3⟩ | ⟨h1, h2, rfl, h3⟩ | ⟨h1, h2, rfl, h3⟩
    all_goals
      by_cases hb : 128 ≤ (c.toNat : Int) ∧ (c.toNat : Int) ≤ 191
      · have hk := lowhigh sg _ c.toNat hb.1 hb.2 hlf
        first
          | rw [begR_val a [c] 2 (sizeR_2 (by omega) (by omega)) (by omega) (by simp), if_pos (by simp [contR]; omega)]
          | rw [begR_val a [c] 3 (sizeR_3 (by omega) (by omega)) (by omega) (by simp), if_pos (by simp [contR]; omega)]
          | rw [begR_val a [c] 4 (sizeR_4 (by omega) (by omega)) (by omega) (by simp), if_pos (by simp [contR]; omega)]
        refine ans_end ?_ ?_ ?_
        · rw [hk]; simp [padR, numR, moreR, leastR, baseR, List.replicate]; omega
        · rw [e2]; simp
        · rw [e1]; simp [padR, numR, moreR, baseR] <;> omega
      · first
          | exact beg_bad a [c] 2 (sizeR_2 (by omega) (by omega)) (by omega) (by simp) (by simp [contR]; omega) hlf hb
          | exact beg_bad a [c] 3 (sizeR_3 (by omega) (by omega)) (by omega) (by simp) (by simp [contR]; omega) hlf hb
          | exact beg_bad a [c] 4 (sizeR_4 (by omega) (by omega)) (by omega) (by simp) (by simp [contR]; omega) hlf hb
  | [a, b], h =>
    have ha := UInt8.toNat_lt a
    have hb := UInt8.toNat_lt b
    show begR (a :: [b, c]) = _
    obtain ⟨g1, g2, ⟨h1, h2, rfl, h3, h4, h5⟩ | ⟨h1, h2, rfl, h3, h4, h5⟩⟩ := h
    all_goals
      by_cases hb : 128 ≤ (c.toNat : Int) ∧ (c.toNat : Int) ≤ 191
      · have hk := lowhigh sg _ c.toNat hb.1 hb.2 hlf
        first
          | rw [begR_val a [b, c] 3 (sizeR_3 (by omega) (by omega)) (by omega) (by simp), if_pos (by simp [contR]; omega)]
          | rw [begR_val a [b, c] 4 (sizeR_4 (by omega) (by omega)) (by omega) (by simp), if_pos (by simp [contR]; omega)]
        refine ans_end ?_ ?_ ?_
        · rw [hk]; simp [padR, numR, moreR, leastR, baseR]; omega
        · rw [e2]; simp
        · rw [e1]; simp [padR, numR, moreR, baseR] <;> omega
      · first
          | exact beg_bad a [b, c] 3 (sizeR_3 (by omega) (by omega)) (by omega) (by simp) (by simp [contR]; omega) hlf hb
          | exact beg_bad a [b, c] 4 (sizeR_4 (by omega) (by omega)) (by omega) (by simp) (by simp [contR]; omega) hlf hb
  | [a, b, d], h =>
    have ha := UInt8.toNat_lt a
    have hb := UInt8.toNat_lt b
    have hd := UInt8.toNat_lt d
    show begR (a :: [b, d, c]) = _
    obtain ⟨g1, g2, g3, g4, h1, h2, rfl, h3, h4, h5⟩ := h
    by_cases hb : 128 ≤ (c.toNat : Int) ∧ (c.toNat : Int) ≤ 191
    · have hk := lowhigh sg _ c.toNat hb.1 hb.2 hlf
      rw [begR_val a [b, d, c] 4 (sizeR_4 (by omega) (by omega)) (by omega) (by simp), if_pos (by simp [contR]; omega)]
      refine ans_end ?_ ?_ ?_
      · rw [hk]; simp [padR, numR, moreR, leastR, baseR]; omega
      · rw [e2]; simp
      · rw [e1]; simp [padR, numR, moreR, baseR]; omega
    · exact beg_bad a [b, d, c] 4 (sizeR_4 (by omega) (by omega)) (by omega) (by simp) (by simp [contR]; omega) hlf hb

theorem beg_any (l : List UInt8) (c : UInt8) (sg lf : Int) (h : InvL l sg lf) : begR (l ++ [c]) = ansU sg lf c.toNat := by
  cases l with
  | nil => obtain rfl : lf = 0 := h; exact beg_one c sg
  | cons a t => exact beg_more _ c sg lf (by simp) h

theorem invL_len {l : List UInt8} {sg lf : Int} (h : InvL l sg lf) : l.length ≤ 3 ∧ (l = [] ↔ lf = 0) := by
  match l, h with
  | [], h => exact ⟨by simp, by simp; exact h⟩
  | [a], h => exact ⟨by simp, by simp; unfold InvL at h; simp at h; omega⟩
  | [a, b], h => exact ⟨by simp, by simp; unfold InvL at h; simp at h; omega⟩
  | [a, b, c], h => exact ⟨by simp, by simp; unfold InvL at h; simp at h; omega⟩

theorem invL_size {l : List UInt8} {sg lf : Int} {c : UInt8} (h : InvL l sg lf) : ∀ a t, l ++ [c] = a :: t → (∃ n : Nat, (n = 1 ∨ n = 2 ∨ n = 3 ∨ n = 4) ∧ (l ++ [c]).length ≤ n ∧ sizeR a.toNat = n) ∨ (sizeR a.toNat = 0) := by
  intro a t e
  match l, h with
  | [], h =>
    have hc := UInt8.toNat_lt c
    simp at e
    obtain ⟨rfl, rfl⟩ := e
    have hh : (c.toNat : Int) < 128 ∨ (192 ≤ (c.toNat : Int) ∧ (c.toNat : Int) < 224) ∨ (224 ≤ (c.toNat : Int) ∧ (c.toNat : Int) < 240) ∨ (240 ≤ (c.toNat : Int) ∧ (c.toNat : Int) < 248) ∨ (128 ≤ (c.toNat : Int) ∧ (c.toNat : Int) < 192 ∨ 248 ≤ (c.toNat : Int)) := by omega
    rcases hh with h | ⟨h, h'⟩ | ⟨h, h'⟩ | ⟨h, h'⟩ | h
    · exact .inl ⟨1, by omega, by simp, sizeR_1 h⟩
    · exact .inl ⟨2, by omega, by simp, sizeR_2 h h'⟩
    · exact .inl ⟨3, by omega, by simp, sizeR_3 h h'⟩
    · exact .inl ⟨4, by omega, by simp, sizeR_4 h h'⟩
    · exact .inr (sizeR_0 h)
  | [b], h =>
    simp at e
    obtain ⟨rfl, rfl⟩ := e
    rcases h with ⟨h1, h2, _, _⟩ | ⟨h1, h2, _, _⟩ | ⟨h1, h2, _, _⟩
    · exact .inl ⟨2, by omega, by simp, sizeR_2 (by omega) (by omega)⟩
    · exact .inl ⟨3, by omega, by simp, sizeR_3 (by omega) (by omega)⟩
    · exact .inl ⟨4, by omega, by simp, sizeR_4 (by omega) (by omega)⟩
  | [b, d], h =>
    simp at e
    obtain ⟨rfl, rfl⟩ := e
    rcases h with ⟨_, _, ⟨h1, h2, _⟩ | ⟨h1, h2, _⟩⟩
    · exact .inl ⟨3, by omega, by simp, sizeR_3 (by omega) (by omega)⟩
    · exact .inl ⟨4, by omega, by simp, sizeR_4 (by omega) (by omega)⟩
  | [b, d, f], h =>
    simp at e
    obtain ⟨rfl, rfl⟩ := e
    obtain ⟨_, _, _, _, h1, h2, _⟩ := h
    exact .inl ⟨4, by omega, by simp, sizeR_4 (by omega) (by omega)⟩

theorem invL_step {l : List UInt8} {sg lf : Int} {c : UInt8} (h : InvL l sg lf) (hk : okU sg lf c.toNat = true) :
    InvL (if lfU lf c.toNat = 0 then [] else l ++ [c]) (sgU sg lf c.toNat) (lfU lf c.toNat) := by
  by_cases hz : lfU lf c.toNat = 0
  · rw [if_pos hz]; exact hz
  · rw [if_neg hz]
    have hc := UInt8.toNat_lt c
    match l, h with
    | [], h =>
      obtain rfl : lf = 0 := h
      have hk' := okU_zero hk
      unfold lfU at hz ⊢
      unfold sgU
      simp only [if_true] at hz ⊢
      show (_ ∨ _)
      split at hz
      · exact absurd rfl hz
      · rename_i h1
        rw [if_neg h1, if_neg h1]
        (repeat' split) <;> omega
    | [a], h =>
      have hlf : lf ≠ 0 := fun e => by have := (invL_len h).2.2 e; cases this
      have e2 : lfU lf c.toNat = lf - 1 := by unfold lfU; rw [if_neg hlf]
      have e1 : sgU sg lf c.toNat = sg * 64 + (c.toNat - 128) := by unfold sgU; rw [if_neg hlf]
      have hb := okU_bd hlf hk
      have hn := (lowhigh sg lf c.toNat hb.1 hb.2 hlf)
      rw [hk] at hn
      simp only [Bool.true_eq_false, false_iff] at hn
      rw [e2] at hz
      rw [e1, e2]
      rcases h with ⟨h1, h2, rfl, h3⟩ | ⟨h1, h2, rfl, h3⟩ | ⟨h1, h2, rfl, h3⟩
      · omega
      · exact ⟨by omega, by omega, .inl ⟨by omega, by omega, by omega, by omega, by omega, by omega⟩⟩
      · exact ⟨by omega, by omega, .inr ⟨by omega, by omega, by omega, by omega, by omega, by omega⟩⟩
    | [a, b], h =>
      have hlf : lf ≠ 0 := fun e => by have := (invL_len h).2.2 e; cases this
      have e2 : lfU lf c.toNat = lf - 1 := by unfold lfU; rw [if_neg hlf]
      have e1 : sgU sg lf c.toNat = sg * 64 + (c.toNat - 128) := by unfold sgU; rw [if_neg hlf]
      have hb := okU_bd hlf hk
      rw [e2] at hz
      rw [e1, e2]
      obtain ⟨g1, g2, ⟨h1, h2, rfl, h3, h4, h5⟩ | ⟨h1, h2, rfl, h3, h4, h5⟩⟩ := h
      · omega
      · exact ⟨by omega, by omega, by omega, by omega, by omega, by omega, by omega, by omega, by omega, by omega⟩
    | [a, b, d], h =>
      have hlf : lf ≠ 0 := fun e => by have := (invL_len h).2.2 e; cases this
      have e2 : lfU lf c.toNat = lf - 1 := by unfold lfU; rw [if_neg hlf]
      rw [e2] at hz
      obtain ⟨g1, g2, g3, g4, h1, h2, rfl, h3, h4, h5⟩ := h
      omega

end Go.Proofs.Ytaklbbkjhbkieaa

namespace Go.Proofs.Ytaklbbkjhbkieaa
open Go.RowKit

def unitI (n : Int) : Int := if 55296 ≤ n ∧ n < 56320 then 1 else if 56320 ≤ n ∧ n < 57344 then 2 else 0
def hasI (n : Int) : Bool := decide (0 ≤ n ∧ n ≤ 1114111 ∧ (n < 55296 ∨ 57343 < n))
def fixI (n : Int) : Int := if hasI n then n else 65533
def ofI (m : Int) : List Int :=
  if m < 128 then [m] else if m < 2048 then [192 + m / 64, 128 + m % 64] else if m < 65536 then [224 + m / 4096, 128 + m / 64 % 64, 128 + m % 64]
  else [240 + m / 262144, 128 + m / 4096 % 64, 128 + m / 64 % 64, 128 + m % 64]

theorem fixI_in (n : Int) : 0 ≤ fixI n ∧ fixI n ≤ 1114111 ∧ (fixI n < 55296 ∨ 57343 < fixI n) := by
  unfold fixI hasI
  split
  · rename_i h; simpa using h
  · omega

theorem ofI_is {n : Int} : (n < 128 ∧ ofI n = [n]) ∨ (128 ≤ n ∧ n < 2048 ∧ ofI n = [192 + n / 64, 128 + n % 64]) ∨
    (2048 ≤ n ∧ n < 65536 ∧ ofI n = [224 + n / 4096, 128 + n / 64 % 64, 128 + n % 64]) ∨
    (65536 ≤ n ∧ ofI n = [240 + n / 262144, 128 + n / 4096 % 64, 128 + n / 64 % 64, 128 + n % 64]) := by
  unfold ofI
  (repeat' split) <;> simp <;> omega

theorem runU_both (l : List UInt8) : ∀ (sg lf : Int), -1 ≤ runU sg lf l 0 ∧ ∀ k : Int, runU sg lf l k = if runU sg lf l 0 = -1 then -1 else runU sg lf l 0 + k := by
  induction l with
  | nil => intro sg lf; by_cases h : 0 < lf <;> simp [runU, h]
  | cons c l ih =>
    intro sg lf
    show -1 ≤ (if okU sg lf c.toNat then runU _ _ l (0 + 1) else 0) ∧ ∀ k : Int, (if okU sg lf c.toNat then runU _ _ l (k + 1) else k) = if (if okU sg lf c.toNat then runU _ _ l (0 + 1) else 0) = -1 then -1 else (if okU sg lf c.toNat then runU _ _ l (0 + 1) else 0) + k
    by_cases h : okU sg lf c.toNat = true
    · simp only [h, if_true]
      obtain ⟨i1, i2⟩ := ih (sgU sg lf c.toNat) (lfU lf c.toNat)
      rw [i2 (0 + 1)]
      refine ⟨by split <;> omega, fun k => ?_⟩
      rw [i2 (k + 1)]
      (repeat' split) <;> omega
    · simp only [h]
      simp

theorem runU_shift (l : List UInt8) (sg lf k : Int) : runU sg lf l k = if runU sg lf l 0 = -1 then -1 else runU sg lf l 0 + k := (runU_both l sg lf).2 k

theorem runU_ge (l : List UInt8) : ∀ (sg lf : Int), -1 ≤ runU sg lf l 0 ∧ runU sg lf l 0 ≤ l.length := by
  induction l with
  | nil => intro sg lf; show -1 ≤ (if 0 < lf then 0 else -1 : Int) ∧ (if 0 < lf then 0 else -1 : Int) ≤ _; split <;> simp
  | cons c l ih =>
    intro sg lf
    show -1 ≤ (if okU sg lf c.toNat then runU _ _ l (0 + 1) else 0) ∧ (if okU sg lf c.toNat then runU _ _ l (0 + 1) else 0) ≤ ((c :: l).length : Int)
    have e : ((c :: l).length : Int) = l.length + 1 := by simp
    rw [e]
    split
    · rw [runU_shift]
      have := ih (sgU sg lf c.toNat) (lfU lf c.toNat)
      split <;> omega
    · omega

/-- Between two signs the number doesn't matter. -/
theorem runU_zero (l : List UInt8) (sg sg' k : Int) : runU sg 0 l k = runU sg' 0 l k := by
  cases l with
  | nil => rfl
  | cons c l =>
    have e1 : okU sg 0 c.toNat = okU sg' 0 c.toNat := rfl
    have e2 : sgU sg 0 c.toNat = sgU sg' 0 c.toNat := rfl
    show (if okU sg 0 c.toNat then runU _ _ l (k + 1) else k) = (if okU sg' 0 c.toNat then runU _ _ l (k + 1) else k)
    rw [e1, e2]

theorem runU_append (l m : List UInt8) : ∀ (sg lf : Int), StU sg lf →
    (runU sg lf l 0 = -1 → runU sg lf (l ++ m) 0 = runU 0 0 m l.length) ∧
    (0 ≤ runU sg lf l 0 → runU sg lf l 0 < l.length → runU sg lf (l ++ m) 0 = runU sg lf l 0) := by
  induction l with
  | nil =>
    intro sg lf hst
    refine ⟨fun h => ?_, fun _ h => ?_⟩
    · have : lf = 0 := by
        have h : (if 0 < lf then 0 else -1 : Int) = -1 := h
        unfold StU at hst
        split at h <;> omega
      subst this
      exact runU_zero m sg 0 _
    · have h : (if 0 < lf then 0 else -1 : Int) < 0 := h
      have h0 : (0 : Int) ≤ (if 0 < lf then 0 else -1 : Int) := by assumption
      omega
  | cons c l ih =>
    intro sg lf hst
    have e : ((c :: l).length : Int) = l.length + 1 := by simp
    rw [e]
    show ((if okU sg lf c.toNat then runU _ _ l (0 + 1) else 0) = -1 → (if okU sg lf c.toNat then runU _ _ (l ++ m) (0 + 1) else 0) = _) ∧
      (0 ≤ (if okU sg lf c.toNat then runU _ _ l (0 + 1) else 0) → (if okU sg lf c.toNat then runU _ _ l (0 + 1) else 0) < (l.length : Int) + 1 → (if okU sg lf c.toNat then runU _ _ (l ++ m) (0 + 1) else 0) = (if okU sg lf c.toNat then runU _ _ l (0 + 1) else 0))
    by_cases h : okU sg lf c.toNat = true
    · simp only [h, if_true]
      obtain ⟨i1, i2⟩ := ih _ _ (stU_step hst (Int.natCast_nonneg _) h)
      have g := runU_ge l (sgU sg lf c.toNat) (lfU lf c.toNat)
      rw [runU_shift l _ _ (0 + 1), runU_shift (l ++ m) _ _ (0 + 1)]
      refine ⟨fun hh => ?_, fun h0 hh => ?_⟩
      · split at hh
        · rename_i h1
          rw [i1 h1, runU_shift m 0 0 l.length, runU_shift m 0 0 (l.length + 1)]
          have := (runU_ge m 0 0).1
          (repeat' split) <;> omega
        · omega
      · split at hh
        · rw [if_pos (by assumption)] at h0
          omega
        · rename_i h1
          rw [i2 (by omega) (by omega), if_neg h1]
    · simp only [h]
      simp

theorem badU_append (l m : List UInt8) :
    (badU l = -1 → badU (l ++ m) = if badU m = -1 then -1 else badU m + l.length) ∧
    (0 ≤ badU l → badU l < l.length → badU (l ++ m) = badU l) := by
  obtain ⟨h1, h2⟩ := runU_append l m 0 0 stU_zero
  exact ⟨fun h => by rw [show badU (l ++ m) = runU 0 0 (l ++ m) 0 from rfl, h1 h, runU_shift]; rfl, h2⟩

theorem runU_num (sg lf a k : Int) (h0 : 0 ≤ a) (h9 : a < 256) (l : List UInt8) :
    runU sg lf (UInt8.ofNat a.toNat :: l) k = if okU sg lf a then runU (sgU sg lf a) (lfU lf a) l (k + 1) else k := by
  have e : ((UInt8.ofNat a.toNat).toNat : Int) = a := by
    rw [UInt8.toNat_ofNat']
    omega
  show (if okU sg lf ((UInt8.ofNat a.toNat).toNat : Int) then _ else _) = _
  rw [e]

theorem okU_0 (c : Int) (h : c < 128 ∨ 194 ≤ c ∧ c < 245) (sg : Int) : okU sg 0 c = true := by unfold okU; rw [if_pos rfl]; exact decide_eq_true h
theorem okU_n {sg lf c : Int} (hl : lf ≠ 0) (h : lowU sg lf ≤ c ∧ c ≤ highU sg lf) : okU sg lf c = true := by unfold okU; rw [if_neg hl]; exact decide_eq_true h

theorem badU_of (m : Int) (h0 : 0 ≤ m) (h9 : m ≤ 1114111) (hs : m < 55296 ∨ 57343 < m) : badU (strOfNums (ofI m)).data.toList = -1 := by
  rw [strOfNums_data]
  unfold badU
  rcases @ofI_is m with ⟨h, e⟩ | ⟨h, h', e⟩ | ⟨h, h', e⟩ | ⟨h, e⟩
  · rw [e]
    simp only [List.map_cons, List.map_nil]
    rw [runU_num _ _ _ _ (by omega) (by omega), okU_0 _ (by omega), if_pos rfl]
    rw [show lfU 0 m = 0 by unfold lfU; (repeat' split) <;> omega]
    rfl
  · rw [e]
    simp only [List.map_cons, List.map_nil]
    rw [runU_num _ _ _ _ (by omega) (by omega), okU_0 _ (by omega), if_pos rfl]
    rw [show lfU 0 (192 + m / 64) = 1 by unfold lfU; (repeat' split) <;> omega, show sgU 0 0 (192 + m / 64) = m / 64 by unfold sgU; (repeat' split) <;> omega]
    rw [runU_num _ _ _ _ (by omega) (by omega), okU_n (by omega) (by unfold lowU highU; (repeat' split) <;> omega), if_pos rfl]
    rfl
  · rw [e]
    simp only [List.map_cons, List.map_nil]
    rw [runU_num _ _ _ _ (by omega) (by omega), okU_0 _ (by omega), if_pos rfl]
    rw [show lfU 0 (224 + m / 4096) = 2 by unfold lfU; (repeat' split) <;> omega, show sgU 0 0 (224 + m / 4096) = m / 4096 by unfold sgU; (repeat' split) <;> omega]
    rw [runU_num _ _ _ _ (by omega) (by omega), okU_n (by omega) (by unfold lowU highU; (repeat' split) <;> omega), if_pos rfl]
    rw [show lfU 2 (128 + m / 64 % 64) = 1 from rfl, show sgU (m / 4096) 2 (128 + m / 64 % 64) = m / 64 by unfold sgU; (repeat' split) <;> omega]
    rw [runU_num _ _ _ _ (by omega) (by omega), okU_n (by omega) (by unfold lowU highU; (repeat' split) <;> omega), if_pos rfl]
    rfl
  · rw [e]
    simp only [List.map_cons, List.map_nil]
    rw [runU_num _ _ _ _ (by omega) (by omega), okU_0 _ (by omega), if_pos rfl]
    rw [show lfU 0 (240 + m / 262144) = 3 by unfold lfU; (repeat' split) <;> omega, show sgU 0 0 (240 + m / 262144) = m / 262144 by unfold sgU; (repeat' split) <;> omega]
    rw [runU_num _ _ _ _ (by omega) (by omega), okU_n (by omega) (by unfold lowU highU; (repeat' split) <;> omega), if_pos rfl]
    rw [show lfU 3 (128 + m / 4096 % 64) = 2 from rfl, show sgU (m / 262144) 3 (128 + m / 4096 % 64) = m / 4096 by unfold sgU; (repeat' split) <;> omega]
    rw [runU_num _ _ _ _ (by omega) (by omega), okU_n (by omega) (by unfold lowU highU; (repeat' split) <;> omega), if_pos rfl]
    rw [show lfU 2 (128 + m / 64 % 64) = 1 from rfl, show sgU (m / 4096) 2 (128 + m / 64 % 64) = m / 64 by unfold sgU; (repeat' split) <;> omega]
    rw [runU_num _ _ _ _ (by omega) (by omega), okU_n (by omega) (by unfold lowU highU; (repeat' split) <;> omega), if_pos rfl]
    rfl

end Go.Proofs.Ytaklbbkjhbkieaa

namespace Go.Proofs.Ytaklbbkjhbkieaa
open Go.RowKit

/-- The slice's n elements are these values; its cells lie in a block below B. -/
def Rd (w : World) (B : Nat) (A : Option Addr) (n : Nat) (xs : List Value) : Prop :=
  xs.length = n ∧ (0 < n → ∃ ad : Addr, A = some ad ∧ ad.block < B ∧ ∀ j u, xs[j]? = some u → w.cell? (ad.add j) = some u)

/-- A slice of numbers that came in. -/
def IsRow (k : IntKind) (w : World) (A : Option Addr) (len cap : Nat) (zs : List Int) : Prop :=
  (A = none ∧ len = 0 ∧ cap = 0 ∧ zs = []) ∨
  ∃ ad : Addr, A = some ad ∧ len ≤ cap ∧ cap ≤ maxLen ∧ zs.length = cap ∧ (∀ i, i < zs.length → w.cell? (ad.add i) = some (.int k (zs.getD i 0))) ∧ ∀ n ∈ zs, (Lit.int k n).wf = true

section
variable {w w' : World} {B : Nat} {A : Option Addr} {n : Nat} {xs : List Value}

theorem add_none (b o j : Nat) : (⟨b, o, none⟩ : Addr).add j = ⟨b, o + j, none⟩ := by
  unfold Addr.add
  split
  · subst_vars; rfl
  · rfl
theorem add_block (a : Addr) (j : Nat) : (a.add j).block = a.block := by unfold Addr.add; split <;> rfl
theorem cell_inside {p : Addr} {v : Value} (h : w.cell? p = some v) : p.block < w.heap.size := by
  by_cases hp : p.block < w.heap.size
  · exact hp
  · unfold World.cell? at h
    rw [Array.getElem?_eq_none (by omega)] at h
    simp at h

theorem Rd.zero (w : World) (B : Nat) (A : Option Addr) : Rd w B A 0 [] := ⟨rfl, fun h => absurd h (by omega)⟩
theorem Rd.stay (h : Rd w B A n xs) (hb : Below B w w') : Rd w' B A n xs :=
  ⟨h.1, fun hn => by
    obtain ⟨ad, e, hlt, hc⟩ := h.2 hn
    exact ⟨ad, e, hlt, fun j u hu => (hb.cell (p := ad.add j) (by rw [add_block]; exact hlt)).trans (hc j u hu)⟩⟩
theorem Rd.more {B' : Nat} (h : Rd w B A n xs) (hB : B ≤ B') : Rd w B' A n xs :=
  ⟨h.1, fun hn => by
    obtain ⟨ad, e, hlt, hc⟩ := h.2 hn
    exact ⟨ad, e, by omega, hc⟩⟩
theorem Rd.of_cells {b : Nat} {t : TypeId} {cs : Array Value} (h : Own w b t cs) (off m : Nat) (hm : off + m ≤ cs.size) : Rd w (b + 1) (some ⟨b, off, none⟩) m ((cs.toList.drop off).take m) := by
  refine ⟨by simp; omega, fun _ => ⟨_, rfl, Nat.lt_succ_self _, fun j u hu => ?_⟩⟩
  rw [add_none, h.at]
  rw [List.getElem?_take] at hu
  split at hu
  · rw [List.getElem?_drop] at hu
    simpa using hu
  · cases hu
theorem Rd.of_owned {base : Nat} {e : TypeId} {c : Nat} (h : w.ownsRow base e 1 (.slice A n c) n xs) : Rd w w.heap.size A n xs := by
  refine ⟨by simpa using h.1, fun hn => ?_⟩
  rcases h.2 with ⟨_, h0⟩ | ⟨g, cap, cur, hv, hb, hg, _⟩
  · omega
  · injection hv with hA _ _
    subst hA
    exact ⟨_, rfl, (Array.getElem?_eq_some_iff.1 hg).1, h.cells (g := g) rfl⟩
theorem Rd.of_row {k : IntKind} {len cap : Nat} {zs : List Int} (h : IsRow k w A len cap zs) : Rd w w.heap.size A len ((zs.take len).map (Value.int k)) := by
  rcases h with ⟨rfl, rfl, rfl, rfl⟩ | ⟨ad, rfl, hl, hm, hz, hc, _⟩
  · exact Rd.zero _ _ _
  · refine ⟨by simp; omega, fun hn => ⟨ad, rfl, ?_, fun j u hu => ?_⟩⟩
    · have := cell_inside (hc 0 (by omega))
      rwa [add_block] at this
    · rw [List.getElem?_map, List.getElem?_take] at hu
      split at hu
      · rename_i hj
        have hj' : j < zs.length := by omega
        rw [hc j hj']
        rw [List.getElem?_eq_getElem hj'] at hu
        simpa [hj'] using hu
      · cases hu
theorem IsRow.len_le {k : IntKind} {len cap : Nat} {zs : List Int} (h : IsRow k w A len cap zs) : len ≤ zs.length := by
  rcases h with ⟨_, rfl, _, _⟩ | ⟨_, _, hl, _, hz, _⟩ <;> omega
theorem IsRow.wf {k : IntKind} {len cap : Nat} {zs : List Int} (h : IsRow k w A len cap zs) : ∀ n ∈ zs, (Lit.int k n).wf = true := by
  rcases h with ⟨_, _, _, rfl⟩ | ⟨_, _, _, _, _, _, h⟩
  · intro n hn; cases hn
  · exact h
end

section
variable {P : Program}

theorem run_append_rd (w : World) (base : Nat) (t ty e : TypeId) (i : TypeInfo) (z : Value) (bytes : Nat) (ht : P.underlying t = some (.slice e)) (hi : P.info? e = some i) (hz : i.zero = some z)
    (hsize : i.size = 1) (hby : i.bytes = bytes) (hzs : z.cells.size = 1)
    (v : Value) (n : Nat) (xs : List Value) (hown : w.ownsRow base e 1 v n xs)
    (B : Nat) (A : Option Addr) (m c : Nat) (news : List Value) (hr : Rd w B A m news) (h1 : ∀ u ∈ news, u.oneCell' = true)
    (h63 : n + m ≤ maxLen) (hbytes : (n + m) * bytes ≤ 140737488355328) (hbase : base ≤ w.heap.size) :
    ∃ v' w', (Builtin.append_ #[t, t] ty #[v, .slice A m c]).run P w = .ok v' w' ∧ w'.ownsRow base e 1 v' (n + m) (xs ++ news) ∧ w.grownBy w' v.ownBlock ∧
      (v' = .slice none 0 0 ↔ v = .slice none 0 0 ∧ m = 0) ∧ (v'.ownBlock = v.ownBlock ∨ v'.ownBlock = some w.heap.size) := by
  cases A with
  | none =>
    have hm : m = 0 := by
      by_cases h : 0 < m
      · obtain ⟨ad, e, _⟩ := hr.2 h
        cases e
      · omega
    subst hm
    obtain rfl : news = [] := List.eq_nil_of_length_eq_zero hr.1
    refine ⟨v, w, ?_, by simpa using hown, ⟨rfl, rfl, rfl, Nat.le_refl _, fun _ _ _ => rfl⟩, by simp, .inl rfl⟩
    rcases hown.2 with ⟨rfl, rfl⟩ | ⟨g, cap, cur, rfl, _, _, hnc, _⟩
    · simp [Builtin.append_, run_underlying ht, sizeOf, typeInfo, hi, Builtin.lenOf, Builtin.firstCells]
    · simp [Builtin.append_, run_underlying ht, sizeOf, typeInfo, hi, Builtin.lenOf, Builtin.firstCells, hnc, storeCells]
  | some ad =>
    have hc : ∀ j u, news[j]? = some u → w.cell? (ad.add j) = some u := by
      intro j u hu
      have hm : 0 < m := by
        have := hr.1
        have := (List.getElem?_eq_some_iff.1 hu).1
        omega
      obtain ⟨ad', e, _, h⟩ := hr.2 hm
      injection e with e
      subst e
      exact h j u hu
    exact run_append_own_at (P := P) w base t ty e i z 1 bytes ht hi hz hsize hby hzs (by omega) v n xs hown ad m c news (by simpa using hr.1) hc h1 h63 hbytes hbase

theorem wp_append_rd (w : World) {o : Oper} {a : Act} {K : Act → World → Prop} {Q : Exit → Act → World → Prop} (s x : Operand) (t : TypeId)
    (ho : o.op = .call { callee := .builtin .append, args := #[s, x], argTypes := #[t, t] })
    (base : Nat) (e : TypeId) (i : TypeInfo) (z : Value) (bytes : Nat) (ht : P.underlying t = some (.slice e)) (hi : P.info? e = some i) (hz : i.zero = some z)
    (hsize : i.size = 1) (hby : i.bytes = bytes) (hzs : z.cells.size = 1)
    (v : Value) (n : Nat) (xs : List Value) (hs : a.eval s = v) (hown : w.ownsRow base e 1 v n xs)
    (B : Nat) (A : Option Addr) (m c : Nat) (news : List Value) (hx : a.eval x = .slice A m c) (hr : Rd w B A m news) (h1 : ∀ u ∈ news, u.oneCell' = true)
    (h63 : n + m ≤ maxLen) (hbytes : (n + m) * bytes ≤ 140737488355328) (hbase : base ≤ w.heap.size)
    (h : ∀ v' w', w'.ownsRow base e 1 v' (n + m) (xs ++ news) → w.grownBy w' v.ownBlock → (v' = .slice none 0 0 ↔ v = .slice none 0 0 ∧ m = 0) → (v'.ownBlock = v.ownBlock ∨ v'.ownBlock = some w.heap.size) → K (a.put o.dst v') w') : o.wp P a w K Q := by
  obtain ⟨v', w', hrun, h2, h3, h4, h5⟩ := run_append_rd (P := P) w base t o.type e i z bytes ht hi hz hsize hby hzs v n xs hown B A m c news hr h1 h63 hbytes hbase
  unfold Oper.wp execOp
  simp only [ho, resolve, invoke, builtin, Sem.run_bind, Sem.run_pure, Result.andThen_ok, List.map_toArray, List.map_cons, List.map_nil, hs, hx, hrun]
  exact h v' w' h2 h3 h4 h5

theorem wpList_append_rd (w : World) {ops : Array Oper} {rest : List Oper} {o : Oper} {a : Act} {Q : Exit → Act → World → Prop} (hgd : o.guard = none) (s x : Operand) (t : TypeId)
    (ho : o.op = .call { callee := .builtin .append, args := #[s, x], argTypes := #[t, t] })
    (base : Nat) (e : TypeId) (i : TypeInfo) (z : Value) (bytes : Nat) (ht : P.underlying t = some (.slice e)) (hi : P.info? e = some i) (hz : i.zero = some z)
    (hsize : i.size = 1) (hby : i.bytes = bytes) (hzs : z.cells.size = 1)
    (v : Value) (n : Nat) (xs : List Value) (hs : a.eval s = v) (hown : w.ownsRow base e 1 v n xs)
    (B : Nat) (A : Option Addr) (m c : Nat) (news : List Value) (hx : a.eval x = .slice A m c) (hr : Rd w B A m news) (h1 : ∀ u ∈ news, u.oneCell' = true)
    (h63 : n + m ≤ maxLen) (hbytes : (n + m) * bytes ≤ 140737488355328) (hbase : base ≤ w.heap.size)
    (h : ∀ v' w', w'.ownsRow base e 1 v' (n + m) (xs ++ news) → w.grownBy w' v.ownBlock → (v' = .slice none 0 0 ↔ v = .slice none 0 0 ∧ m = 0) → (v'.ownBlock = v.ownBlock ∨ v'.ownBlock = some w.heap.size) → wpList P ops Q rest (a.put o.dst v') w') : wpList P ops Q (o :: rest) a w :=
  wpList_plain hgd fun _ hK => wp_append_rd w s x t ho base e i z bytes ht hi hz hsize hby hzs v n xs hs hown B A m c news hx hr h1 h63 hbytes hbase fun v' w' h2 h3 h4 h5 => hK _ _ (h v' w' h2 h3 h4 h5)
end

theorem ints_one (k : IntKind) (l : List Int) : ∀ u ∈ l.map (Value.int k), u.oneCell' = true := by
  intro u hu
  obtain ⟨n, _, rfl⟩ := List.mem_map.1 hu
  rfl

theorem byte_info : (Try.prog.info? 5).map (fun i => (i.zero, i.size, i.bytes)) = some (some (.int .u8 0), 1, 1) := by kernel_rfl

/-- Bytes that a slice holds, as a string. -/
theorem conv_rd {w : World} {B b off n c : Nat} {xs : List Int} (h : Rd w B (some ⟨b, off, none⟩) n (xs.map (Value.int .u8))) :
    (convert 22 9 (.slice (some ⟨b, off, none⟩) n c)).run Try.prog w = .ok (.string (strOfNums xs)) w := by
  have hl : xs.length = n := by simpa using h.1
  refine run_convert_bytes_arg _ _ _ Try.underlying22 Try.underlying5 b off n c xs hl (fun i hi => ?_) _ Try.underlying9
  obtain ⟨ad, e, _, hc⟩ := h.2 (by omega)
  injection e with e
  subst e
  have := hc i (.int .u8 (xs.getD i 0)) (by simp [hl, hi])
  rwa [add_none] at this

theorem ownBlock_is {g o n c g' : Nat} (h : (Value.slice (some ⟨g, o, none⟩) n c).ownBlock = some g') : g' = g := by
  simp [Value.ownBlock] at h
  exact h.symm

theorem own_form {w : World} {base : Nat} {e : TypeId} {v : Value} {n : Nat} {xs : List Value} (h : w.ownsRow base e 1 v n xs) (hne : v ≠ .slice none 0 0) :
    ∃ g c : Nat, v = .slice (some ⟨g, 0, none⟩) n c ∧ base ≤ g ∧ g < w.heap.size ∧ n ≤ c ∧ c ≤ maxLen := by
  rcases h.2 with ⟨hv, _⟩ | ⟨g, c, cur, hv, hb, hg, hn, hm, _⟩
  · exact absurd hv hne
  · exact ⟨g, c, hv, hb, (Array.getElem?_eq_some_iff.1 hg).1, hn, hm⟩

theorem own_stay {w w' : World} {base B : Nat} {e : TypeId} {v : Value} {n : Nat} {xs : List Value} (h : w.ownsRow base e 1 v n xs) (hb : Below B w w') (hB : ∀ g, v.ownBlock = some g → g < B) : w'.ownsRow base e 1 v n xs := by
  refine ⟨h.1, ?_⟩
  rcases h.2 with hn | ⟨g, c, cur, rfl, hbg, hg, rest⟩
  · exact .inl hn
  · exact .inr ⟨g, c, cur, rfl, hbg, (hb.block g (hB g rfl)).trans hg, rest⟩

theorem Rd.of_list {w : World} {b : Nat} {t : TypeId} {l : List Value} {k : Nat} (h : Own w b t l.toArray) (hk : l.length = k) : Rd w (b + 1) (some ⟨b, 0, none⟩) k l := by
  have := Rd.of_cells h 0 k (by simp [hk])
  simpa [List.take_of_length_le (Nat.le_of_eq hk)] using this

theorem Rd.of_tail {w : World} {b : Nat} {t : TypeId} {l m : List Value} {j k : Nat} (h : Own w b t (l ++ m).toArray) (hj : l.length = j) (hk : m.length = k) : Rd w (b + 1) (some ⟨b, j, none⟩) k m := by
  subst hj
  have := Rd.of_cells h l.length k (by simp [hk])
  simpa [List.take_of_length_le (Nat.le_of_eq hk)] using this

theorem below_grown {B : Nat} {a w w' : World} {v : Value} (h : Below B a w) (hg : w.grownBy w' v.ownBlock) (hB : B ≤ w.heap.size) (hv : ∀ g, v.ownBlock = some g → B ≤ g) : Below B a w' := h.grown hg hB hv

theorem made_one (v : Value) (n : Nat) : madeCells #[v] n = (List.replicate n v).toArray := by
  apply Array.ext
  · simp [madeCells]
  · intro i h1 h2
    simp [madeCells, Nat.mod_one]

theorem set_tail (xs ys : List Value) (i j : Nat) (v : Value) (h : i = xs.length + j) : ((xs ++ ys).toArray).setIfInBounds i v = (xs ++ ys.set j v).toArray := by
  subst h
  rw [List.setIfInBounds_toArray, List.set_append_right _ _ (by omega)]
  simp

theorem run_copy_rd {P : Program} {w : World} {g o : Nat} {t elem dT ty : TypeId} {cur : List Value} (hown : Own w g t cur.toArray) (dLen dCap sLen sCap B : Nat) (A : Option Addr) (xs : List Value)
    (hu : P.underlying dT = some (.slice elem)) (hs : (P.info? elem).map (·.size) = some 1)
    (hr : Rd w B A sLen xs) (h1 : ∀ u ∈ xs, u.oneCell' = true) (hn : sLen ≤ dLen) (hfit : o + sLen ≤ cur.length) :
    ∃ w', (Builtin.copy_ #[dT, dT] ty #[.slice (some ⟨g, o, none⟩) dLen dCap, .slice A sLen sCap]).run P w = .ok (.int .i64 sLen) w' ∧
      Own w' g t (cur.take o ++ xs ++ cur.drop (o + sLen)).toArray ∧ Turned g w w' := by
  by_cases h0 : 0 < sLen
  · obtain ⟨ad, rfl, _, hc⟩ := hr.2 h0
    have hl : xs.length = sLen := hr.1
    have := run_copy_row (P := P) w dT dT ty elem g o dLen dCap ad sLen sCap cur.toArray t xs hu hs hown (by rw [hl]; exact (Nat.min_eq_left hn).symm) hc (by simpa [hl] using hfit) h1
    rw [hl] at this
    exact ⟨_, this, setRow_heap w g _ _ t _ hown, rfl, rfl, rfl, by simp [World.setRow], fun k _ hk => setRow_other w g k _ hk⟩
  · obtain rfl : sLen = 0 := by omega
    obtain rfl : xs = [] := List.eq_nil_of_length_eq_zero hr.1
    exact ⟨w, run_copy_none (P := P) w dT dT ty elem _ _ dLen dCap 0 sCap hu hs (Nat.min_eq_left hn), by simpa using hown, Turned.refl _ _⟩

end Go.Proofs.Ytaklbbkjhbkieaa

namespace Go.Proofs.Ytaklbbkjhbkieaa
open Go.RowKit

theorem conv_one (W : World) (x : Int) :
    (convert 22 9 (.slice (some ⟨W.heap.size, 0, none⟩) 1 1)).run Try.prog (W.alloc (.cells #[.int .u8 x] 5)) = .ok (.string (strOfNums [x])) (W.alloc (.cells #[.int .u8 x] 5)) := by
  exact run_convert_bytes_arg _ _ _ Try.underlying22 Try.underlying5 W.heap.size 0 1 1 [x] rfl (fun i hi => by
    obtain rfl : i = 0 := by omega
    simp) _ Try.underlying9
theorem conv_one' (W : World) (o : Obj) (x : Int) :
    (convert 22 9 (.slice (some ⟨W.heap.size + 1, 0, none⟩) 1 1)).run Try.prog ((W.alloc o).alloc (.cells #[.int .u8 x] 5)) = .ok (.string (strOfNums [x])) ((W.alloc o).alloc (.cells #[.int .u8 x] 5)) := by
  have := conv_one (W.alloc o) x
  simpa using this

def sizeOfV : Value → Nat | .string b => b.size | _ => 0
def RelPad (s : ByteArray) (n : Nat) (W wr : World) (lo tp : Value) : Prop :=
  ∃ (k : Nat) (x y : ByteArray), lo = .string x ∧ tp = .string y ∧ x.size = s.size + k ∧ y.size = s.size + k ∧ s.size + k ≤ n ∧
    x.data.toList = s.data.toList ++ List.replicate k 128 ∧ y.data.toList = s.data.toList ++ List.replicate k 191 ∧ Below W.heap.size W wr

theorem least_cell (w : World) (n : Nat) (hn : n = 1 ∨ n = 2 ∨ n = 3 ∨ n = 4) :
    (w.alloc (.cells #[.int .i64 0, .int .i64 0, .int .i64 128, .int .i64 2048, .int .i64 65536] 3)).cell? ⟨w.heap.size, n, none⟩ = some (.int .i64 (leastR n)) := by
  rw [(Own.fresh w 3 _).at n]
  rcases hn with rfl | rfl | rfl | rfl <;> rfl

theorem ret_three {k : IntKind} {x y : Bool} {z : Int} {t : Bool × Bool × Int} (h : (x, y, z) = t) :
    Ending.returned (.tuple #[.bool x, .bool y, .int k z]) = .returned (.tuple #[.bool t.1, .bool t.2.1, .int k t.2.2]) := by subst h; rfl

theorem cons_of (s : ByteArray) (h : 0 < s.size) : ∃ t, s.data.toList = s[0] :: t := by
  have hl : 0 < s.data.toList.length := h
  cases hc : s.data.toList with
  | nil => rw [hc] at hl; simp at hl
  | cons a t =>
    refine ⟨t, ?_⟩
    have : s.data.toList[0] = a := by simp [hc]
    have e : s[0] = a := this
    rw [e]

theorem padR_of (s : ByteArray) (n : Nat) (c : UInt8) : s.data.toList ++ List.replicate (n - s.size) c = padR s.data.toList n c := rfl

theorem begR_cons (c : UInt8) (t : List UInt8) : begR (c :: t) =
    if sizeR c.toNat = 0 ∨ sizeR c.toNat < (c :: t).length then (false, false, 0) else
    if contR t then endR (c :: t).length (sizeR c.toNat).toNat (numR (padR (c :: t) (sizeR c.toNat).toNat 128)) (numR (padR (c :: t) (sizeR c.toNat).toNat 191)) else (false, false, 0) := rfl

theorem begR_end (s : ByteArray) (n : Nat) (h1 : 0 < s.size) (h4 : s.size ≤ n) (hr : sizeR s[0].toNat = n) (hc : ContTo s s.size) :
    begR s.data.toList = endR s.size n (numR (padR s.data.toList n 128)) (numR (padR s.data.toList n 191)) := by
  obtain ⟨t, ht⟩ := cons_of s h1
  have hs : s.size = s.data.toList.length := rfl
  unfold ContTo at hc
  rw [List.take_of_length_le (by rw [hs]; omega)] at hc
  rw [hs] at h4 h1 ⊢
  rw [ht] at hc h4 h1 ⊢
  simp only [List.drop_one, List.tail_cons] at hc
  rw [begR_cons]
  rw [if_neg (by rw [hr]; omega), if_pos hc, hr]
  rfl

theorem begR_not (s : ByteArray) (n k : Nat) (h1 : 0 < s.size) (h4 : s.size ≤ n) (hr : sizeR s[0].toNat = n) (hc : contR ((s.data.toList.take (k + 1)).drop 1) = false) :
    begR s.data.toList = (false, false, 0) := by
  obtain ⟨t, ht⟩ := cons_of s h1
  have hs : s.size = s.data.toList.length := rfl
  have hc' := cont_no _ _ hc
  rw [hs] at h4 h1
  rw [ht] at hc' h4 h1 ⊢
  simp only [List.drop_one, List.tail_cons] at hc'
  rw [begR_cons]
  rw [if_neg (by rw [hr]; omega), if_neg (by rw [hc']; simp)]

set_option maxRecDepth 100000 in
set_option maxHeartbeats 2000000 in
theorem rbegins_core (s : ByteArray) (W : World) (n : Nat) (hn : n = 1 ∨ n = 2 ∨ n = 3 ∨ n = 4) (h1 : 0 < s.size) (h4 : s.size ≤ n) (hr : sizeR s[0].toNat = n) :
    Calls Try.prog 21 #[.string s] W fun e w' => e = .returned (.tuple #[.bool (begR s.data.toList).1, .bool (begR s.data.toList).2.1, .int .i64 (begR s.data.toList).2.2]) ∧ Below W.heap.size W w' := by
  have hcv1 := conv_one
  have hcv2 := conv_one'
  have hlc := fun w => least_cell w n hn
  have z1 : (strOfNums [128]).size = 1 := rfl
  have z2 : (strOfNums [191]).size = 1 := rfl
  have n1 : 1 ≤ n := by omega
  have n4 : n ≤ 4 := by omega
  have n0 : ((n : Int) == 0) = false := beq_eq_false_iff_ne.2 (by omega)
  have hs1 := fun w => rsize_any s[0].toNat w
  rw [hr] at hs1
  have HS := Lib.hid hs1
  have HR := Lib.hid hr
  clear hs1 hr hn
  go_enter Try.func21, Try.ntmps21
  go_wp2_with (first | (go_at_call 37; refine (HS.out _).mono ?_; rintro e w' ⟨rfl, rfl⟩))
  go_loop [6] (fun i => RelCont s i) (fun i => s.size - (intOf i).toNat)
  case atStart => exact ⟨1, Nat.le_refl _, h1, rfl, contTo_one s⟩
  case round =>
    obtain ⟨k, hk1, hk, rfl, hcont⟩ := hrel
    by_cases hlt : k < s.size
    · obtain ⟨c0, c9⟩ := byte_le s k hlt
      have HS := Lib.hid (cont_snoc s k hk1 hlt)
      have HK := Lib.hid hcont
      by_cases hlo : (s[k].toNat : Int) < 128
      · have HB := Lib.hid (begR_not s n k h1 h4 HR.out (by rw [HS.out]; simp; omega))
        clear hcont
        go_wp2
        go_ret3
        exact ⟨ret_three HB.out.symm, Below.refl _ _⟩
      · by_cases hhi : 191 < (s[k].toNat : Int)
        · have HB := Lib.hid (begR_not s n k h1 h4 HR.out (by rw [HS.out]; simp; omega))
          clear hcont
          go_wp2
          go_ret3
          exact ⟨ret_three HB.out.symm, Below.refl _ _⟩
        · clear hcont
          have hlo' : 128 ≤ (s[k].toNat : Int) := by omega
          have hhi' : (s[k].toNat : Int) ≤ 191 := by omega
          go_wp2
          go_round
          case rel => exact ⟨k + 1, by omega, hlt, by go_num, by unfold ContTo; rw [HS.out, show contR ((s.data.toList.take k).drop 1) = true from HK.out]; simp; omega⟩
          case measure => simp [intOf]; omega
    · obtain rfl : k = s.size := by omega
      have HC := Lib.hid hcont
      clear hcont
      go_wp2
      go_loopw [7, 8] (fun lo tp wr => RelPad s n W wr lo tp) (fun lo _ _ => n - sizeOfV lo)
      case atStart => exact ⟨0, s, s, rfl, rfl, rfl, rfl, h4, by simp, by simp, Below.refl _ _⟩
      case round =>
        obtain ⟨j, x, y, rfl, rfl, hx, hy, hj, hxl, hyl, hbel⟩ := hrel
        by_cases hlt : x.size < n
        · have hx1 : x.size ≤ 4 := by omega
          have hy1 : y.size ≤ 4 := by omega
          have hyn : y.size < n := by omega
          have hj' : s.size + (j + 1) ≤ n := by omega
          have HX := Lib.hid hx
          have HY := Lib.hid hy
          have HXL := Lib.hid hxl
          have HYL := Lib.hid hyl
          clear hx hy hxl hyl
          go_wp2
          case roundEnd =>
            refine ⟨⟨j + 1, _, _, rfl, rfl, ?_, ?_, hj', ?_, ?_, (hbel.alloc hbel.size _).alloc (by have := hbel.size; simp; omega) _⟩, ?_⟩
            · rw [ByteArray.size_append, HX.out]; rfl
            · rw [ByteArray.size_append, HY.out]; rfl
            · rw [ByteArray.data_append]; simp [HXL.out, List.replicate_succ']; rfl
            · rw [ByteArray.data_append]; simp [HYL.out, List.replicate_succ']; rfl
            · simp only [sizeOfV, ByteArray.size_append]; rw [z1]; omega
        · have HX := Lib.hid hx
          have HY := Lib.hid hy
          have HXL := Lib.hid hxl
          have HYL := Lib.hid hyl
          have hx1 : x.size ≤ 4 := by omega
          have hy1 : y.size ≤ 4 := by omega
          have hx0 : 0 < x.size := by omega
          have hy0 : 0 < y.size := by omega
          have ha := fun w => rnumber_any x w hx0 hx1
          have hb := fun w => rnumber_any y w hy0 hy1
          have HA := Lib.hid ha
          have HB := Lib.hid hb
          have hjn : j = n - s.size := by omega
          have HE := Lib.hid (begR_end s n h1 h4 HR.out HC.out)
          rw [← padR_of s n, ← padR_of s n, ← hjn, ← hxl, ← hyl] at HE
          clear hx hy hxl hyl ha hb hjn
          generalize numR x.data.toList = a at *
          generalize numR y.data.toList = b at *
          go_wp2_with (first
            | (go_at_call 38; (with_reducible refine (HA.out _).mono ?_); rintro e w' ⟨rfl, rfl⟩)
            | (go_at_call 38; (with_reducible refine (HB.out _).mono ?_); rintro e w' ⟨rfl, rfl⟩))
          all_goals
            go_ret3
            refine ⟨ret_three (Eq.trans ?_ HE.out.symm), hbel.alloc hbel.size _⟩
            unfold endR
            simp only [beq_iff_eq, beq_eq_false_iff_ne] at *
            split <;> (try split) <;> first | rfl | omega
end Go.Proofs.Ytaklbbkjhbkieaa

namespace Go.Proofs.Ytaklbbkjhbkieaa
open Go.RowKit

set_option maxRecDepth 100000 in
set_option maxHeartbeats 400000 in
theorem rbegins_zero (s : ByteArray) (W : World) (h1 : 0 < s.size) (hr : sizeR s[0].toNat = 0) :
    Calls Try.prog 21 #[.string s] W fun e w' => e = .returned (.tuple #[.bool false, .bool false, .int .i64 0]) ∧ W = w' := by
  have hs1 := fun w => rsize_any s[0].toNat w
  rw [hr] at hs1
  have HS := Lib.hid hs1
  clear hs1 hr
  go_enter Try.func21, Try.ntmps21
  go_wp2_with (first | (go_at_call 37; refine (HS.out _).mono ?_; rintro e w' ⟨rfl, rfl⟩))
  go_ret3
  exact ⟨rfl, rfl⟩

theorem rbegins_step (t : ByteArray) (l : List UInt8) (c : UInt8) (sg lf : Int) (ht : t.data.toList = l ++ [c]) (h : InvL l sg lf) (W : World) {x y : Bool} {z : Int} (hv : ansU sg lf c.toNat = (x, y, z)) :
    Calls Try.prog 21 #[.string t] W fun e w' => e = .returned (.tuple #[.bool x, .bool y, .int .i64 z]) ∧ Below W.heap.size W w' := by
  have hs : t.size = (l ++ [c]).length := by rw [← ht]; rfl
  have h1 : 0 < t.size := by rw [hs]; simp
  obtain ⟨r, hr⟩ := cons_of t h1
  have hb := beg_any l c sg lf h
  rw [← ht, hv] at hb
  rcases invL_size h t[0] r (by rw [← ht, hr]) with ⟨n, hn, hl, hz⟩ | hz
  · have := rbegins_core t W n hn h1 (by rw [hs]; exact hl) hz
    rw [hb] at this
    exact this
  · have e := begR_zero t[0] r hz
    rw [← hr, hb] at e
    simp only [Prod.mk.injEq] at e
    obtain ⟨rfl, rfl, rfl⟩ := e
    exact (rbegins_zero t W h1 hz).mono fun e w' ⟨he, hw⟩ => ⟨he, hw ▸ Below.refl _ _⟩

theorem part_snoc (s : ByteArray) (j k : Nat) (hjk : j ≤ k) (hk : k < s.size) : (s.extract j (k + 1)).data.toList = (s.data.toList.take k).drop j ++ [s[k]] := by
  have hl : k < s.data.toList.length := hk
  rw [ByteArray.data_extract, Array.toList_extract, List.extract_eq_take_drop]
  rw [show s[k] = s.data.toList[k] from rfl, ← List.drop_append_of_le_length (by simp; omega), ← List.take_succ_eq_append_getElem hl, List.drop_take]

/-- Where Bad's loop is: the last sign's end, and the state. -/
def RelRBad (s : ByteArray) (W wr : World) (fr i : Value) : Prop :=
  ∃ (j k : Nat) (sg lf : Int), j ≤ k ∧ k ≤ s.size ∧ (j = k ↔ lf = 0) ∧ fr = .int .i64 j ∧ i = .int .i64 k ∧ StU sg lf ∧ InvL ((s.data.toList.take k).drop j) sg lf ∧ Below W.heap.size W wr ∧ badU s.data.toList = runU sg lf (s.data.toList.drop k) k

end Go.Proofs.Ytaklbbkjhbkieaa

namespace Go.Proofs.Ytaklbbkjhbkieaa
open Go.RowKit

theorem below1 (w : World) (a : Obj) : Below w.heap.size w (w.alloc a) := (Below.refl w.heap.size w).alloc (Nat.le_refl _) a
theorem below2 (w : World) (a b : Obj) : Below w.heap.size w ((w.alloc a).alloc b) :=
  have h := (Below.refl w.heap.size w).alloc (Nat.le_refl _) a
  h.alloc h.size b
theorem below_drewN {B : Nat} {a w : World} (h : Below B a w) (n : Nat) : Below B a (w.drewN n) := ⟨h.os, h.tape, h.output, h.size, h.block⟩

/-- Bytes as cells. -/
def byteCells (l : List UInt8) : List Value := l.map fun c => Value.int .u8 c.toNat

theorem byteCells_nums (l : List UInt8) : byteCells l = (nums l).map (Value.int .u8) := by simp [byteCells, nums]
theorem byteCells_length (l : List UInt8) : (byteCells l).length = l.length := by simp [byteCells]
theorem byteCells_append (l m : List UInt8) : byteCells (l ++ m) = byteCells l ++ byteCells m := by simp [byteCells]
theorem byteCells_one (l : List UInt8) : ∀ u ∈ byteCells l, u.oneCell' = true := by rw [byteCells_nums]; exact ints_one _ _
theorem strOf_nums (l : List UInt8) : strOfNums (nums l) = ⟨l.toArray⟩ := by
  have e : (strOfNums (nums l)).data.toList = l := by
    rw [strOfNums_data]
    unfold nums
    rw [List.map_map]
    conv => rhs; rw [← List.map_id l]
    exact List.map_congr_left fun c _ => by simp
  generalize strOfNums (nums l) = s at *
  cases s with | mk x =>
  have e : x.toList = l := e
  rw [← e]

/-- Bytes that came in. -/
theorem IsRow.bytes {w : World} {A : Option Addr} {len cap : Nat} {zs : List Int} (h : IsRow .u8 w A len cap zs) : ∃ l : List UInt8, Rd w w.heap.size A len (byteCells l) := by
  refine ⟨(zs.take len).map fun z => UInt8.ofNat z.toNat, ?_⟩
  have e : byteCells ((zs.take len).map fun z => UInt8.ofNat z.toNat) = (zs.take len).map (Value.int .u8) := by
    unfold byteCells
    rw [List.map_map]
    refine List.map_congr_left fun z hz => ?_
    have hw := h.wf z (List.mem_of_mem_take hz)
    simp [Lit.wf, IntKind.min, IntKind.max, IntKind.signed, IntKind.bits] at hw
    simp
    omega
  rw [e]
  exact Rd.of_row h

/-- v is a slice of the call's own (its block is none below base) that holds l. -/
def Buf (w : World) (base : Nat) (v : Value) (l : List UInt8) : Prop :=
  ∃ g c : Nat, v = .slice (some ⟨g, 0, none⟩) l.length c ∧ w.ownsRow base 5 1 v l.length (byteCells l)

section
variable {w w' : World} {base : Nat} {v : Value} {l : List UInt8}
theorem Buf.form (h : Buf w base v l) : ∃ g c : Nat, v = .slice (some ⟨g, 0, none⟩) l.length c ∧ base ≤ g ∧ g < w.heap.size := by
  obtain ⟨g, c, rfl, ho⟩ := h
  obtain ⟨g', c', e, h1, h2, _⟩ := own_form ho (by intro e; cases e)
  injection e with e1 _ _
  injection e1 with e1
  injection e1 with e1
  exact ⟨g, c, rfl, by omega, by omega⟩
theorem Buf.stay (h : Buf w base v l) {B : Nat} (hb : Below B w w') (hB : w.heap.size ≤ B) : Buf w' base v l := by
  obtain ⟨g0, c0, e, _, hlt⟩ := h.form
  obtain ⟨g, c, rfl, ho⟩ := h
  refine ⟨g, c, rfl, own_stay ho hb fun k hk => ?_⟩
  injection e with e1 _ _
  injection e1 with e1
  injection e1 with e1
  rw [ownBlock_is hk]
  omega
theorem Buf.rd (h : Buf w base v l) {g c n : Nat} (hv : v = .slice (some ⟨g, 0, none⟩) n c) : Rd w w.heap.size (some ⟨g, 0, none⟩) l.length (byteCells l) := by
  obtain ⟨g', c', rfl, ho⟩ := h
  injection hv with e1 e2 e3
  injection e1 with e1
  injection e1 with e1
  subst e1
  exact Rd.of_owned ho
/-- The buffer as a string. -/
theorem Buf.conv (h : Buf w base v l) : (convert 22 9 v).run Try.prog w = .ok (.string ⟨l.toArray⟩) w := by
  obtain ⟨g, c, rfl, ho⟩ := h
  have := Rd.of_owned ho
  rw [byteCells_nums] at this
  rw [conv_rd this, strOf_nums]
/-- A slice that was just made of constants is one. -/
theorem Buf.made (w : World) (cs : Array Value) (l : List UInt8) (hc : cs = (byteCells l).toArray) (hl : l.length ≤ maxLen) (hb : base ≤ w.heap.size) : Buf (w.alloc (.cells cs 5)) base (.slice (some ⟨w.heap.size, 0, none⟩) l.length l.length) l := by
  subst hc
  refine ⟨_, _, rfl, ⟨by simp [byteCells_length], .inr ⟨w.heap.size, l.length, _, rfl, hb, heap_alloc_new w _, Nat.le_refl _, hl, by simp [byteCells_length], ?_⟩⟩⟩
  simp [List.take_of_length_le, byteCells_length]
end

section
variable {ops : Array Oper} {rest : List Oper} {o : Oper} {a : Act} {Q : Exit → Act → World → Prop}

/-- Appending bytes that lie in a slice. -/
theorem buf_append (w : World) (hgd : o.guard = none) (s x : Operand) (ho : o.op = .call { callee := .builtin .append, args := #[s, x], argTypes := #[22, 22] })
    (base : Nat) (v : Value) (l : List UInt8) (hs : a.eval s = v) (hown : Buf w base v l) (B : Nat) (A : Option Addr) (m c : Nat) (news : List UInt8) (hx : a.eval x = .slice A m c) (hr : Rd w B A m (byteCells news))
    (h63 : l.length + m ≤ 140737488355328 - 4096) (hbase : base ≤ w.heap.size)
    (h : ∀ v' w', Buf w' base v' (l ++ news) → Below base w w' → wpList Try.prog ops Q rest (a.put o.dst v') w') : wpList Try.prog ops Q (o :: rest) a w := by
  obtain ⟨i0, hi, hz0, hz1, hz2⟩ := info_parts byte_info
  have hm : news.length = m := by have := hr.1; rwa [byteCells_length] at this
  obtain ⟨g0, c0, ev, hg0, _⟩ := hown.form
  obtain ⟨g, c', rfl, hown⟩ := hown
  refine wpList_append_rd w hgd s x _ ho base 5 i0 _ 1 Try.underlying22 hi hz0 hz1 hz2 rfl _ l.length (byteCells l) hs hown B A m c (byteCells news) hx hr (byteCells_one _) (by unfold maxLen; omega) (by omega) hbase ?_
  intro v' w' h2 hg hnil hat
  have hne : v' ≠ .slice none 0 0 := fun e => by have := hnil.1 e; simp at this
  obtain ⟨g2, c2, e2, _⟩ := own_form h2 hne
  refine h v' w' ⟨g2, c2, by rw [e2, List.length_append, hm], ?_⟩ ((Below.refl base w).grown hg hbase fun k hk => ?_)
  · rw [List.length_append, hm, byteCells_append]
    exact h2
  · injection ev with e1 _ _
    injection e1 with e1
    injection e1 with e1
    rw [ownBlock_is hk]
    omega

/-- Appending a string's bytes. -/
theorem buf_append_str (w : World) (hgd : o.guard = none) (s x : Operand) (ho : o.op = .call { callee := .builtin .append, args := #[s, x], argTypes := #[22, 9] })
    (base : Nat) (v : Value) (l : List UInt8) (hs : a.eval s = v) (hown : Buf w base v l) (t : ByteArray) (hx : a.eval x = .string t)
    (h63 : l.length + t.size ≤ 140737488355328 - 4096) (hbase : base ≤ w.heap.size)
    (h : ∀ v' w', Buf w' base v' (l ++ t.data.toList) → Below base w w' → wpList Try.prog ops Q rest (a.put o.dst v') w') : wpList Try.prog ops Q (o :: rest) a w := by
  obtain ⟨i0, hi, hz0, hz1, hz2⟩ := info_parts byte_info
  obtain ⟨g0, c0, ev, hg0, _⟩ := hown.form
  obtain ⟨g, c', rfl, hown⟩ := hown
  refine Lib.wpList_append_own_string (w := w) hgd s x _ _ ho base 5 i0 Try.underlying22 Try.underlying9 hi hz0 hz1 hz2 _ l.length (byteCells l) hs hown t hx (by unfold maxLen; omega) (by omega) hbase ?_
  intro v' w' h2 hg hnil
  have hne : v' ≠ .slice none 0 0 := fun e => by have := hnil.1 e; simp at this
  obtain ⟨g2, c2, e2, _⟩ := own_form h2 hne
  have ht : t.data.toList.length = t.size := rfl
  refine h v' w' ⟨g2, c2, by rw [e2, List.length_append, ht], ?_⟩ ((Below.refl base w).grown hg hbase fun k hk => ?_)
  · rw [List.length_append, ht, byteCells_append]
    exact h2
  · injection ev with e1 _ _
    injection e1 with e1
    injection e1 with e1
    rw [ownBlock_is hk]
    omega
end

end Go.Proofs.Ytaklbbkjhbkieaa

namespace Go.Proofs.Ytaklbbkjhbkieaa

/-- Where a digit leads. -/
def dgI (a c : Int) : Int :=
  if a = 0 ∨ a = 1 then (if c = 48 then 2 else 3) else if a = 3 then 3 else if a = 4 ∨ a = 5 then 5 else if a = 6 ∨ a = 7 ∨ a = 8 then 8 else 0
/-- Where a sign leads. -/
def sgI (a c : Int) : Int := if a = 6 then 7 else if a = 0 ∧ c = 45 then 1 else 0
/-- Where a byte leads; 0: nowhere. -/
def nxI (a c : Int) : Int :=
  if c = 43 ∨ c = 45 then sgI a c else if c = 46 ∧ (a = 2 ∨ a = 3) then 4 else
  if (c = 101 ∨ c = 69) ∧ (a = 2 ∨ a = 3 ∨ a = 5) then 6 else if isDigitI c then dgI a c else 0
def whI (a : Int) : Bool := decide (a = 2 ∨ a = 3 ∨ a = 5 ∨ a = 8)
def stickI (c : Int) : Bool := isDigitI c || isAlphaI c || decide (c = 46) || decide (c = 43) || decide (c = 45)
/-- What a byte does. -/
def anI (a c : Int) : Int := if nxI a c ≠ 0 then 0 else if whI a && !stickI c then 1 else 2
def StA (a : Int) : Prop := 0 ≤ a ∧ a ≤ 8

theorem stA_cases {a : Int} (h : StA a) : a = 0 ∨ a = 1 ∨ a = 2 ∨ a = 3 ∨ a = 4 ∨ a = 5 ∨ a = 6 ∨ a = 7 ∨ a = 8 := by unfold StA at h; omega
theorem stA_next (a c : Int) : StA (nxI a c) := by
  unfold nxI sgI dgI StA
  (repeat' split) <;> omega

/-- Is a numeral whole behind these bytes, from a place on? -/
def acc (a : Int) : List UInt8 → Bool
  | [] => whI a
  | c :: t => if nxI a c.toNat = 0 then false else acc (nxI a c.toNat) t

/-- How many digits it begins with. -/
def digL : List UInt8 → Nat
  | [] => 0
  | c :: t => if isDigitI c.toNat then digL t + 1 else 0
def hdIs (l : List UInt8) (c : Int) : Bool := match l with | [] => false | x :: _ => decide ((x.toNat : Int) = c)
/-- The parts: behind e, behind a fraction, behind the whole number, behind the sign. -/
def expR (l : List UInt8) : Bool := decide (0 < l.length ∧ digL l = l.length)
def signR (l : List UInt8) : Bool := if hdIs l 43 || hdIs l 45 then expR (l.drop 1) else expR l
def tailR (l : List UInt8) : Bool := if l.length = 0 then true else if hdIs l 101 || hdIs l 69 then signR (l.drop 1) else false
def fracR (l : List UInt8) : Bool := if digL l = 0 then false else tailR (l.drop (digL l))
def pointR (l : List UInt8) : Bool := if hdIs l 46 then fracR (l.drop 1) else tailR l
def intR (l : List UInt8) : Bool := if digL l = 0 ∨ 1 < digL l ∧ hdIs l 48 = true then false else pointR (l.drop (digL l))
def isR (l : List UInt8) : Bool := if hdIs l 45 then intR (l.drop 1) else intR l

theorem acc_cons (a : Int) (c : UInt8) (t : List UInt8) : acc a (c :: t) = if nxI a c.toNat = 0 then false else acc (nxI a c.toNat) t := rfl
theorem digL_cons (c : UInt8) (t : List UInt8) : digL (c :: t) = if isDigitI c.toNat then digL t + 1 else 0 := rfl
theorem digL_le (l : List UInt8) : digL l ≤ l.length := by
  induction l with
  | nil => exact Nat.le_refl _
  | cons c t ih => rw [digL_cons]; split <;> simp <;> omega
theorem hd_cons (x : UInt8) (t : List UInt8) (c : Int) : hdIs (x :: t) c = decide ((x.toNat : Int) = c) := rfl
theorem hd_nil (c : Int) : hdIs [] c = false := rfl

theorem dig_iff (c : Int) : isDigitI c = true ↔ 48 ≤ c ∧ c ≤ 57 := by simp [isDigitI]

theorem nx_dig {a c : Int} (h : isDigitI c = true) : nxI a c = dgI a c := by
  rw [dig_iff] at h
  unfold nxI
  rw [if_neg (by omega), if_neg (by omega), if_neg (by omega), if_pos ((dig_iff c).2 h)]

theorem acc8 (l : List UInt8) : acc 8 l = decide (digL l = l.length) := by
  induction l with
  | nil => rfl
  | cons c t ih =>
    rw [acc_cons, digL_cons]
    by_cases hd : isDigitI c.toNat = true
    · rw [nx_dig hd, show dgI 8 c.toNat = 8 from rfl, if_neg (by decide), ih, if_pos hd]
      simp
    · rw [if_neg hd, show nxI 8 c.toNat = 0 by unfold nxI sgI; simp only [hd]; (repeat' split) <;> simp_all, if_pos rfl]
      simp

theorem acc7 (l : List UInt8) : acc 7 l = expR l := by
  cases l with
  | nil => rfl
  | cons c t =>
    unfold expR
    rw [acc_cons, digL_cons]
    by_cases hd : isDigitI c.toNat = true
    · rw [nx_dig hd, show dgI 7 c.toNat = 8 from rfl, if_neg (by decide), acc8, if_pos hd]
      simp
    · rw [if_neg hd, show nxI 7 c.toNat = 0 by unfold nxI sgI; simp only [hd]; (repeat' split) <;> simp_all, if_pos rfl]
      simp

theorem acc6 (l : List UInt8) : acc 6 l = signR l := by
  unfold signR
  cases l with
  | nil => rfl
  | cons c t =>
    rw [acc_cons, hd_cons, hd_cons]
    by_cases hs : (c.toNat : Int) = 43 ∨ (c.toNat : Int) = 45
    · rw [show nxI 6 c.toNat = 7 by unfold nxI; rw [if_pos hs]; rfl, if_neg (by decide), acc7, if_pos (by simpa using hs)]
      rfl
    · have hr : ¬ (decide ((c.toNat : Int) = 43) || decide ((c.toNat : Int) = 45)) = true := by simpa using hs
      by_cases hd : isDigitI c.toNat = true
      · rw [if_neg hr, nx_dig hd, show dgI 6 c.toNat = 8 from rfl, if_neg (by decide), acc8]
        unfold expR
        rw [digL_cons, if_pos hd]
        simp
      · rw [if_neg hr, show nxI 6 c.toNat = 0 by unfold nxI; simp only [hd, hs]; simp, if_pos rfl]
        unfold expR
        rw [digL_cons, if_neg hd]
        simp

theorem drop_dig (c : UInt8) (t : List UInt8) (h : isDigitI c.toNat = true) : (c :: t).drop (digL (c :: t)) = t.drop (digL t) := by
  rw [digL_cons, if_pos h]; rfl
theorem drop_nodig (c : UInt8) (t : List UInt8) (h : ¬ isDigitI c.toNat = true) : (c :: t).drop (digL (c :: t)) = c :: t := by
  rw [digL_cons, if_neg h]; rfl

/-- Behind a whole number or a fraction, where no digit follows. -/
theorem acc_e (a : Int) (ha : a = 2 ∨ a = 3 ∨ a = 5) (c : UInt8) (t : List UInt8) (h : ¬ isDigitI c.toNat = true) (hp : (c.toNat : Int) = 46 → a = 5) : acc a (c :: t) = tailR (c :: t) := by
  unfold tailR
  rw [acc_cons, hd_cons, hd_cons, if_neg (show ¬ (c :: t).length = 0 by simp)]
  by_cases he : (c.toNat : Int) = 101 ∨ (c.toNat : Int) = 69
  · rw [show nxI a c.toNat = 6 by unfold nxI; rw [if_neg (by omega), if_neg (by omega), if_pos (by omega)], if_neg (by decide), acc6, if_pos (by simpa using he)]
    rfl
  · rw [show nxI a c.toNat = 0 by unfold nxI sgI; (repeat' split) <;> first | omega | simp_all, if_pos rfl, if_neg (by simpa using he)]

theorem acc5 (l : List UInt8) : acc 5 l = tailR (l.drop (digL l)) := by
  induction l with
  | nil => rfl
  | cons c t ih =>
    by_cases hd : isDigitI c.toNat = true
    · rw [acc_cons, nx_dig hd, show dgI 5 c.toNat = 5 from rfl, if_neg (by decide), ih, drop_dig c t hd]
    · rw [drop_nodig c t hd, acc_e 5 (by omega) c t hd (fun _ => rfl)]

theorem acc4 (l : List UInt8) : acc 4 l = fracR l := by
  unfold fracR
  cases l with
  | nil => rfl
  | cons c t =>
    by_cases hd : isDigitI c.toNat = true
    · rw [acc_cons, nx_dig hd, show dgI 4 c.toNat = 5 from rfl, if_neg (by decide), acc5, drop_dig c t hd, if_neg (by rw [digL_cons, if_pos hd]; omega)]
    · rw [if_pos (by rw [digL_cons, if_neg hd]), acc_cons, show nxI 4 c.toNat = 0 by unfold nxI sgI; simp only [hd]; (repeat' split) <;> simp_all, if_pos rfl]

theorem acc_p (a : Int) (ha : a = 2 ∨ a = 3) (c : UInt8) (t : List UInt8) (h : ¬ isDigitI c.toNat = true) : acc a (c :: t) = pointR (c :: t) := by
  unfold pointR
  rw [hd_cons]
  by_cases hp : (c.toNat : Int) = 46
  · rw [acc_cons, show nxI a c.toNat = 4 by unfold nxI; rw [if_neg (by omega), if_pos ⟨hp, ha⟩], if_neg (by decide), acc4, if_pos (by simpa using hp)]
    rfl
  · rw [if_neg (by simpa using hp)]
    exact acc_e a (by omega) c t h (fun e => absurd e hp)

theorem acc3 (l : List UInt8) : acc 3 l = pointR (l.drop (digL l)) := by
  induction l with
  | nil => rfl
  | cons c t ih =>
    by_cases hd : isDigitI c.toNat = true
    · rw [acc_cons, nx_dig hd, show dgI 3 c.toNat = 3 from rfl, if_neg (by decide), ih, drop_dig c t hd]
    · rw [drop_nodig c t hd, acc_p 3 (by omega) c t hd]

theorem acc2 (l : List UInt8) : acc 2 l = if digL l = 0 then pointR l else false := by
  cases l with
  | nil => rfl
  | cons c t =>
    by_cases hd : isDigitI c.toNat = true
    · rw [acc_cons, nx_dig hd, show dgI 2 c.toNat = 0 from rfl, if_pos rfl, if_neg (by rw [digL_cons, if_pos hd]; omega)]
    · rw [if_pos (by rw [digL_cons, if_neg hd]), acc_p 2 (by omega) c t hd]

theorem acc01 (a : Int) (ha : a = 0 ∨ a = 1) (l : List UInt8) (hm : a = 0 → hdIs l 45 = false) : acc a l = intR l := by
  unfold intR
  cases l with
  | nil => rcases ha with rfl | rfl <;> rfl
  | cons c t =>
    rw [acc_cons, hd_cons]
    by_cases hd : isDigitI c.toNat = true
    · have hdd : dgI a c.toNat = if (c.toNat : Int) = 48 then 2 else 3 := by unfold dgI; rw [if_pos ha]
      rw [nx_dig hd, hdd, drop_dig c t hd, digL_cons, if_pos hd]
      by_cases h0 : (c.toNat : Int) = 48
      · rw [if_pos h0, if_neg (by decide), acc2]
        by_cases hz : digL t = 0
        · rw [if_pos hz, if_neg (by rw [hz]; simp), hz]
          rfl
        · rw [if_neg hz, if_pos (by simp [h0]; omega)]
      · rw [if_neg h0, if_neg (by decide), acc3, if_neg (by simp [h0])]
    · rw [digL_cons, if_neg hd, if_pos (Or.inl rfl), show nxI a c.toNat = 0 by
        unfold nxI sgI
        have hm' : a = 0 → ¬ (c.toNat : Int) = 45 := fun e => by have := hm e; rw [hd_cons] at this; simpa using this
        (repeat' split) <;> first | omega | simp_all, if_pos rfl]

theorem acc0 (l : List UInt8) : acc 0 l = isR l := by
  unfold isR
  by_cases hm : hdIs l 45 = true
  · cases l with
    | nil => cases hm
    | cons c t =>
      rw [if_pos hm]
      rw [hd_cons] at hm
      have hc : (c.toNat : Int) = 45 := of_decide_eq_true hm
      rw [acc_cons, hc, show nxI 0 45 = 1 from rfl, if_neg (by decide), acc01 1 (Or.inr rfl) t (fun e => by omega)]
      rfl
  · rw [if_neg hm, acc01 0 (Or.inl rfl) l (fun _ => by simpa using hm)]

/-- The place behind these bytes is a: none of them led nowhere. -/
def At (a : Int) (l : List UInt8) : Prop := StA a ∧ ∀ r, acc 0 (l ++ r) = acc a r
theorem at_nil : At 0 [] := ⟨by unfold StA; omega, fun r => rfl⟩
theorem at_step {a : Int} {l : List UInt8} (h : At a l) (c : UInt8) (hc : nxI a c.toNat ≠ 0) : At (nxI a c.toNat) (l ++ [c]) :=
  ⟨stA_next _ _, fun r => by rw [List.append_assoc, h.2]; show acc a (c :: r) = _; rw [acc_cons, if_neg hc]⟩
theorem at_is {a : Int} {l : List UInt8} (h : At a l) : isR l = whI a := by
  have := h.2 []
  rw [List.append_nil] at this
  rw [← acc0, this]; rfl
theorem at_dead {a : Int} {l : List UInt8} (h : At a l) (c : UInt8) (hc : nxI a c.toNat = 0) (r : List UInt8) : isR (l ++ c :: r) = false := by
  rw [← acc0, h.2, acc_cons, if_pos hc]

theorem wh_one (a : Int) (h : StA a) : (whI a || acc a [49]) = true := by
  rcases stA_cases h with rfl | rfl | rfl | rfl | rfl | rfl | rfl | rfl | rfl <;> decide +kernel

/-- What the document's Step answers, by the place. -/
theorem at_goes {a : Int} {l : List UInt8} (h : At a l) (c : UInt8) : (isR (l ++ [c]) || isR (l ++ [c] ++ [49])) = decide (nxI a c.toNat ≠ 0) := by
  by_cases hc : nxI a c.toNat = 0
  · rw [at_dead h c hc [], show l ++ [c] ++ [49] = l ++ c :: [49] by simp, at_dead h c hc [49]]
    simp [hc]
  · have h' := at_step h c hc
    rw [at_is h', ← acc0, h'.2, wh_one _ h'.1]
    simp [hc]

end Go.Proofs.Ytaklbbkjhbkieaa

namespace Go.Proofs.Ytaklbbkjhbkieaa
open Go.RowKit

end Go.Proofs.Ytaklbbkjhbkieaa

namespace Go.Proofs.Ytaklbbkjhbkieaa
open Go.RowKit

def fRun (a : Int) : List UInt8 → Int → Int
  | [], k => if whI a then -1 else k
  | c :: t, k => if nxI a c.toNat = 0 then k else fRun (nxI a c.toNat) t (k + 1)
def cRun (a : Int) : List UInt8 → Int → Int → Int
  | [], _, n => n
  | c :: t, k, n => if nxI a c.toNat = 0 then n else cRun (nxI a c.toNat) t (k + 1) (if whI (nxI a c.toNat) then k + 1 else n)

theorem fRun_cons (a : Int) (l : List UInt8) (k : Nat) (h : k < l.length) (n : Int) :
    fRun a (l.drop k) n = if nxI a l[k].toNat = 0 then n else fRun (nxI a l[k].toNat) (l.drop (k + 1)) (n + 1) := by
  rw [List.drop_eq_getElem_cons h]; rfl
theorem cRun_cons (a : Int) (l : List UInt8) (k : Nat) (h : k < l.length) (n m : Int) :
    cRun a (l.drop k) n m = if nxI a l[k].toNat = 0 then m else cRun (nxI a l[k].toNat) (l.drop (k + 1)) (n + 1) (if whI (nxI a l[k].toNat) then n + 1 else m) := by
  rw [List.drop_eq_getElem_cons h]; rfl
theorem stA_zero : StA 0 := by unfold StA; omega

theorem fRun_ge (l : List UInt8) : ∀ (a k : Int), 0 ≤ k → (-1 ≤ fRun a l k ∧ fRun a l k ≤ k + l.length) := by
  induction l with
  | nil => intro a k h; show -1 ≤ (if whI a then -1 else k) ∧ (if whI a then -1 else k) ≤ _; split <;> simp <;> omega
  | cons c t ih =>
    intro a k h
    show -1 ≤ (if nxI a c.toNat = 0 then k else fRun _ t (k + 1)) ∧ (if nxI a c.toNat = 0 then k else fRun _ t (k + 1)) ≤ k + ((c :: t).length : Int)
    have e : ((c :: t).length : Int) = t.length + 1 := by simp
    rw [e]
    split
    · omega
    · have := ih (nxI a c.toNat) (k + 1) (by omega)
      omega

theorem fRun_neg (l : List UInt8) : ∀ (a k : Int), 0 ≤ k → decide (fRun a l k < 0) = acc a l := by
  induction l with
  | nil => intro a k h; show decide ((if whI a then -1 else k) < 0) = whI a; cases whI a <;> simp; omega
  | cons c t ih =>
    intro a k h
    show decide ((if nxI a c.toNat = 0 then k else fRun _ t (k + 1)) < 0) = (if nxI a c.toNat = 0 then false else acc _ t)
    split
    · simp; omega
    · exact ih _ _ (by omega)

end Go.Proofs.Ytaklbbkjhbkieaa

namespace Go.Proofs.Ytaklbbkjhbkieaa
open Go.RowKit

/-- How many bytes of a text are its first sign, from a state on; 0: none. -/
def sgnGo : Int → Int → List UInt8 → Nat → Nat
  | _, _, [], _ => 0
  | sg, lf, c :: t, k => if okU sg lf c.toNat then (if lfU lf c.toNat = 0 then k + 1 else sgnGo (sgU sg lf c.toNat) (lfU lf c.toNat) t (k + 1)) else 0
def sgnL (l : List UInt8) : Nat := sgnGo 0 0 l 0

/-- The letter of a byte's escape; 0: it has none. -/
def escB (c : UInt8) : UInt8 := if c = 34 then 34 else if c = 92 then 92 else if c = 8 then 98 else if c = 12 then 102 else if c = 10 then 110 else if c = 13 then 114 else if c = 9 then 116 else 0
/-- A number's sign of 16. -/
def lowB (n : Nat) : UInt8 := if n < 10 then UInt8.ofNat (48 + n) else if n < 16 then UInt8.ofNat (87 + n) else 48
def stranger : List UInt8 := [239, 191, 189]
/-- What the string has for a text's first n bytes; n = 0: for one that is no sign. -/
def pieceP (l : List UInt8) (n : Nat) : List UInt8 := match l with
  | [] => []
  | c :: t => if n = 0 then stranger else if escB c ≠ 0 then [92, escB c] else if c.toNat < 32 then [92, 117, 48, 48, lowB (c.toNat / 16), lowB (c.toNat % 16)] else (c :: t).take n
def pieceN (l : List UInt8) (n : Nat) : List UInt8 := if n = 0 then stranger else l.take n
def goOn (n : Nat) : Nat := if n = 0 then 1 else n
def putGo : Nat → List UInt8 → List UInt8
  | 0, _ => []
  | f + 1, l => if l = [] then [] else pieceP l (sgnL l) ++ putGo f (l.drop (goOn (sgnL l)))
def normGo : Nat → List UInt8 → List UInt8
  | 0, _ => []
  | f + 1, l => if l = [] then [] else pieceN l (sgnL l) ++ normGo f (l.drop (goOn (sgnL l)))
def putL (l : List UInt8) : List UInt8 := putGo l.length l
def normL (l : List UInt8) : List UInt8 := normGo l.length l

/-- Where one is in a string. -/
inductive QSt where
  | plain
  | sign (sg lf : Int) (p : List UInt8)
  | esc
  | hex (k : Nat) (v : Int)
  | half (h : Int)
  | hesc (h : Int)
  | hhex (h : Int) (k : Nat) (v : Int)
  | done

def hexB (c : UInt8) : Option Int :=
  if 48 ≤ c.toNat ∧ c.toNat ≤ 57 then some (c.toNat - 48) else if 97 ≤ c.toNat ∧ c.toNat ≤ 102 then some (c.toNat - 87) else if 65 ≤ c.toNat ∧ c.toNat ≤ 70 then some (c.toNat - 55) else none
def letB (c : UInt8) : UInt8 := if c = 34 then 34 else if c = 92 then 92 else if c = 47 then 47 else if c = 98 then 8 else if c = 102 then 12 else if c = 110 then 10 else if c = 114 then 13 else if c = 116 then 9 else 0
def ofB (v : Int) : List UInt8 := (ofI v).map fun x => UInt8.ofNat x.toNat

/-- One byte on: where one is then, and the bytes that are told; none: it doesn't fit. -/
def stepQ : QSt → UInt8 → Option (QSt × List UInt8)
  | .plain, c => if c = 34 then some (.done, []) else if c = 92 then some (.esc, []) else if c.toNat < 32 then none else
      if okU 0 0 c.toNat then (if lfU 0 c.toNat = 0 then some (.plain, [c]) else some (.sign (sgU 0 0 c.toNat) (lfU 0 c.toNat) [c], [])) else none
  | .sign sg lf p, c => if okU sg lf c.toNat then (if lfU lf c.toNat = 0 then some (.plain, p ++ [c]) else some (.sign (sgU sg lf c.toNat) (lfU lf c.toNat) (p ++ [c]), [])) else none
  | .esc, c => if c = 117 then some (.hex 0 0, []) else if letB c = 0 then none else some (.plain, [letB c])
  | .hex k v, c => match hexB c with
    | none => none
    | some d => if k = 1 ∧ 220 ≤ v * 16 + d ∧ v * 16 + d ≤ 223 then none else
        if k = 3 then (if 55296 ≤ v * 16 + d ∧ v * 16 + d ≤ 56319 then some (.half (v * 16 + d), []) else some (.plain, ofB (v * 16 + d))) else some (.hex (k + 1) (v * 16 + d), [])
  | .half h, c => if c = 92 then some (.hesc h, []) else none
  | .hesc h, c => if c = 117 then some (.hhex h 0 0, []) else none
  | .hhex h k v, c => match hexB c with
    | none => none
    | some d => if k = 0 ∧ d ≠ 13 then none else if k = 1 ∧ (v * 16 + d < 220 ∨ 223 < v * 16 + d) then none else
        if k = 3 then some (.plain, ofB (65536 + (h - 55296) * 1024 + (v * 16 + d - 56320))) else some (.hhex h (k + 1) (v * 16 + d), [])
  | .done, _ => none

/-- Reading: the text, and how many bytes; none: the string isn't whole, or there is none. -/
def readQ : QSt → List UInt8 → List UInt8 → Nat → Option (List UInt8 × Nat)
  | _, [], _, _ => none
  | st, c :: t, acc, n => match stepQ st c with
    | none => none
    | some (.done, e) => some (acc ++ e, n + 1)
    | some (st', e) => readQ st' t (acc ++ e) (n + 1)

theorem readQ_on {st st' : QSt} {c : UInt8} {e : List UInt8} (h : stepQ st c = some (st', e)) (hd : st' ≠ .done) (t acc : List UInt8) (n : Nat) : readQ st (c :: t) acc n = readQ st' t (acc ++ e) (n + 1) := by
  conv => lhs; unfold readQ
  rw [h]
  cases st'
  case done => exact absurd rfl hd
  all_goals rfl

theorem step_sign (sg lf : Int) (p : List UInt8) (c : UInt8) : stepQ (.sign sg lf p) c = if okU sg lf c.toNat then (if lfU lf c.toNat = 0 then some (.plain, p ++ [c]) else some (.sign (sgU sg lf c.toNat) (lfU lf c.toNat) (p ++ [c]), [])) else none := rfl
theorem step_plain (c : UInt8) : stepQ .plain c = if c = 34 then some (.done, []) else if c = 92 then some (.esc, []) else if c.toNat < 32 then none else
      if okU 0 0 c.toNat then (if lfU 0 c.toNat = 0 then some (.plain, [c]) else some (.sign (sgU 0 0 c.toNat) (lfU 0 c.toNat) [c], [])) else none := rfl

/-- The bytes p lead from between two signs to this state. -/
def Reach (p : List UInt8) (sg lf : Int) : Prop := StU sg lf ∧ ∀ rest, runU 0 0 (p ++ rest) 0 = runU sg lf rest p.length
theorem reach_nil : Reach [] 0 0 := ⟨stU_zero, fun _ => rfl⟩
theorem reach_step {p : List UInt8} {sg lf : Int} (h : Reach p sg lf) {c : UInt8} (hk : okU sg lf c.toNat = true) : Reach (p ++ [c]) (sgU sg lf c.toNat) (lfU lf c.toNat) :=
  ⟨stU_step h.1 (Int.natCast_nonneg _) hk, fun rest => by
    rw [List.append_assoc, h.2]
    show (if okU sg lf c.toNat then runU _ _ rest (p.length + 1) else _) = _
    rw [if_pos hk]
    simp⟩
theorem reach_whole {p : List UInt8} {sg : Int} (h : Reach p sg 0) : badU p = -1 := by
  have := h.2 []
  rw [List.append_nil] at this
  exact this

theorem bad_cat {l m : List UInt8} (hl : badU l = -1) (hm : badU m = -1) : badU (l ++ m) = -1 := by
  rw [(badU_append l m).1 hl, if_pos hm]
theorem bad_ofB (v : Int) (h0 : 0 ≤ v) (h9 : v ≤ 1114111) (hs : v < 55296 ∨ 57343 < v) : badU (ofB v) = -1 := by
  have := badU_of v h0 h9 hs
  rw [strOfNums_data] at this
  exact this

/-- A sign's bytes, as sgnGo finds them. -/
theorem sgn_split (l : List UInt8) : ∀ (sg lf : Int) (k j : Nat), sgnGo sg lf l k = j → j ≠ 0 → k < j ∧ j ≤ k + l.length := by
  induction l with
  | nil => intro sg lf k j h hj; exact absurd h.symm hj
  | cons c t ih =>
    intro sg lf k j h hj
    unfold sgnGo at h
    split at h
    · split at h
      · simp; omega
      · have := ih _ _ _ _ h hj
        simp
        omega
    · exact absurd h.symm hj

/-- Reading the rest of a sign. -/
theorem read_sign (l : List UInt8) : ∀ (sg lf : Int) (p : List UInt8) (k j : Nat), sgnGo sg lf l k = j → j ≠ 0 → ∀ rest acc n,
    readQ (.sign sg lf p) (l.take (j - k) ++ rest) acc n = readQ .plain rest (acc ++ p ++ l.take (j - k)) (n + (j - k)) := by
  induction l with
  | nil => intro sg lf p k j h hj; exact absurd h.symm hj
  | cons c t ih =>
    intro sg lf p k j h hj rest acc n
    have hs := sgn_split _ _ _ _ _ h hj
    have e : j - k = (j - (k + 1)) + 1 := by omega
    rw [e, List.take_succ_cons, List.cons_append]
    unfold sgnGo at h
    split at h
    · rename_i hok
      split at h
      · rename_i hz
        subst h
        rw [show k + 1 - (k + 1) = 0 by omega, List.take_zero, List.nil_append]
        rw [readQ_on (st' := .plain) (e := p ++ [c]) (by rw [step_sign, if_pos hok, if_pos hz]) (by intro e; cases e)]
        simp
      · rename_i hz
        have := ih _ _ (p ++ [c]) _ _ h hj rest (acc ++ []) (n + 1)
        rw [readQ_on (st' := .sign (sgU sg lf c.toNat) (lfU lf c.toNat) (p ++ [c])) (e := []) (by rw [step_sign, if_pos hok, if_neg hz]) (by intro e; cases e), this]
        simp
        congr 1
        omega
    · exact absurd h.symm hj

theorem sgn_cons (c : UInt8) (t : List UInt8) : sgnL (c :: t) = if okU 0 0 c.toNat then (if lfU 0 c.toNat = 0 then 1 else sgnGo (sgU 0 0 c.toNat) (lfU 0 c.toNat) t 1) else 0 := rfl
theorem sgn_small (c : UInt8) (t : List UInt8) (h : c.toNat < 128) : sgnL (c :: t) = 1 := by
  rw [sgn_cons, if_pos (okU_0 _ (by omega) 0), if_pos (by unfold lfU; (repeat' split) <;> omega)]

theorem esc_cases {c : UInt8} (h : escB c ≠ 0) : c = 34 ∨ c = 92 ∨ c = 8 ∨ c = 12 ∨ c = 10 ∨ c = 13 ∨ c = 9 := by
  unfold escB at h
  (repeat' split at h) <;> first | (exfalso; exact h rfl) | simp_all

theorem hex_low (d : Nat) (h : d < 16) : hexB (lowB d) = some (d : Int) := by
  have : d = 0 ∨ d = 1 ∨ d = 2 ∨ d = 3 ∨ d = 4 ∨ d = 5 ∨ d = 6 ∨ d = 7 ∨ d = 8 ∨ d = 9 ∨ d = 10 ∨ d = 11 ∨ d = 12 ∨ d = 13 ∨ d = 14 ∨ d = 15 := by omega
  rcases this with rfl | rfl | rfl | rfl | rfl | rfl | rfl | rfl | rfl | rfl | rfl | rfl | rfl | rfl | rfl | rfl <;> rfl

theorem step_hex (k : Nat) (v d : Int) (c : UInt8) (h : hexB c = some d) : stepQ (.hex k v) c = if k = 1 ∧ 220 ≤ v * 16 + d ∧ v * 16 + d ≤ 223 then none else
        if k = 3 then (if 55296 ≤ v * 16 + d ∧ v * 16 + d ≤ 56319 then some (QSt.half (v * 16 + d), []) else some (QSt.plain, ofB (v * 16 + d))) else some (QSt.hex (k + 1) (v * 16 + d), []) := by
  show (match hexB c with
    | none => none
    | some d => if k = 1 ∧ 220 ≤ v * 16 + d ∧ v * 16 + d ≤ 223 then none else
        if k = 3 then (if 55296 ≤ v * 16 + d ∧ v * 16 + d ≤ 56319 then some (QSt.half (v * 16 + d), []) else some (QSt.plain, ofB (v * 16 + d))) else some (QSt.hex (k + 1) (v * 16 + d), [])) = _
  rw [h]

theorem step_hex_none (k : Nat) (v : Int) (c : UInt8) (h : hexB c = none) : stepQ (.hex k v) c = none := by simp only [stepQ, h]
theorem step_hhex (g : Int) (k : Nat) (v d : Int) (c : UInt8) (h : hexB c = some d) : stepQ (.hhex g k v) c = if k = 0 ∧ d ≠ 13 then none else if k = 1 ∧ (v * 16 + d < 220 ∨ 223 < v * 16 + d) then none else
        if k = 3 then some (QSt.plain, ofB (65536 + (g - 55296) * 1024 + (v * 16 + d - 56320))) else some (QSt.hhex g (k + 1) (v * 16 + d), []) := by simp only [stepQ, h]
theorem step_hhex_none (g : Int) (k : Nat) (v : Int) (c : UInt8) (h : hexB c = none) : stepQ (.hhex g k v) c = none := by simp only [stepQ, h]

theorem ofB_small (c : UInt8) (h : c.toNat < 128) : ofB (c.toNat : Int) = [c] := by
  unfold ofB ofI
  rw [if_pos (by omega)]
  simp

set_option maxRecDepth 100000 in
/-- What Put has for the first piece is read as that piece. -/
theorem read_piece (c : UInt8) (t rest acc : List UInt8) (m : Nat) :
    readQ .plain (pieceP (c :: t) (sgnL (c :: t)) ++ rest) acc m = readQ .plain rest (acc ++ pieceN (c :: t) (sgnL (c :: t))) (m + (pieceP (c :: t) (sgnL (c :: t))).length) := by
  generalize hn : sgnL (c :: t) = n
  unfold pieceP pieceN
  by_cases h0 : n = 0
  · simp only [h0, if_true]
    show readQ .plain (239 :: 191 :: 189 :: rest) acc m = _
    rw [readQ_on (st' := .sign 15 2 [239]) (e := []) rfl (by intro e; cases e), readQ_on (st' := .sign 1023 1 [239, 191]) (e := []) rfl (by intro e; cases e), readQ_on (st' := .plain) (e := [239, 191, 189]) rfl (by intro e; cases e)]
    simp [stranger]
  simp only [h0, if_false]
  by_cases h1 : escB c ≠ 0
  · rw [if_pos h1]
    have hc := esc_cases h1
    have hn1 : n = 1 := by
      rw [← hn]
      exact sgn_small c t (by rcases hc with rfl | rfl | rfl | rfl | rfl | rfl | rfl <;> decide)
    subst hn1
    show readQ .plain (92 :: escB c :: rest) acc m = _
    rw [readQ_on (st' := .esc) (e := []) rfl (by intro e; cases e), readQ_on (st' := .plain) (e := [c]) (by rcases hc with rfl | rfl | rfl | rfl | rfl | rfl | rfl <;> rfl) (by intro e; cases e)]
    simp
  rw [if_neg h1]
  by_cases h2 : c.toNat < 32
  · rw [if_pos h2]
    have hn1 : n = 1 := by rw [← hn]; exact sgn_small c t (by omega)
    subst hn1
    show readQ .plain (92 :: 117 :: 48 :: 48 :: lowB (c.toNat / 16) :: lowB (c.toNat % 16) :: rest) acc m = _
    have e1 := hex_low (c.toNat / 16) (by omega)
    have e2 := hex_low (c.toNat % 16) (by omega)
    have ev : (((c.toNat / 16 : Nat) : Int)) * 16 + ((c.toNat % 16 : Nat) : Int) = c.toNat := by omega
    rw [readQ_on (st' := .esc) (e := []) rfl (by intro e; cases e), readQ_on (st' := .hex 0 0) (e := []) rfl (by intro e; cases e), readQ_on (st' := .hex 1 0) (e := []) rfl (by intro e; cases e), readQ_on (st' := .hex 2 0) (e := []) rfl (by intro e; cases e),
      readQ_on (st' := .hex 3 ((c.toNat / 16 : Nat) : Int)) (e := []) (by rw [step_hex _ _ _ _ e1, if_neg (by omega), if_neg (by omega)]; simp) (by intro e; cases e),
      readQ_on (st' := .plain) (e := [c]) (by rw [step_hex _ _ _ _ e2, ev, if_neg (by omega), if_pos rfl, if_neg (by omega), ofB_small c (by omega)]) (by intro e; cases e)]
    simp
  rw [if_neg h2]
  have hq : c ≠ 34 := fun e => by subst e; exact h1 (by decide)
  have hb : c ≠ 92 := fun e => by subst e; exact h1 (by decide)
  rw [sgn_cons] at hn
  split at hn
  · rename_i hok
    split at hn
    · rename_i hz
      subst hn
      show readQ .plain (c :: rest) acc m = _
      rw [readQ_on (st' := .plain) (e := [c]) (by rw [step_plain, if_neg hq, if_neg hb, if_neg h2, if_pos hok, if_pos hz]) (by intro e; cases e)]
      simp
    · rename_i hz
      have hs := sgn_split _ _ _ _ _ hn h0
      have e : n = (n - 1) + 1 := by omega
      have hr := read_sign t _ _ [c] _ _ hn h0 rest (acc ++ []) (m + 1)
      rw [e, List.take_succ_cons, List.cons_append, readQ_on (st' := .sign (sgU 0 0 c.toNat) (lfU 0 c.toNat) [c]) (e := []) (by rw [step_plain, if_neg hq, if_neg hb, if_neg h2, if_pos hok, if_neg hz]) (by intro e; cases e), hr]
      simp
      congr 1
      rw [Nat.min_eq_left (by omega)]
      omega
  · exact absurd hn.symm h0

set_option maxRecDepth 100000 in
theorem read_put (f : Nat) : ∀ (l : List UInt8), l.length ≤ f → ∀ acc m, readQ .plain (putGo f l ++ [34]) acc m = some (acc ++ normGo f l, m + (putGo f l).length + 1) := by
  induction f with
  | zero =>
    intro l hl acc m
    show readQ .plain [34] acc m = _
    simp [readQ, stepQ, normGo, putGo]
  | succ f ih =>
    intro l hl acc m
    unfold putGo normGo
    cases l with
    | nil => simp [readQ, stepQ]
    | cons c t =>
      simp only [reduceCtorEq, if_false]
      have hd : 1 ≤ goOn (sgnL (c :: t)) := by unfold goOn; split <;> omega
      rw [List.append_assoc, read_piece, ih _ (by simp at hl ⊢; omega)]
      simp
      omega

/-- A text comes back from its string. -/
theorem read_back (l : List UInt8) : readQ .plain (putL l ++ [34]) [] 0 = some (normL l, (putL l).length + 1) := by
  have := read_put l.length l (Nat.le_refl _) [] 0
  simpa [putL, normL] using this

end Go.Proofs.Ytaklbbkjhbkieaa

namespace Go.Proofs.Ytaklbbkjhbkieaa
open Go.RowKit

theorem sgn_valid (l : List UInt8) : ∀ (sg lf : Int) (p : List UInt8) (k j : Nat), sgnGo sg lf l k = j → j ≠ 0 → Reach p sg lf → badU (p ++ l.take (j - k)) = -1 := by
  induction l with
  | nil => intro sg lf p k j h hj; exact absurd h.symm hj
  | cons c t ih =>
    intro sg lf p k j h hj hr
    have hs := sgn_split _ _ _ _ _ h hj
    have e : j - k = (j - (k + 1)) + 1 := by omega
    rw [e, List.take_succ_cons, show p ++ c :: t.take (j - (k + 1)) = (p ++ [c]) ++ t.take (j - (k + 1)) by simp]
    unfold sgnGo at h
    split at h
    · rename_i hok
      have hr' := reach_step hr hok
      split at h
      · rename_i hz
        subst h
        rw [hz] at hr'
        rw [show k + 1 - (k + 1) = 0 by omega, List.take_zero, List.append_nil]
        exact reach_whole hr'
      · exact ih _ _ (p ++ [c]) _ _ h hj hr'
    · exact absurd h.symm hj

theorem bad_stranger : badU stranger = -1 := by decide +kernel

theorem bad_pieceN (l : List UInt8) : badU (pieceN l (sgnL l)) = -1 := by
  unfold pieceN
  split
  · exact bad_stranger
  · rename_i h
    have := sgn_valid l 0 0 [] 0 (sgnL l) rfl h reach_nil
    simpa using this

theorem bad_norm_go (f : Nat) : ∀ l, badU (normGo f l) = -1 := by
  induction f with
  | zero => intro l; rfl
  | succ f ih =>
    intro l
    unfold normGo
    split
    · rfl
    · exact bad_cat (bad_pieceN l) (ih _)
theorem bad_norm (l : List UInt8) : badU (normL l) = -1 := bad_norm_go _ l

theorem sgn_good (l : List UInt8) : ∀ (sg lf : Int) (k : Nat), StU sg lf → runU sg lf l 0 = -1 → (l ≠ [] ∨ lf ≠ 0) → sgnGo sg lf l k ≠ 0 ∧ runU 0 0 (l.drop (sgnGo sg lf l k - k)) 0 = -1 := by
  induction l with
  | nil =>
    intro sg lf k hst h hn
    have h : (if 0 < lf then 0 else -1 : Int) = -1 := h
    exfalso
    unfold StU at hst
    rcases hn with hn | hn
    · exact hn rfl
    · rw [if_pos (by omega)] at h
      cases h
  | cons c t ih =>
    intro sg lf k hst h _
    have h : (if okU sg lf c.toNat then runU (sgU sg lf c.toNat) (lfU lf c.toNat) t (0 + 1) else 0) = -1 := h
    unfold sgnGo
    by_cases hok : okU sg lf c.toNat = true
    · rw [if_pos hok] at h ⊢
      have hst' := stU_step hst (Int.natCast_nonneg _) hok
      have h' : runU (sgU sg lf c.toNat) (lfU lf c.toNat) t 0 = -1 := by
        rw [runU_shift] at h
        split at h
        · assumption
        · have := (runU_ge t (sgU sg lf c.toNat) (lfU lf c.toNat)).1
          omega
      by_cases hz : lfU lf c.toNat = 0
      · rw [if_pos hz, show k + 1 - k = 1 by omega]
        rw [hz] at h'
        exact ⟨by omega, by rw [runU_zero _ 0 (sgU sg lf c.toNat)]; exact h'⟩
      · rw [if_neg hz]
        obtain ⟨i1, i2⟩ := ih _ _ (k + 1) hst' h' (.inr hz)
        refine ⟨i1, ?_⟩
        have hs := sgn_split t _ _ (k + 1) _ rfl i1
        rw [show sgnGo (sgU sg lf c.toNat) (lfU lf c.toNat) t (k + 1) - k = (sgnGo (sgU sg lf c.toNat) (lfU lf c.toNat) t (k + 1) - (k + 1)) + 1 by omega, List.drop_succ_cons]
        exact i2
    · rw [if_neg hok] at h
      cases h

theorem norm_id_go (f : Nat) : ∀ l, l.length ≤ f → badU l = -1 → normGo f l = l := by
  induction f with
  | zero =>
    intro l hl _
    obtain rfl : l = [] := List.eq_nil_of_length_eq_zero (by omega)
    rfl
  | succ f ih =>
    intro l hl hb
    unfold normGo
    split
    · rename_i h; rw [h]
    · rename_i hne
      obtain ⟨h1, h2⟩ := sgn_good l 0 0 0 stU_zero hb (.inl hne)
      have hs := sgn_split l 0 0 0 _ rfl h1
      have e1 : goOn (sgnL l) = sgnL l := if_neg h1
      have e2 : pieceN l (sgnL l) = l.take (sgnL l) := if_neg h1
      rw [e1, e2, ih _ (by simp; have : 0 < sgnL l := hs.1; omega) (by simpa [sgnL, badU] using h2), List.take_append_drop]
/-- A text of UTF-8 is its own norm. -/
theorem norm_id {l : List UInt8} (h : badU l = -1) : normL l = l := norm_id_go _ l (Nat.le_refl _) h

theorem hexB_in {c : UInt8} {d : Int} (h : hexB c = some d) : 0 ≤ d ∧ d ≤ 15 := by
  unfold hexB at h
  split at h
  · have := Option.some.inj h; omega
  · split at h
    · have := Option.some.inj h; omega
    · split at h
      · have := Option.some.inj h; omega
      · cases h

/-- The states that reading comes to. -/
def WQ : QSt → Prop
  | .sign sg lf p => Reach p sg lf
  | .hex k v => (k = 0 ∧ v = 0) ∨ (k = 1 ∧ 0 ≤ v ∧ v ≤ 15) ∨ (k = 2 ∧ 0 ≤ v ∧ v ≤ 255 ∧ (v < 220 ∨ 223 < v)) ∨ (k = 3 ∧ 0 ≤ v ∧ v ≤ 4095 ∧ (v < 3520 ∨ 3583 < v))
  | .half h => 55296 ≤ h ∧ h ≤ 56319
  | .hesc h => 55296 ≤ h ∧ h ≤ 56319
  | .hhex h k v => 55296 ≤ h ∧ h ≤ 56319 ∧ ((k = 0 ∧ v = 0) ∨ (k = 1 ∧ v = 13) ∨ (k = 2 ∧ 220 ≤ v ∧ v ≤ 223) ∨ (k = 3 ∧ 3520 ≤ v ∧ v ≤ 3583))
  | _ => True

theorem bad_one (c : UInt8) (h : c.toNat < 128) : badU [c] = -1 := by
  have := reach_step reach_nil (c := c) (okU_0 _ (by omega) 0)
  rw [show lfU 0 c.toNat = 0 by unfold lfU; (repeat' split) <;> omega] at this
  exact reach_whole this

theorem letB_small (c : UInt8) : (letB c).toNat < 128 := by
  unfold letB
  (repeat' split) <;> decide

theorem stepQ_ok {st st' : QSt} {c : UInt8} {e : List UInt8} (hw : WQ st) (h : stepQ st c = some (st', e)) : WQ st' ∧ badU e = -1 := by
  cases st with
  | done => cases h
  | plain =>
    rw [step_plain] at h
    split at h
    · cases h; exact ⟨trivial, rfl⟩
    split at h
    · cases h; exact ⟨trivial, rfl⟩
    split at h
    · cases h
    split at h
    · rename_i hok
      have hr := reach_step reach_nil hok
      split at h
      · rename_i hz
        cases h
        rw [hz] at hr
        exact ⟨trivial, reach_whole hr⟩
      · cases h; exact ⟨hr, rfl⟩
    · cases h
  | sign sg lf p =>
    rw [step_sign] at h
    split at h
    · rename_i hok
      have hr := reach_step hw hok
      split at h
      · rename_i hz
        cases h
        rw [hz] at hr
        exact ⟨trivial, reach_whole hr⟩
      · cases h; exact ⟨hr, rfl⟩
    · cases h
  | esc =>
    have h : (if c = 117 then some (QSt.hex 0 0, []) else if letB c = 0 then none else some (QSt.plain, [letB c])) = some (st', e) := h
    split at h
    · cases h; exact ⟨.inl ⟨rfl, rfl⟩, rfl⟩
    split at h
    · cases h
    · cases h; exact ⟨trivial, bad_one _ (letB_small c)⟩
  | hex k v =>
    cases hd : hexB c with
    | none =>
      rw [step_hex_none _ _ _ hd] at h
      cases h
    | some d =>
      have hin := hexB_in hd
      rw [step_hex _ _ _ _ hd] at h
      unfold WQ at hw
      split at h
      · cases h
      split at h
      · split at h
        · cases h; exact ⟨by unfold WQ; omega, rfl⟩
        · cases h; exact ⟨trivial, bad_ofB _ (by omega) (by omega) (by omega)⟩
      · cases h; exact ⟨by unfold WQ; omega, rfl⟩
  | half g =>
    have h : (if c = 92 then some (QSt.hesc g, []) else none) = some (st', e) := h
    split at h
    · cases h; exact ⟨hw, rfl⟩
    · cases h
  | hesc g =>
    have h : (if c = 117 then some (QSt.hhex g 0 0, []) else none) = some (st', e) := h
    split at h
    · cases h; exact ⟨⟨hw.1, hw.2, .inl ⟨rfl, rfl⟩⟩, rfl⟩
    · cases h
  | hhex g k v =>
    cases hd : hexB c with
    | none =>
      rw [step_hhex_none _ _ _ _ hd] at h
      cases h
    | some d =>
      have hin := hexB_in hd
      rw [step_hhex _ _ _ _ _ hd] at h
      obtain ⟨g1, g2, hw⟩ := hw
      split at h
      · cases h
      split at h
      · cases h
      split at h
      · cases h; exact ⟨trivial, bad_ofB _ (by omega) (by omega) (by omega)⟩
      · cases h; exact ⟨⟨g1, g2, by omega⟩, rfl⟩

/-- Whatever is read is UTF-8. -/
theorem read_valid (l : List UInt8) : ∀ (st : QSt) (acc : List UInt8) (n : Nat) (u : List UInt8) (m : Nat), WQ st → badU acc = -1 → readQ st l acc n = some (u, m) → badU u = -1 := by
  induction l with
  | nil => intro st acc n u m _ _ h; cases h
  | cons c t ih =>
    intro st acc n u m hw ha h
    cases hs : stepQ st c with
    | none =>
      unfold readQ at h
      rw [hs] at h
      cases h
    | some x =>
      obtain ⟨st', e⟩ := x
      obtain ⟨h1, h2⟩ := stepQ_ok hw hs
      by_cases hd : st' = .done
      · subst hd
        unfold readQ at h
        rw [hs] at h
        cases h
        exact bad_cat ha h2
      · rw [readQ_on hs hd] at h
        exact ih _ _ _ _ _ h1 (bad_cat ha h2) h

theorem read_least (l : List UInt8) : ∀ (st : QSt) (acc : List UInt8) (n : Nat) (u : List UInt8) (m : Nat), readQ st l acc n = some (u, m) → n < m ∧ m ≤ n + l.length := by
  induction l with
  | nil => intro st acc n u m h; cases h
  | cons c t ih =>
    intro st acc n u m h
    cases hs : stepQ st c with
    | none =>
      unfold readQ at h
      rw [hs] at h
      cases h
    | some x =>
      obtain ⟨st', e⟩ := x
      by_cases hd : st' = .done
      · subst hd
        unfold readQ at h
        rw [hs] at h
        cases h
        simp
      · rw [readQ_on hs hd] at h
        have := ih _ _ _ _ _ h
        simp
        omega

end Go.Proofs.Ytaklbbkjhbkieaa

namespace Go.Proofs.Ytaklbbkjhbkieaa
open Go.RowKit

/-- The kind of a byte's fault, where it doesn't fit. -/
def faultQ : QSt → UInt8 → Int
  | .plain, c => if c.toNat < 32 then 7 else 2
  | .sign _ _ _, _ => 2
  | .esc, _ => 3
  | .hex _ _, c => if (hexB c).isSome then 4 else 3
  | .half _, _ => 4
  | .hesc _, _ => 4
  | .hhex _ k _, _ => if k ≤ 1 then 4 else 3
  | .done, _ => 14

/-- What Read answers: the text, how many bytes (or the fault's place), the kind. -/
def readR : QSt → List UInt8 → List UInt8 → Nat → List UInt8 × Nat × Int
  | _, [], _, n => ([], n, 10)
  | st, c :: t, acc, n => match stepQ st c with
    | none => ([], n, faultQ st c)
    | some (.done, e) => (acc ++ e, n + 1, 1)
    | some (st', e) => readR st' t (acc ++ e) (n + 1)

theorem readR_on {st st' : QSt} {c : UInt8} {e : List UInt8} (h : stepQ st c = some (st', e)) (hd : st' ≠ .done) (t acc : List UInt8) (n : Nat) : readR st (c :: t) acc n = readR st' t (acc ++ e) (n + 1) := by
  conv => lhs; unfold readR
  rw [h]
  cases st'
  case done => exact absurd rfl hd
  all_goals rfl
theorem readR_no {st : QSt} {c : UInt8} (h : stepQ st c = none) (t acc : List UInt8) (n : Nat) : readR st (c :: t) acc n = ([], n, faultQ st c) := by
  conv => lhs; unfold readR
  rw [h]
theorem readR_done {st : QSt} {c : UInt8} {e : List UInt8} (h : stepQ st c = some (.done, e)) (t acc : List UInt8) (n : Nat) : readR st (c :: t) acc n = (acc ++ e, n + 1, 1) := by
  conv => lhs; unfold readR
  rw [h]
theorem readQ_no {st : QSt} {c : UInt8} (h : stepQ st c = none) (t acc : List UInt8) (n : Nat) : readQ st (c :: t) acc n = none := by
  conv => lhs; unfold readQ
  rw [h]
theorem readQ_done {st : QSt} {c : UInt8} {e : List UInt8} (h : stepQ st c = some (.done, e)) (t acc : List UInt8) (n : Nat) : readQ st (c :: t) acc n = some (acc ++ e, n + 1) := by
  conv => lhs; unfold readQ
  rw [h]

theorem faultQ_ne (st : QSt) (c : UInt8) : faultQ st c ≠ 1 ∧ faultQ st c ≠ 0 := by
  unfold faultQ
  (repeat' split) <;> decide

/-- Read's two ways. -/
theorem readR_cases (l : List UInt8) : ∀ (st : QSt) (acc : List UInt8) (n : Nat),
    (∃ u m, readQ st l acc n = some (u, m) ∧ readR st l acc n = (u, m, 1)) ∨ (readQ st l acc n = none ∧ ∃ m j, readR st l acc n = ([], m, j) ∧ j ≠ 1 ∧ m ≤ n + l.length) := by
  induction l with
  | nil => intro st acc n; exact .inr ⟨rfl, n, 10, rfl, by decide, by omega⟩
  | cons c t ih =>
    intro st acc n
    cases hs : stepQ st c with
    | none => exact .inr ⟨readQ_no hs _ _ _, n, _, readR_no hs _ _ _, (faultQ_ne st c).1, by omega⟩
    | some x =>
      obtain ⟨st', e⟩ := x
      by_cases hd : st' = .done
      · subst hd
        exact .inl ⟨_, _, readQ_done hs _ _ _, readR_done hs _ _ _⟩
      · rw [readQ_on hs hd, readR_on hs hd]
        rcases ih st' (acc ++ e) (n + 1) with h | ⟨h1, m, j, h2, h3, h4⟩
        · exact .inl h
        · exact .inr ⟨h1, m, j, h2, h3, by simp; omega⟩

theorem readR_back (l : List UInt8) : readR .plain (putL l ++ [34]) [] 0 = (normL l, (putL l).length + 1, 1) := by
  have h := read_back l
  rcases readR_cases (putL l ++ [34]) .plain [] 0 with ⟨u, m, h1, h2⟩ | ⟨h1, _⟩
  · rw [h] at h1
    obtain ⟨rfl, rfl⟩ := Prod.mk.inj (Option.some.inj h1)
    exact h2
  · rw [h] at h1
    cases h1

def pendQ : QSt → Nat
  | .sign _ _ p => p.length
  | _ => 0
theorem ofB_len (v : Int) : (ofB v).length ≤ 4 := by
  unfold ofB ofI
  (repeat' split) <;> simp

theorem stepQ_len {st st' : QSt} {c : UInt8} {e : List UInt8} (h : stepQ st c = some (st', e)) : e.length + pendQ st' ≤ pendQ st + 4 := by
  cases st with
  | done => cases h
  | plain =>
    rw [step_plain] at h
    (repeat' split at h) <;> cases h <;> simp [pendQ]
  | sign sg lf p =>
    rw [step_sign] at h
    (repeat' split at h) <;> cases h <;> simp [pendQ] <;> omega
  | esc =>
    have h : (if c = 117 then some (QSt.hex 0 0, []) else if letB c = 0 then none else some (QSt.plain, [letB c])) = some (st', e) := h
    (repeat' split at h) <;> cases h <;> simp [pendQ]
  | hex k v =>
    cases hd : hexB c with
    | none => rw [step_hex_none _ _ _ hd] at h; cases h
    | some d =>
      rw [step_hex _ _ _ _ hd] at h
      have := ofB_len (v * 16 + d)
      (repeat' split at h) <;> cases h <;> simp [pendQ] <;> omega
  | half g =>
    have h : (if c = 92 then some (QSt.hesc g, []) else none) = some (st', e) := h
    (repeat' split at h) <;> cases h <;> simp [pendQ]
  | hesc g =>
    have h : (if c = 117 then some (QSt.hhex g 0 0, []) else none) = some (st', e) := h
    (repeat' split at h) <;> cases h <;> simp [pendQ]
  | hhex g k v =>
    cases hd : hexB c with
    | none => rw [step_hhex_none _ _ _ _ hd] at h; cases h
    | some d =>
      rw [step_hhex _ _ _ _ _ hd] at h
      have := ofB_len (65536 + (g - 55296) * 1024 + (v * 16 + d - 56320))
      (repeat' split at h) <;> cases h <;> simp [pendQ] <;> omega

theorem read_len (l : List UInt8) : ∀ (st : QSt) (acc : List UInt8) (n : Nat) (u : List UInt8) (m : Nat), readQ st l acc n = some (u, m) → u.length ≤ acc.length + pendQ st + 4 * l.length := by
  induction l with
  | nil => intro st acc n u m h; cases h
  | cons c t ih =>
    intro st acc n u m h
    cases hs : stepQ st c with
    | none => rw [readQ_no hs] at h; cases h
    | some x =>
      obtain ⟨st', e⟩ := x
      have hl := stepQ_len hs
      by_cases hd : st' = .done
      · subst hd
        rw [readQ_done hs] at h
        cases h
        simp
        omega
      · rw [readQ_on hs hd] at h
        have := ih _ _ _ _ _ h
        simp at this ⊢
        omega

theorem piece_len (c : UInt8) (t : List UInt8) : (pieceP (c :: t) (sgnL (c :: t))).length ≤ 6 * goOn (sgnL (c :: t)) ∧ goOn (sgnL (c :: t)) ≤ (c :: t).length ∧ 1 ≤ goOn (sgnL (c :: t)) := by
  have hs := sgn_split (c :: t) 0 0 0 _ rfl
  generalize hn : sgnL (c :: t) = n
  have hs : n ≠ 0 → 0 < n ∧ n ≤ 0 + (c :: t).length := fun h => by rw [← hn] at h ⊢; exact hs h
  unfold pieceP goOn
  by_cases h0 : n = 0
  · subst h0
    simp [stranger]
  · have := hs h0
    simp only [if_neg h0]
    refine ⟨?_, by omega, by omega⟩
    (repeat' split) <;> simp <;> omega

theorem putGo_len (f : Nat) : ∀ l, (putGo f l).length ≤ 6 * l.length := by
  induction f with
  | zero => intro l; simp [putGo]
  | succ f ih =>
    intro l
    unfold putGo
    split
    · simp
    · cases l with
      | nil => contradiction
      | cons c t =>
        obtain ⟨h1, h2, h3⟩ := piece_len c t
        have := ih ((c :: t).drop (goOn (sgnL (c :: t))))
        rw [List.length_append]
        rw [List.length_drop] at this
        omega
theorem putL_len (l : List UInt8) : (putL l).length ≤ 6 * l.length := putGo_len _ l

end Go.Proofs.Ytaklbbkjhbkieaa

namespace Go.Proofs.Ytaklbbkjhbkieaa
open Go.RowKit

set_option maxRecDepth 100000 in
set_option maxHeartbeats 4000000 in
theorem rlet_34 (W : World) : Calls Try.prog 22 #[.int .u8 34] W fun e w' => e = .returned (.int .u8 34) ∧ Below W.heap.size W w' := by
  go_enter Try.func22, Try.ntmps22
  go_wp2
  refine wp_loop_rounds 9 ?_
  rw [rounds_succ]
  go_wp2
  go_ret
  exact ⟨rfl, below2 _ _ _⟩

set_option maxRecDepth 100000 in
set_option maxHeartbeats 4000000 in
theorem rlet_92 (W : World) : Calls Try.prog 22 #[.int .u8 92] W fun e w' => e = .returned (.int .u8 92) ∧ Below W.heap.size W w' := by
  go_enter Try.func22, Try.ntmps22
  go_wp2
  refine wp_loop_rounds 9 ?_
  rw [rounds_succ]
  go_wp2
  rw [rounds_succ]
  go_wp2
  go_ret
  exact ⟨rfl, below2 _ _ _⟩

set_option maxRecDepth 100000 in
set_option maxHeartbeats 4000000 in
theorem rlet_98 (W : World) : Calls Try.prog 22 #[.int .u8 98] W fun e w' => e = .returned (.int .u8 8) ∧ Below W.heap.size W w' := by
  go_enter Try.func22, Try.ntmps22
  go_wp2
  refine wp_loop_rounds 9 ?_
  rw [rounds_succ]
  go_wp2
  rw [rounds_succ]
  go_wp2
  rw [rounds_succ]
  go_wp2
  rw [rounds_succ]
  go_wp2
  go_ret
  exact ⟨rfl, below2 _ _ _⟩

set_option maxRecDepth 100000 in
set_option maxHeartbeats 4000000 in
theorem rlet_102 (W : World) : Calls Try.prog 22 #[.int .u8 102] W fun e w' => e = .returned (.int .u8 12) ∧ Below W.heap.size W w' := by
  go_enter Try.func22, Try.ntmps22
  go_wp2
  refine wp_loop_rounds 9 ?_
  rw [rounds_succ]
  go_wp2
  rw [rounds_succ]
  go_wp2
  rw [rounds_succ]
  go_wp2
  rw [rounds_succ]
  go_wp2
  rw [rounds_succ]
  go_wp2
  go_ret
  exact ⟨rfl, below2 _ _ _⟩

set_option maxRecDepth 100000 in
set_option maxHeartbeats 4000000 in
theorem rlet_110 (W : World) : Calls Try.prog 22 #[.int .u8 110] W fun e w' => e = .returned (.int .u8 10) ∧ Below W.heap.size W w' := by
  go_enter Try.func22, Try.ntmps22
  go_wp2
  refine wp_loop_rounds 9 ?_
  rw [rounds_succ]
  go_wp2
  rw [rounds_succ]
  go_wp2
  rw [rounds_succ]
  go_wp2
  rw [rounds_succ]
  go_wp2
  rw [rounds_succ]
  go_wp2
  rw [rounds_succ]
  go_wp2
  go_ret
  exact ⟨rfl, below2 _ _ _⟩

set_option maxRecDepth 100000 in
set_option maxHeartbeats 4000000 in
theorem rlet_114 (W : World) : Calls Try.prog 22 #[.int .u8 114] W fun e w' => e = .returned (.int .u8 13) ∧ Below W.heap.size W w' := by
  go_enter Try.func22, Try.ntmps22
  go_wp2
  refine wp_loop_rounds 9 ?_
  rw [rounds_succ]
  go_wp2
  rw [rounds_succ]
  go_wp2
  rw [rounds_succ]
  go_wp2
  rw [rounds_succ]
  go_wp2
  rw [rounds_succ]
  go_wp2
  rw [rounds_succ]
  go_wp2
  rw [rounds_succ]
  go_wp2
  go_ret
  exact ⟨rfl, below2 _ _ _⟩

set_option maxRecDepth 100000 in
set_option maxHeartbeats 4000000 in
theorem rlet_116 (W : World) : Calls Try.prog 22 #[.int .u8 116] W fun e w' => e = .returned (.int .u8 9) ∧ Below W.heap.size W w' := by
  go_enter Try.func22, Try.ntmps22
  go_wp2
  refine wp_loop_rounds 9 ?_
  rw [rounds_succ]
  go_wp2
  rw [rounds_succ]
  go_wp2
  rw [rounds_succ]
  go_wp2
  rw [rounds_succ]
  go_wp2
  rw [rounds_succ]
  go_wp2
  rw [rounds_succ]
  go_wp2
  rw [rounds_succ]
  go_wp2
  rw [rounds_succ]
  go_wp2
  go_ret
  exact ⟨rfl, below2 _ _ _⟩

theorem low_toNat (n : Nat) (h : n ≤ 15) : ((lowB n).toNat : Int) = if n < 10 then 48 + (n : Int) else 87 + n := by
  unfold lowB
  split
  · rw [UInt8.toNat_ofNat']; omega
  · rw [if_pos (by omega), UInt8.toNat_ofNat']; omega

set_option maxHeartbeats 400000 in
theorem rlowerN_any (n : Nat) (h : n ≤ 15) (w : World) : Calls Try.prog 23 #[.int .i64 n] w fun e w' => e = .returned (.int .u8 (lowB n).toNat) ∧ w = w' := by
  have hv := low_toNat n h
  by_cases h9 : n < 10
  · rw [if_pos h9] at hv
    have HV := Lib.hid hv
    clear hv
    have g1 : ¬ (10 : Int) ≤ n := by omega
    have g2 : (n : Int) ≤ 9 := by omega
    go_enter Try.func23, Try.ntmps23
    go_wp2
    go_ret
    exact ⟨ret_i HV.out.symm, rfl⟩
  · rw [if_neg h9] at hv
    have HV := Lib.hid hv
    clear hv
    have g1 : (10 : Int) ≤ n := by omega
    have g2 : (n : Int) ≤ 15 := by omega
    go_enter Try.func23, Try.ntmps23
    go_wp2
    go_ret
    exact ⟨ret_i HV.out.symm, rfl⟩

end Go.Proofs.Ytaklbbkjhbkieaa
