/- Small things that all layers' proofs use: a block of the call's own that is known whole; worlds that differ in one block and in new ones. -/
import Derived.Test.YthpkcapooeedeaaDoorRows
import Derived.WalkKit
import Derived.WalkSpells
import Derived.WalkLawsBesides
import Derived.BigQuiet
import Derived.Deep.QuietTactic
import Derived.Deep.Draws
import Derived.Lib.Hide
import Derived.Below
import Derived.Laws.Rows
import Derived.Outline
import Derived.Laws.BytesArg
namespace Go.Proofs.YthpkcapooeedeaaDoor
open Go.RowKit

theorem ret_i {k : IntKind} {a b : Int} (h : a = b) : Ending.returned (.int k a) = .returned (.int k b) := by rw [h]
theorem ret_b {a b : Bool} (h : a = b) : Ending.returned (.bool a) = .returned (.bool b) := by rw [h]

/-- Block b holds just these cells, and none of them is frozen. -/
def Own (w : World) (b : Nat) (t : TypeId) (cs : Array Value) : Prop := w.heap[b]? = some (.cells cs t (0, 0))

section
variable {w w' : World} {b : Nat} {t : TypeId} {cs : Array Value}
theorem Own.inside (h : Own w b t cs) : b < w.heap.size := by
  by_cases hb : b < w.heap.size
  · exact hb
  · unfold Own at h
    rw [Array.getElem?_eq_none (by omega)] at h
    cases h
theorem Own.at (h : Own w b t cs) (i : Nat) : w.cell? ⟨b, i, none⟩ = cs[i]? := cell_of_row w b i cs t (0, 0) h
theorem Own.free (h : Own w b t cs) (i : Nat) : w.frozen? ⟨b, i, none⟩ = false := by
  unfold Own at h
  simp [World.frozen?, h]
theorem Own.fresh (w : World) (t : TypeId) (cs : Array Value) : Own (w.alloc (.cells cs t)) w.heap.size t cs := by
  unfold Own
  show (w.heap.push _)[w.heap.size]? = _
  simp
theorem Own.over (h : Own w b t cs) (o : Obj) : Own (w.alloc o) b t cs := (Below.heap_alloc w o b h.inside).trans h
theorem Own.put (h : Own w b t cs) (i : Nat) (u : Value) : Own (w.setCell ⟨b, i, none⟩ u) b t (cs.setIfInBounds i u) := by
  unfold Own at h ⊢
  simp [World.setCell, Array.getElem?_modify, h]
theorem Own.past (h : Own w b t cs) {p : Addr} (hp : b ≠ p.block) (u : Value) : Own (w.setCell p u) b t cs := (Below.heap_setCell w p u b hp).trans h
theorem Own.stay {B : Nat} (h : Own w b t cs) (hb : Below B w w') (hB : b < B) : Own w' b t cs := (hb.block b hB).trans h
end

/-- Only block b, and what is new, may differ. -/
def Turned (b : Nat) (w w' : World) : Prop :=
  w'.os = w.os ∧ w'.tape = w.tape ∧ w'.output = w.output ∧ w.heap.size ≤ w'.heap.size ∧ ∀ k, k < w.heap.size → k ≠ b → w'.heap[k]? = w.heap[k]?

theorem Turned.refl (b : Nat) (w : World) : Turned b w w := ⟨rfl, rfl, rfl, Nat.le_refl _, fun _ _ _ => rfl⟩
theorem Turned.put {b : Nat} {a w : World} (h : Turned b a w) (i : Nat) (u : Value) : Turned b a (w.setCell ⟨b, i, none⟩ u) :=
  ⟨h.1, h.2.1, h.2.2.1, by simpa [World.setCell] using h.2.2.2.1, fun k hk hne => (Below.heap_setCell w ⟨b, i, none⟩ u k hne).trans (h.2.2.2.2 k hk hne)⟩
theorem Turned.below {b B : Nat} {w w' : World} (h : Turned b w w') (hB : B ≤ b) (hs : b ≤ w.heap.size) : Below B w w' :=
  ⟨h.1, h.2.1, h.2.2.1, h.2.2.2.1, fun k hk => h.2.2.2.2 k (by omega) (by omega)⟩
theorem Turned.of_below {b B : Nat} {w w' : World} (h : Below B w w') (hB : B = w.heap.size) : Turned b w w' :=
  ⟨h.os, h.tape, h.output, h.size, fun k hk _ => h.block k (by omega)⟩
theorem Turned.trans {b : Nat} {u v w : World} (h : Turned b u v) (g : Turned b v w) : Turned b u w :=
  ⟨g.1.trans h.1, g.2.1.trans h.2.1, g.2.2.1.trans h.2.2.1, Nat.le_trans h.2.2.2.1 g.2.2.2.1,
   fun k hk hne => (g.2.2.2.2 k (Nat.lt_of_lt_of_le hk h.2.2.2.1) hne).trans (h.2.2.2.2 k hk hne)⟩

end Go.Proofs.YthpkcapooeedeaaDoor

namespace Go.Proofs.YthpkcapooeedeaaDoor
open Go.RowKit

/-- Is it a digit? -/
def isDigitI (c : Int) : Bool := decide (48 ≤ c ∧ c ≤ 57)

/-- What a byte begins, by its number. -/
def kindI (c : Int) : Int :=
  if c = 32 then 1 else if c = 9 then 1 else if c = 10 then 1 else if c = 13 then 1 else
  if c = 91 then 2 else if c = 93 then 3 else if c = 123 then 4 else if c = 125 then 5 else
  if c = 44 then 6 else if c = 58 then 7 else if c = 34 then 8 else if c = 45 then 9 else
  if c = 116 then 10 else if c = 102 then 10 else if c = 110 then 10 else
  if isDigitI c then 9 else 0

/-- A small letter in the place of a capital one. -/
def smallI (c : Int) : Int := if 65 ≤ c ∧ c ≤ 90 then c + 32 else c

/-- Which number of 16. -/
def hexI (c : Int) : Int :=
  if 48 ≤ c ∧ c ≤ 57 then c - 48 else if 97 ≤ c ∧ c ≤ 102 then c - 87 else if 65 ≤ c ∧ c ≤ 70 then c - 55 else 0
def isHexI (c : Int) : Bool :=
  decide (48 ≤ c ∧ c ≤ 57) || decide (97 ≤ c ∧ c ≤ 102) || decide (65 ≤ c ∧ c ≤ 70)
def isAlphaI (c : Int) : Bool := decide (97 ≤ c ∧ c ≤ 122) || decide (65 ≤ c ∧ c ≤ 90)

theorem ret_int {k : IntKind} {a b : Int} (h : a = b) : Ending.returned (.int k a) = .returned (.int k b) := by rw [h]
theorem ret_bool {a b : Bool} (h : a = b) : Ending.returned (.bool a) = .returned (.bool b) := by rw [h]

/-- A number's sign. -/
def lowI (n : Int) : Int := if 0 ≤ n ∧ n ≤ 9 then n + 48 else if 10 ≤ n ∧ n ≤ 15 then n + 87 else 48

set_option maxHeartbeats 400000 in
theorem digit_any (c : Int) (w : World) :
    Calls Tryd.prog 78 #[.int .u8 c] w fun e w' => e = .returned (.bool (isDigitI c)) ∧ w = w' := by
  by_cases h1 : 48 ≤ c <;> by_cases h2 : c ≤ 57
  all_goals
    go_enter Tryd.func78, Tryd.ntmps78
    go_wp2
    go_ret
    exact ⟨by simp [isDigitI, h1, h2], rfl⟩

set_option maxHeartbeats 400000 in
theorem alpha_any (c : Int) (w : World) :
    Calls Tryd.prog 92 #[.int .u8 c] w fun e w' => e = .returned (.bool (isAlphaI c)) ∧ w = w' := by
  by_cases h1 : 97 ≤ c <;> by_cases h2 : c ≤ 122 <;> by_cases h3 : 65 ≤ c <;> by_cases h4 : c ≤ 90
  all_goals
    go_enter Tryd.func92, Tryd.ntmps92
    go_wp2
    go_ret
    exact ⟨by simp [isAlphaI, h1, h2, h3, h4], rfl⟩

set_option maxHeartbeats 400000 in
theorem small_any (c : Int) (w : World) (h0 : 0 ≤ c) (h9 : c ≤ 255) :
    Calls Tryd.prog 96 #[.int .u8 c] w fun e w' => e = .returned (.int .u8 (smallI c)) ∧ w = w' := by
  by_cases h1 : 65 ≤ c <;> by_cases h2 : c ≤ 90
  all_goals
    go_enter Tryd.func96, Tryd.ntmps96
    go_wp2
    go_ret
    exact ⟨by simp [smallI, h1, h2]; try omega, rfl⟩

set_option maxHeartbeats 1000000 in
theorem kind_any (c : Int) (w : World) :
    Calls Tryd.prog 62 #[.int .u8 c] w fun e w' => e = .returned (.int .i64 (kindI c)) ∧ w = w' := by
  go_enter Tryd.func62, Tryd.ntmps62
  go_wp2_with (go_at_call 78; refine (digit_any _ _).mono ?_; rintro e w' ⟨rfl, rfl⟩)
  all_goals
    go_ret
    exact ⟨ret_int (by simp_all [kindI]), rfl⟩

theorem hex_hit (c : Int) (k : Nat) (hk : k < 16) (h : smallI c = lowI k) : hexI c = k ∧ isHexI c = true := by
  unfold smallI lowI at h
  unfold hexI isHexI
  split at h <;> split at h <;> (try split at h) <;>
    first
      | (refine ⟨?_, ?_⟩; (repeat' split) <;> omega; simp; omega)
      | omega

/-- No sign among the first k ones is this one. -/
def NoneOf (s : Int) (k : Nat) : Prop := ∀ j : Nat, j < k → s ≠ lowI j

theorem noneOf_zero (s : Int) : NoneOf s 0 := fun _ h => absurd h (by omega)
theorem noneOf_succ {s : Int} {k : Nat} (h : NoneOf s k) (e : s ≠ lowI k) : NoneOf s (k + 1) := by
  intro j hj
  by_cases hjk : j = k
  · subst hjk; exact e
  · exact h j (by omega)

theorem hit_of {s c : Int} {k : Nat} (_ : NoneOf s k) (H : ∀ k : Nat, k < 16 → s = lowI k → hexI c = k ∧ isHexI c = true) (hk : k < 16) (h : s = lowI k) :
    hexI c = k ∧ isHexI c = true := H k hk h

theorem hex_miss (c : Int) (h : NoneOf (smallI c) 16) : hexI c = 0 ∧ isHexI c = false := by
  have g : ∀ j : Nat, j < 16 → c ≠ lowI j ∧ (65 ≤ c ∧ c ≤ 90 → c + 32 ≠ lowI j) := by
    intro j hj
    have := h j hj
    unfold smallI at this
    split at this
    · exact ⟨by unfold lowI; split <;> (try split) <;> omega, fun _ => this⟩
    · exact ⟨this, fun hh => absurd hh ‹_›⟩
  have g1 : ¬ (48 ≤ c ∧ c ≤ 57) := by
    intro hh
    obtain ⟨k, rfl⟩ := Int.eq_ofNat_of_zero_le (show 0 ≤ c by omega)
    have := (g (k - 48) (by omega)).1
    unfold lowI at this
    rw [if_pos (by omega)] at this
    omega
  have g2 : ¬ (97 ≤ c ∧ c ≤ 102) := by
    intro hh
    obtain ⟨k, rfl⟩ := Int.eq_ofNat_of_zero_le (show 0 ≤ c by omega)
    have := (g (k - 87) (by omega)).1
    unfold lowI at this
    rw [if_neg (by omega), if_pos (by omega)] at this
    omega
  have g3 : ¬ (65 ≤ c ∧ c ≤ 70) := by
    intro hh
    obtain ⟨k, rfl⟩ := Int.eq_ofNat_of_zero_le (show 0 ≤ c by omega)
    have := (g (k - 55) (by omega)).2 (by omega)
    unfold lowI at this
    rw [if_neg (by omega), if_pos (by omega)] at this
    omega
  unfold hexI isHexI
  rw [if_neg g1, if_neg g2, if_neg g3]
  simp [g1, g2, g3]

theorem ret_two {k : IntKind} {a b : Int} {x y : Bool} (h : a = b) (g : x = y) :
    Ending.returned (.tuple #[.int k a, .bool x]) = .returned (.tuple #[.int k b, .bool y]) := by rw [h, g]

set_option maxHeartbeats 1000000 in
theorem hex_any (c : Int) (w : World) (h0 : 0 ≤ c) (h9 : c ≤ 255) :
    Calls Tryd.prog 84 #[.int .u8 c] w fun e w' => e = .returned (.tuple #[.int .i64 (hexI c), .bool (isHexI c)]) ∧ w = w' := by
  go_enter Tryd.func84, Tryd.ntmps84
  go_wp2_with (go_at_call 96; refine (small_any _ _ (by omega) (by omega)).mono ?_; rintro e w' ⟨rfl, rfl⟩)
  have hm : ∀ s : Int, s = smallI c → (∀ k : Nat, k < 16 → s = lowI k → hexI c = k ∧ isHexI c = true) ∧ (NoneOf s 16 → hexI c = 0 ∧ isHexI c = false) := by
    rintro s rfl
    exact ⟨fun k hk h => hex_hit c k hk h, fun h => hex_miss c h⟩
  generalize hs : smallI c = s
  obtain ⟨hh, hn⟩ := hm s hs.symm
  clear hm hs
  have HH := Lib.hid hh
  have HN := Lib.hid hn
  clear hh hn
  go_loop [8] (fun i => ∃ k : Nat, k ≤ 16 ∧ i = .int .i64 k ∧ NoneOf s k) (fun i => 16 - (intOf i).toNat)
  case atStart => exact ⟨0, by omega, rfl, noneOf_zero s⟩
  case round =>
    obtain ⟨k, hk, rfl, hno⟩ := hrel
    by_cases hlt : k < 16
    · have hk : k = 0 ∨ k = 1 ∨ k = 2 ∨ k = 3 ∨ k = 4 ∨ k = 5 ∨ k = 6 ∨ k = 7 ∨ k = 8 ∨ k = 9 ∨ k = 10 ∨ k = 11 ∨ k = 12 ∨ k = 13 ∨ k = 14 ∨ k = 15 := by omega
      rcases hk with rfl | rfl | rfl | rfl | rfl | rfl | rfl | rfl | rfl | rfl | rfl | rfl | rfl | rfl | rfl | rfl
      all_goals
        go_wp2
        · rename_i h _
          have g := hit_of hno HH.out (by omega) (beq_iff_eq.1 h)
          go_ret2
          exact ⟨ret_two g.1.symm g.2.symm, rfl⟩
        · rename_i h
          have g := noneOf_succ hno (beq_eq_false_iff_ne.1 h)
          go_round
          case rel => exact ⟨_, Nat.succ_le_of_lt hlt, rfl, g⟩
          case measure => simp [intOf]
    · obtain rfl : k = 16 := by omega
      go_wp2
      go_ret2
      have g := HN.out hno
      exact ⟨ret_two g.1.symm g.2.symm, rfl⟩

end Go.Proofs.YthpkcapooeedeaaDoor

namespace Go.Proofs.YthpkcapooeedeaaDoor
open Go.RowKit

def isBlankI (c : Int) : Bool := decide (c = 32) || decide (c = 9) || decide (c = 10) || decide (c = 13)

theorem ret_two' {k : IntKind} {a b : Int} {x y : Bool} (h : a = b) (g : x = y) :
    Ending.returned (.tuple #[.int k a, .bool x]) = .returned (.tuple #[.int k b, .bool y]) := by rw [h, g]

end Go.Proofs.YthpkcapooeedeaaDoor

namespace Go.Proofs.YthpkcapooeedeaaDoor

/-- The bytes of a string, as numbers. -/
def nums (l : List UInt8) : List Int := l.map fun c => (c.toNat : Int)

def lowU (sg lf : Int) : Int := if lf = 2 ∧ sg = 0 then 160 else if lf = 3 ∧ sg = 0 then 144 else 128
def highU (sg lf : Int) : Int := if lf = 2 ∧ sg = 13 then 159 else if lf = 3 ∧ sg = 4 then 143 else 191
/-- May the byte come next? -/
def okU (sg lf c : Int) : Bool := if lf = 0 then decide (c < 128 ∨ 194 ≤ c ∧ c < 245) else decide (lowU sg lf ≤ c ∧ c ≤ highU sg lf)
def sgU (sg lf c : Int) : Int := if lf = 0 then (if c < 128 then c else if c < 224 then c - 192 else if c < 240 then c - 224 else c - 240) else sg * 64 + (c - 128)
def lfU (lf c : Int) : Int := if lf = 0 then (if c < 128 then 0 else if c < 224 then 1 else if c < 240 then 2 else 3) else lf - 1

/-- The states that a walk comes to. -/
def StU (sg lf : Int) : Prop := 0 ≤ sg ∧ (lf = 0 ∧ sg ≤ 1114111 ∨ lf = 1 ∧ sg ≤ 17407 ∨ lf = 2 ∧ sg ≤ 271 ∨ lf = 3 ∧ sg ≤ 4)

theorem stU_zero : StU 0 0 := by unfold StU; omega
theorem okU_zero {sg c : Int} (h : okU sg 0 c = true) : c < 128 ∨ 194 ≤ c ∧ c < 245 := by
  unfold okU at h
  rw [if_pos rfl] at h
  exact of_decide_eq_true h
theorem okU_more {sg lf c : Int} (hl : lf ≠ 0) (h : okU sg lf c = true) : lowU sg lf ≤ c ∧ c ≤ highU sg lf := by
  unfold okU at h
  rw [if_neg hl] at h
  exact of_decide_eq_true h
theorem lowU_in (sg lf : Int) : 128 ≤ lowU sg lf ∧ lowU sg lf ≤ 160 := by unfold lowU; (repeat' split) <;> omega
theorem highU_in (sg lf : Int) : 143 ≤ highU sg lf ∧ highU sg lf ≤ 191 := by unfold highU; (repeat' split) <;> omega
theorem okU_bd {sg lf c : Int} (hl : lf ≠ 0) (h : okU sg lf c = true) : 128 ≤ c ∧ c ≤ 191 := by
  have := okU_more hl h
  have := lowU_in sg lf
  have := highU_in sg lf
  omega

theorem stU_step {sg lf c : Int} (h : StU sg lf) (h0 : 0 ≤ c) (hk : okU sg lf c = true) : StU (sgU sg lf c) (lfU lf c) := by
  by_cases hl : lf = 0
  · subst hl
    have := okU_zero hk
    unfold StU sgU lfU
    simp only [if_true]
    repeat' split
    all_goals omega
  · have := okU_more hl hk
    have g := okU_bd hl hk
    have e1 : sgU sg lf c = sg * 64 + (c - 128) := by unfold sgU; rw [if_neg hl]
    have e2 : lfU lf c = lf - 1 := by unfold lfU; rw [if_neg hl]
    have e3 : lf = 3 ∧ sg = 4 → highU sg lf = 143 := by rintro ⟨rfl, rfl⟩; rfl
    rw [e1, e2]
    unfold StU at h ⊢
    omega

/-- Where a text isn't UTF-8, from a state on. -/
def runU : Int → Int → List UInt8 → Int → Int
  | _, lf, [], k => if 0 < lf then k else -1
  | sg, lf, c :: l, k => if okU sg lf c.toNat then runU (sgU sg lf c.toNat) (lfU lf c.toNat) l (k + 1) else k
def badU (l : List UInt8) : Int := runU 0 0 l 0

end Go.Proofs.YthpkcapooeedeaaDoor

namespace Go.Proofs.YthpkcapooeedeaaDoor
open Go.RowKit

set_option maxHeartbeats 400000 in
theorem within_any (b : Nat) (sg lf : Int) (w : World) (h : Own w b 69 #[.int .i32 sg, .int .i64 lf]) :
    Calls Tryd.prog 79 #[.pointer (some ⟨b, 0, none⟩)] w fun e w' => e = .returned (.bool (decide (0 < lf))) ∧ w = w' := by
  have c1 := h.at 1
  simp at c1
  go_enter Tryd.func79, Tryd.ntmps79
  go_wp2
  go_ret
  exact ⟨rfl, rfl⟩

set_option maxHeartbeats 400000 in
theorem sign_any (b : Nat) (sg lf : Int) (w : World) (h : Own w b 69 #[.int .i32 sg, .int .i64 lf]) :
    Calls Tryd.prog 82 #[.pointer (some ⟨b, 0, none⟩)] w fun e w' => e = .returned (.int .i32 (if 0 < lf then 0 else sg)) ∧ w = w' := by
  have c0 := h.at 0
  have c1 := h.at 1
  simp at c0 c1
  by_cases hl : 0 < lf
  all_goals
    go_enter Tryd.func82, Tryd.ntmps82
    go_wp2_with (go_at_call 79; refine (within_any _ _ _ _ h).mono ?_; rintro e w' ⟨rfl, rfl⟩)
    go_ret
    exact ⟨rfl, rfl⟩

set_option maxHeartbeats 1000000 in
theorem next_any (b : Nat) (sg lf : Int) (w : World) (h : Own w b 69 #[.int .i32 sg, .int .i64 lf]) :
    Calls Tryd.prog 94 #[.pointer (some ⟨b, 0, none⟩)] w fun e w' => e = .returned (.tuple #[.int .u8 (lowU sg lf), .int .u8 (highU sg lf)]) ∧ w = w' := by
  have c0 := h.at 0
  have c1 := h.at 1
  simp at c0 c1
  by_cases h2 : lf = 2
  · subst h2
    by_cases h0 : sg = 0
    · subst h0
      go_enter Tryd.func94, Tryd.ntmps94
      go_wp2
      go_ret2
      exact ⟨rfl, rfl⟩
    · have e0 : (sg == 0) = false := beq_eq_false_iff_ne.2 h0
      by_cases h13 : sg = 13
      · subst h13
        go_enter Tryd.func94, Tryd.ntmps94
        go_wp2
        go_ret2
        exact ⟨rfl, rfl⟩
      · have e13 : (sg == 13) = false := beq_eq_false_iff_ne.2 h13
        go_enter Tryd.func94, Tryd.ntmps94
        go_wp2
        go_ret2
        exact ⟨by simp [lowU, highU, h0, h13], rfl⟩
  · have e2 : (lf == 2) = false := beq_eq_false_iff_ne.2 h2
    by_cases h3 : lf = 3
    · subst h3
      by_cases h0 : sg = 0
      · subst h0
        go_enter Tryd.func94, Tryd.ntmps94
        go_wp2
        go_ret2
        exact ⟨rfl, rfl⟩
      · have e0 : (sg == 0) = false := beq_eq_false_iff_ne.2 h0
        by_cases h4 : sg = 4
        · subst h4
          go_enter Tryd.func94, Tryd.ntmps94
          go_wp2
          go_ret2
          exact ⟨rfl, rfl⟩
        · have e4 : (sg == 4) = false := beq_eq_false_iff_ne.2 h4
          go_enter Tryd.func94, Tryd.ntmps94
          go_wp2
          go_ret2
          exact ⟨by simp [lowU, highU, h0, h4], rfl⟩
    · have e3 : (lf == 3) = false := beq_eq_false_iff_ne.2 h3
      go_enter Tryd.func94, Tryd.ntmps94
      go_wp2
      go_ret2
      exact ⟨by simp [lowU, highU, h2, h3], rfl⟩

theorem two_put {w : World} {b : Nat} {t : Nat} {x y u v : Value} (h : Own w b t #[x, y]) :
    Own ((w.setCell ⟨b, 0, none⟩ u).setCell ⟨b, 1, none⟩ v) b t #[u, v] ∧ Turned b w ((w.setCell ⟨b, 0, none⟩ u).setCell ⟨b, 1, none⟩ v) :=
  ⟨by simpa using (h.put 0 u).put 1 v, ((Turned.refl b w).put 0 u).put 1 v⟩

theorem own_eq {w : World} {b : Nat} {t : Nat} {k1 k2 : IntKind} {a a' c c' : Int} (h : Own w b t #[.int k1 a, .int k2 c]) (e : a = a') (f : c = c') : Own w b t #[.int k1 a', .int k2 c'] := by
  subst e f; exact h

set_option maxHeartbeats 1000000 in
theorem begin_yes (b : Nat) (c sg lf : Int) (w : World) (h : Own w b 69 #[.int .i32 sg, .int .i64 lf]) (h0 : 0 ≤ c) (hk : c < 128 ∨ 194 ≤ c ∧ c < 245) :
    Calls Tryd.prog 93 #[.pointer (some ⟨b, 0, none⟩), .int .u8 c] w fun e w' => e = .returned (.bool true) ∧ Own w' b 69 #[.int .i32 (sgU sg 0 c), .int .i64 (lfU 0 c)] ∧ Turned b w w' := by
  have c0 := h.at 0
  have c1 := h.at 1
  have f0 := h.free 0
  have f1 := h.free 1
  simp at c0 c1
  have hh : (c < 128) ∨ (194 ≤ c ∧ c < 224) ∨ (224 ≤ c ∧ c < 240) ∨ (240 ≤ c ∧ c < 245) := by omega
  rcases hh with hh | ⟨h1, h2⟩ | ⟨h1, h2⟩ | ⟨h1, h2⟩
  all_goals
    go_enter Tryd.func93, Tryd.ntmps93
    go_wp2
    go_ret
    refine ⟨rfl, ?_, (two_put h).2⟩
    refine own_eq (two_put h).1 ?_ ?_ <;> simp [sgU, lfU] <;> (repeat' split) <;> omega

set_option maxHeartbeats 1000000 in
theorem begin_no (b : Nat) (c : Int) (w : World) (hk : ¬ (c < 128 ∨ 194 ≤ c ∧ c < 245)) :
    Calls Tryd.prog 93 #[.pointer (some ⟨b, 0, none⟩), .int .u8 c] w fun e w' => e = .returned (.bool false) ∧ w = w' := by
  have hh : (128 ≤ c ∧ c < 194) ∨ 245 ≤ c := by omega
  clear hk
  rcases hh with ⟨h1, h2⟩ | h1
  all_goals
    go_enter Tryd.func93, Tryd.ntmps93
    go_wp2
    go_ret
    exact ⟨rfl, rfl⟩

set_option maxHeartbeats 1000000 in
theorem step_yes (b : Nat) (c sg lf : Int) (w : World) (h : Own w b 69 #[.int .i32 sg, .int .i64 lf]) (hs : StU sg lf) (h0 : 0 ≤ c) (hk : okU sg lf c = true) :
    Calls Tryd.prog 80 #[.pointer (some ⟨b, 0, none⟩), .int .u8 c] w fun e w' => e = .returned (.bool true) ∧ Own w' b 69 #[.int .i32 (sgU sg lf c), .int .i64 (lfU lf c)] ∧ Turned b w w' := by
  have c0 := h.at 0
  have c1 := h.at 1
  have f0 := h.free 0
  have f1 := h.free 1
  simp at c0 c1
  by_cases hl : lf = 0
  · subst hl
    have hk' := okU_zero hk
    clear hk
    have HB := Lib.hid (begin_yes b c sg 0 w h h0 hk')
    clear hk'
    go_enter Tryd.func80, Tryd.ntmps80
    go_wp2_with (go_at_call 93; refine HB.out.mono ?_; rintro e w' ⟨rfl, hb⟩)
    go_ret
    exact ⟨rfl, hb⟩
  · have el : (lf == 0) = false := beq_eq_false_iff_ne.2 hl
    have e1 : sgU sg lf c = sg * 64 + (c - 128) := by unfold sgU; rw [if_neg hl]
    have e2 : lfU lf c = lf - 1 := by unfold lfU; rw [if_neg hl]
    rw [e1, e2]
    obtain ⟨hk1, hk2⟩ := okU_more hl hk
    obtain ⟨hk3, hk4⟩ := okU_bd hl hk
    have g1 := lowU_in sg lf
    have g2 := highU_in sg lf
    have s0 : 0 ≤ sg := hs.1
    have s9 : sg ≤ 17407 := by unfold StU at hs; omega
    have l0 : 1 ≤ lf := by unfold StU at hs; omega
    have l9 : lf ≤ 3 := by unfold StU at hs; omega
    clear hs hk hl e1 e2
    have HN := Lib.hid (next_any b sg lf w h)
    generalize lowU sg lf = lo at *
    generalize highU sg lf = hi at *
    go_enter Tryd.func80, Tryd.ntmps80
    go_wp2_with (go_at_call 94; refine HN.out.mono ?_; rintro e w' ⟨rfl, rfl⟩)
    go_ret
    refine ⟨rfl, own_eq (two_put h).1 (by omega) rfl, (two_put h).2⟩

set_option maxHeartbeats 1000000 in
theorem step_no (b : Nat) (c sg lf : Int) (w : World) (h : Own w b 69 #[.int .i32 sg, .int .i64 lf]) (hk : okU sg lf c = false) :
    Calls Tryd.prog 80 #[.pointer (some ⟨b, 0, none⟩), .int .u8 c] w fun e w' => e = .returned (.bool false) ∧ w = w' := by
  have c0 := h.at 0
  have c1 := h.at 1
  simp at c0 c1
  by_cases hl : lf = 0
  · subst hl
    have hk' : ¬ (c < 128 ∨ 194 ≤ c ∧ c < 245) := by
      unfold okU at hk
      rw [if_pos rfl] at hk
      exact of_decide_eq_false hk
    clear hk
    have HB := Lib.hid (begin_no b c w hk')
    clear hk'
    go_enter Tryd.func80, Tryd.ntmps80
    go_wp2_with (go_at_call 93; refine HB.out.mono ?_; rintro e w' ⟨rfl, rfl⟩)
    go_ret
    exact ⟨rfl, rfl⟩
  · have el : (lf == 0) = false := beq_eq_false_iff_ne.2 hl
    have hk' : ¬ (lowU sg lf ≤ c ∧ c ≤ highU sg lf) := by
      unfold okU at hk
      rw [if_neg hl] at hk
      exact of_decide_eq_false hk
    clear hk
    have HN := Lib.hid (next_any b sg lf w h)
    generalize lowU sg lf = lo at *
    generalize highU sg lf = hi at *
    by_cases hlo : c < lo
    · clear hk' hl
      go_enter Tryd.func80, Tryd.ntmps80
      go_wp2_with (go_at_call 94; refine HN.out.mono ?_; rintro e w' ⟨rfl, rfl⟩)
      go_ret
      exact ⟨rfl, rfl⟩
    · have hhi : hi < c := by omega
      have hlo' : lo ≤ c := by omega
      clear hk' hl hlo
      go_enter Tryd.func80, Tryd.ntmps80
      go_wp2_with (go_at_call 94; refine HN.out.mono ?_; rintro e w' ⟨rfl, rfl⟩)
      go_ret
      exact ⟨rfl, rfl⟩

theorem runU_cons (sg lf : Int) (l : List UInt8) (k : Nat) (h : k < l.length) (n : Int) :
    runU sg lf (l.drop k) n = if okU sg lf l[k].toNat then runU (sgU sg lf l[k].toNat) (lfU lf l[k].toNat) (l.drop (k + 1)) (n + 1) else n := by
  rw [List.drop_eq_getElem_cons h]; rfl

/-- Where Bad's loop is. -/
def RelBad (s : ByteArray) (W wr : World) (i : Value) : Prop :=
  ∃ (k : Nat) (sg lf : Int), k ≤ s.size ∧ i = .int .i64 k ∧ StU sg lf ∧ Own wr W.heap.size 69 #[.int .i32 sg, .int .i64 lf] ∧ Below W.heap.size W wr ∧ badU s.data.toList = runU sg lf (s.data.toList.drop k) k

end Go.Proofs.YthpkcapooeedeaaDoor

namespace Go.Proofs.YthpkcapooeedeaaDoor
open Go.RowKit

/-- How many bytes a sign has that begins so. -/
def sizeR (c : Int) : Int := if c < 128 then 1 else if 192 ≤ c ∧ c < 224 then 2 else if 224 ≤ c ∧ c < 240 then 3 else if 240 ≤ c ∧ c < 248 then 4 else 0

/-- The number of as many bytes as its first one tells. -/
def baseR (n : Nat) : Int := if n = 2 then 192 else if n = 3 then 224 else if n = 4 then 240 else 0
def moreR (n : Int) (l : List UInt8) : Int := l.foldl (fun n c => n * 64 + c.toNat - 128) n
def numR (l : List UInt8) : Int := match l with
  | [] => 0
  | c :: t => moreR (c.toNat - baseR l.length) t


theorem byte_le (s : ByteArray) (k : Nat) (h : k < s.size) : 0 ≤ (s[k].toNat : Int) ∧ (s[k].toNat : Int) ≤ 255 := by
  have := UInt8.toNat_lt s[k]
  omega

theorem moreR_snoc (n : Int) (l : List UInt8) (k : Nat) (h : k < l.length) : moreR n (l.take (k + 1)) = moreR n (l.take k) * 64 + l[k].toNat - 128 := by
  rw [List.take_succ_eq_append_getElem h]
  unfold moreR
  rw [List.foldl_append]
  rfl

/-- The number behind k bytes. -/
def upR (s : ByteArray) (k : Nat) : Int := moreR ((s.data.toList.headD 0).toNat - baseR s.size) ((s.data.toList.take k).drop 1)
def bN (k : Nat) : Int := if k ≤ 1 then 256 else if k = 2 then 16640 else if k = 3 then 1081600 else 70304000
theorem bN_up (k : Nat) (h : 1 ≤ k) (h4 : k < 4) : bN k * 64 + 128 ≤ bN (k + 1) ∧ 0 ≤ bN k ∧ bN k ≤ 70304000 := by
  have : k = 1 ∨ k = 2 ∨ k = 3 := by omega
  rcases this with rfl | rfl | rfl <;> decide

theorem upR_one (s : ByteArray) (h : 0 < s.size) : upR s 1 = s[0].toNat - baseR s.size := by
  unfold upR
  have : (s.data.toList.take 1).drop 1 = [] := by
    apply List.drop_of_length_le
    simp
    omega
  rw [this]
  have h0 : s.data.toList.headD 0 = s[0] := by
    have : 0 < s.data.toList.length := h
    cases hl : s.data.toList with
    | nil => rw [hl] at this; simp at this
    | cons a t =>
      have : s.data.toList[0] = a := by simp [hl]
      exact this.symm
  rw [h0]; rfl

theorem upR_more (s : ByteArray) (k : Nat) (h1 : 1 ≤ k) (h : k < s.size) : upR s (k + 1) = upR s k * 64 + s[k].toNat - 128 := by
  unfold upR
  have hk : k < s.data.toList.length := h
  rw [List.take_succ_eq_append_getElem hk, List.drop_append_of_le_length (by simp; omega)]
  unfold moreR
  rw [List.foldl_append]
  rfl

theorem upR_all (s : ByteArray) (h : 0 < s.size) : upR s s.size = numR s.data.toList := by
  unfold upR
  have hl : 0 < s.data.toList.length := h
  have e : s.data.toList.take s.size = s.data.toList := List.take_of_length_le (Nat.le_refl _)
  have es : s.size = s.data.toList.length := rfl
  rw [e, es]
  cases hc : s.data.toList with
  | nil => rw [hc] at hl; simp at hl
  | cons a t => rfl

def RelNum (s : ByteArray) (n i : Value) : Prop :=
  ∃ k : Nat, 1 ≤ k ∧ k ≤ s.size ∧ i = .int .i64 k ∧ n = .int .i64 (upR s k) ∧ -bN k ≤ upR s k ∧ upR s k ≤ bN k

def contR (l : List UInt8) : Bool := l.all fun c => decide (128 ≤ c.toNat ∧ c.toNat ≤ 191)
def leastR (n : Nat) : Int := if n = 2 then 128 else if n = 3 then 2048 else if n = 4 then 65536 else 0
def padR (l : List UInt8) (n : Nat) (c : UInt8) : List UInt8 := l ++ List.replicate (n - l.length) c
/-- The answer behind the bytes' looks: from the lowest and the topmost number. -/
def endR (m n : Nat) (a b : Int) : Bool × Bool × Int :=
  if b < leastR n ∨ 1114111 < a ∨ (55296 ≤ a ∧ b ≤ 57343) then (false, false, 0) else if m = n then (true, true, a) else (true, false, 0)
def begR (l : List UInt8) : Bool × Bool × Int := match l with
  | [] => (true, false, 0)
  | c :: t =>
    if sizeR c.toNat = 0 ∨ sizeR c.toNat < (c :: t).length then (false, false, 0) else
    if contR t then endR (c :: t).length (sizeR c.toNat).toNat (numR (padR (c :: t) (sizeR c.toNat).toNat 128)) (numR (padR (c :: t) (sizeR c.toNat).toNat 191)) else (false, false, 0)

/-- The first k bytes but the first one go on within a sign. -/
def ContTo (s : ByteArray) (k : Nat) : Prop := contR ((s.data.toList.take k).drop 1) = true
theorem contTo_one (s : ByteArray) : ContTo s 1 := by
  unfold ContTo
  have : (s.data.toList.take 1).drop 1 = [] := by
    apply List.drop_of_length_le
    simp
    omega
  rw [this]; rfl
theorem cont_snoc (s : ByteArray) (k : Nat) (h1 : 1 ≤ k) (h : k < s.size) : contR ((s.data.toList.take (k + 1)).drop 1) = (contR ((s.data.toList.take k).drop 1) && decide (128 ≤ s[k].toNat ∧ s[k].toNat ≤ 191)) := by
  have hk : k < s.data.toList.length := h
  rw [List.take_succ_eq_append_getElem hk, List.drop_append_of_le_length (by simp; omega)]
  unfold contR
  rw [List.all_append]
  simp
  rfl
def RelCont (s : ByteArray) (i : Value) : Prop := ∃ k : Nat, 1 ≤ k ∧ k ≤ s.size ∧ i = .int .i64 k ∧ ContTo s k

theorem cont_no (l : List UInt8) : ∀ k, contR ((l.take k).drop 1) = false → contR (l.drop 1) = false := by
  intro k h
  have e : l.drop 1 = (l.take k).drop 1 ++ ((l.drop 1).drop (k - 1)) := by
    cases l with
    | nil => simp
    | cons a t =>
      cases k with
      | zero => simp [contR] at h
      | succ k => simp
  rw [e]
  unfold contR at h ⊢
  rw [List.all_append, h]; rfl

end Go.Proofs.YthpkcapooeedeaaDoor

namespace Go.Proofs.YthpkcapooeedeaaDoor

/-- The bytes since the last sign's end, and the state that they lead to. -/
def InvL (l : List UInt8) (sg lf : Int) : Prop := match l with
  | [] => lf = 0
  | [a] => (194 ≤ a.toNat ∧ a.toNat ≤ 223 ∧ lf = 1 ∧ sg = a.toNat - 192) ∨ (224 ≤ a.toNat ∧ a.toNat ≤ 239 ∧ lf = 2 ∧ sg = a.toNat - 224) ∨ (240 ≤ a.toNat ∧ a.toNat ≤ 244 ∧ lf = 3 ∧ sg = a.toNat - 240)
  | [a, b] => 128 ≤ b.toNat ∧ b.toNat ≤ 191 ∧ ((224 ≤ a.toNat ∧ a.toNat ≤ 239 ∧ lf = 1 ∧ sg = (a.toNat - 224) * 64 + b.toNat - 128 ∧ 32 ≤ sg ∧ (sg < 864 ∨ 896 ≤ sg)) ∨ (240 ≤ a.toNat ∧ a.toNat ≤ 244 ∧ lf = 2 ∧ sg = (a.toNat - 240) * 64 + b.toNat - 128 ∧ 16 ≤ sg ∧ sg ≤ 271))
  | [a, b, c] => 128 ≤ b.toNat ∧ b.toNat ≤ 191 ∧ 128 ≤ c.toNat ∧ c.toNat ≤ 191 ∧ 240 ≤ a.toNat ∧ a.toNat ≤ 244 ∧ lf = 1 ∧ sg = ((a.toNat - 240) * 64 + b.toNat - 128) * 64 + c.toNat - 128 ∧ 1024 ≤ sg ∧ sg ≤ 17407
  | _ => False

theorem begR_val (c : UInt8) (t : List UInt8) (n : Nat) (hn : sizeR c.toNat = n) (h1 : 1 ≤ n) (h : (c :: t).length ≤ n) :
    begR (c :: t) = if contR t then endR (c :: t).length n (numR (padR (c :: t) n 128)) (numR (padR (c :: t) n 191)) else (false, false, 0) := by
  show (if sizeR c.toNat = 0 ∨ sizeR c.toNat < (c :: t).length then (false, false, 0) else
    if contR t then endR (c :: t).length (sizeR c.toNat).toNat (numR (padR (c :: t) (sizeR c.toNat).toNat 128)) (numR (padR (c :: t) (sizeR c.toNat).toNat 191)) else (false, false, 0)) = _
  rw [if_neg (by rw [hn]; omega), hn]
  rfl

theorem sizeR_2 {c : Int} (h : 192 ≤ c) (h' : c < 224) : sizeR c = (2 : Nat) := by unfold sizeR; (repeat' split) <;> omega
theorem sizeR_3 {c : Int} (h : 224 ≤ c) (h' : c < 240) : sizeR c = (3 : Nat) := by unfold sizeR; (repeat' split) <;> omega
theorem sizeR_4 {c : Int} (h : 240 ≤ c) (h' : c < 248) : sizeR c = (4 : Nat) := by unfold sizeR; (repeat' split) <;> omega
theorem sizeR_1 {c : Int} (h' : c < 128) : sizeR c = (1 : Nat) := by unfold sizeR; (repeat' split) <;> omega
theorem sizeR_0 {c : Int} (h : 128 ≤ c ∧ c < 192 ∨ 248 ≤ c) : sizeR c = 0 := by unfold sizeR; (repeat' split) <;> omega
theorem begR_zero (c : UInt8) (t : List UInt8) (h : sizeR c.toNat = 0) : begR (c :: t) = (false, false, 0) := by
  show (if sizeR c.toNat = 0 ∨ sizeR c.toNat < (c :: t).length then (false, false, 0) else
    if contR t then endR (c :: t).length (sizeR c.toNat).toNat (numR (padR (c :: t) (sizeR c.toNat).toNat 128)) (numR (padR (c :: t) (sizeR c.toNat).toNat 191)) else (false, false, 0)) = _
  rw [if_pos (.inl h)]

/-- What the walk's step answers, as Begins says it. -/
def ansU (sg lf c : Int) : Bool × Bool × Int :=
  if okU sg lf c then (if lfU lf c = 0 then (true, true, sgU sg lf c) else (true, false, 0)) else (false, false, 0)

theorem ans_end {m n : Nat} {a b sg lf c : Int} (hr : (b < leastR n ∨ 1114111 < a ∨ (55296 ≤ a ∧ b ≤ 57343)) ↔ okU sg lf c = false)
    (hw : okU sg lf c = true → (m = n ↔ lfU lf c = 0)) (hv : okU sg lf c = true → m = n → sgU sg lf c = a) : endR m n a b = ansU sg lf c := by
  unfold endR ansU
  by_cases hk : okU sg lf c = true
  · rw [if_neg (by rw [hr, hk]; simp), if_pos hk]
    by_cases hm : m = n
    · rw [if_pos hm, if_pos ((hw hk).1 hm), hv hk hm]
    · rw [if_neg hm, if_neg (fun h => hm ((hw hk).2 h))]
  · rw [if_pos (hr.2 (by simpa using hk)), if_neg hk]

theorem okU_iff0 (sg c : Int) : okU sg 0 c = false ↔ ¬ (c < 128 ∨ 194 ≤ c ∧ c < 245) := by
  unfold okU; rw [if_pos rfl]; simp
theorem okU_iff {sg lf c : Int} (h : lf ≠ 0) : okU sg lf c = false ↔ ¬ (lowU sg lf ≤ c ∧ c ≤ highU sg lf) := by
  unfold okU; rw [if_neg h]; simp

theorem beg_one (c : UInt8) (sg : Int) : begR [c] = ansU sg 0 c.toNat := by
  have hc := UInt8.toNat_lt c
  have hh : (c.toNat : Int) < 128 ∨ (192 ≤ (c.toNat : Int) ∧ (c.toNat : Int) < 224) ∨ (224 ≤ (c.toNat : Int) ∧ (c.toNat : Int) < 240) ∨ (240 ≤ (c.toNat : Int) ∧ (c.toNat : Int) < 248) ∨ (128 ≤ (c.toNat : Int) ∧ (c.toNat : Int) < 192 ∨ 248 ≤ (c.toNat : Int)) := by omega
  rcases hh with h | ⟨h, h'⟩ | ⟨h, h'⟩ | ⟨h, h'⟩ | h
  · rw [begR_val c [] 1 (sizeR_1 h) (by omega) (by simp), if_pos (show contR [] = true from rfl)]
    refine ans_end ?_ ?_ ?_
    · rw [okU_iff0]; simp [padR, numR, moreR, leastR, baseR]; omega
    · simp [lfU]; omega
    · simp [sgU, padR, numR, moreR, baseR]; omega
  · rw [begR_val c [] 2 (sizeR_2 h h') (by omega) (by simp), if_pos (show contR [] = true from rfl)]
    refine ans_end ?_ ?_ ?_
    · rw [okU_iff0]; simp [padR, numR, moreR, leastR, baseR]; omega
    · simp [lfU]; omega
    · simp
  · rw [begR_val c [] 3 (sizeR_3 h h') (by omega) (by simp), if_pos (show contR [] = true from rfl)]
    refine ans_end ?_ ?_ ?_
    · rw [okU_iff0]; simp [padR, numR, moreR, leastR, baseR, List.replicate]; omega
    · simp [lfU]; omega
    · simp
  · rw [begR_val c [] 4 (sizeR_4 h h') (by omega) (by simp), if_pos (show contR [] = true from rfl)]
    refine ans_end ?_ ?_ ?_
    · rw [okU_iff0]; simp [padR, numR, moreR, leastR, baseR, List.replicate]; omega
    · simp [lfU]; omega
    · simp
  · rw [begR_zero c [] (sizeR_0 h)]
    unfold ansU
    rw [(okU_iff0 sg c.toNat).2 (by omega)]; rfl

theorem beg_bad (c : UInt8) (t : List UInt8) (n : Nat) (hn : sizeR c.toNat = n) (h1 : 1 ≤ n) (h : (c :: t).length ≤ n) (hb : contR t = false) {sg lf x : Int} (hl : lf ≠ 0) (hx : ¬ (128 ≤ x ∧ x ≤ 191)) :
    begR (c :: t) = ansU sg lf x := by
  rw [begR_val c t n hn h1 h, if_neg (by rw [hb]; simp)]
  unfold ansU
  rw [(okU_iff hl).2 (by have := lowU_in sg lf; have := highU_in sg lf; omega)]; rfl

theorem lowhigh (sg lf c : Int) (h : 128 ≤ c) (h' : c ≤ 191) (hl : lf ≠ 0) :
    okU sg lf c = false ↔ (lf = 2 ∧ sg = 0 ∧ c < 160) ∨ (lf = 3 ∧ sg = 0 ∧ c < 144) ∨ (lf = 2 ∧ sg = 13 ∧ 160 ≤ c) ∨ (lf = 3 ∧ sg = 4 ∧ 144 ≤ c) := by
  rw [okU_iff hl]
  unfold lowU highU
  (repeat' split) <;> omega

theorem beg_more (l : List UInt8) (c : UInt8) (sg lf : Int) (hne : l ≠ []) (h : InvL l sg lf) : begR (l ++ [c]) = ansU sg lf c.toNat := by
  have hc := UInt8.toNat_lt c
  have hlf : lf ≠ 0 := by
    unfold InvL at h
    split at h <;> (first | exact absurd rfl hne | exact h.elim | omega)
  have e2 : lfU lf c.toNat = lf - 1 := by unfold lfU; rw [if_neg hlf]
  have e1 : sgU sg lf c.toNat = sg * 64 + (c.toNat - 128) := by unfold sgU; rw [if_neg hlf]
  match l, h with
  | [a], h =>
    have ha := UInt8.toNat_lt a
    show begR (a :: [c]) = _
    rcases h with ⟨h1, h2, rfl, h3⟩ | ⟨h1, h2, rfl, h3⟩ | ⟨h1, h2, rfl, h3⟩
    all_goals
      by_cases hb : 128 ≤ (c.toNat : Int) ∧ (c.toNat : Int) ≤ 191
      · have hk := lowhigh sg _ c.toNat hb.1 hb.2 hlf
        first
          | rw [begR_val a [c] 2 (sizeR_2 (by omega) (by omega)) (by omega) (by simp), if_pos (by simp [contR]; omega)]
          | rw [begR_val a [c] 3 (sizeR_3 (by omega) (by omega)) (by omega) (by simp), if_pos (by simp [contR]; omega)]
          | rw [begR_val a [c] 4 (sizeR_4 (by omega) (by omega)) (by omega) (by simp), if_pos (by simp [contR]; omega)]
        refine ans_end ?_ ?_ ?_
        · rw [hk]; simp [padR, numR, moreR, leastR, baseR, List.replicate]; omega
        · rw [e2]; simp
        · rw [e1]; simp [padR, numR, moreR, baseR] <;> omega
      · first
          | exact beg_bad a [c] 2 (sizeR_2 (by omega) (by omega)) (by omega) (by simp) (by simp [contR]; omega) hlf hb
          | exact beg_bad a [c] 3 (sizeR_3 (by omega) (by omega)) (by omega) (by simp) (by simp [contR]; omega) hlf hb
          | exact beg_bad a [c] 4 (sizeR_4 (by omega) (by omega)) (by omega) (by simp) (by simp [contR]; omega) hlf hb
  | [a, b], h =>
    have ha := UInt8.toNat_lt a
    have hb := UInt8.toNat_lt b
    show begR (a :: [b, c]) = _
    obtain ⟨g1, g2, ⟨h1, h2, rfl, h3, h4, h5⟩ | ⟨h1, h2, rfl, h3, h4, h5⟩⟩ := h
    all_goals
      by_cases hb : 128 ≤ (c.toNat : Int) ∧ (c.toNat : Int) ≤ 191
      · have hk := lowhigh sg _ c.toNat hb.1 hb.2 hlf
        first
          | rw [begR_val a [b, c] 3 (sizeR_3 (by omega) (by omega)) (by omega) (by simp), if_pos (by simp [contR]; omega)]
          | rw [begR_val a [b, c] 4 (sizeR_4 (by omega) (by omega)) (by omega) (by simp), if_pos (by simp [contR]; omega)]
        refine ans_end ?_ ?_ ?_
        · rw [hk]; simp [padR, numR, moreR, leastR, baseR]; omega
        · rw [e2]; simp
        · rw [e1]; simp [padR, numR, moreR, baseR] <;> omega
      · first
          | exact beg_bad a [b, c] 3 (sizeR_3 (by omega) (by omega)) (by omega) (by simp) (by simp [contR]; omega) hlf hb
          | exact beg_bad a [b, c] 4 (sizeR_4 (by omega) (by omega)) (by omega) (by simp) (by simp [contR]; omega) hlf hb
  | [a, b, d], h =>
    have ha := UInt8.toNat_lt a
    have hb := UInt8.toNat_lt b
    have hd := UInt8.toNat_lt d
    show begR (a :: [b, d, c]) = _
    obtain ⟨g1, g2, g3, g4, h1, h2, rfl, h3, h4, h5⟩ := h
    by_cases hb : 128 ≤ (c.toNat : Int) ∧ (c.toNat : Int) ≤ 191
    · have hk := lowhigh sg _ c.toNat hb.1 hb.2 hlf
      rw [begR_val a [b, d, c] 4 (sizeR_4 (by omega) (by omega)) (by omega) (by simp), if_pos (by simp [contR]; omega)]
      refine ans_end ?_ ?_ ?_
      · rw [hk]; simp [padR, numR, moreR, leastR, baseR]; omega
      · rw [e2]; simp
      · rw [e1]; simp [padR, numR, moreR, baseR]; omega
    · exact beg_bad a [b, d, c] 4 (sizeR_4 (by omega) (by omega)) (by omega) (by simp) (by simp [contR]; omega) hlf hb

theorem beg_any (l : List UInt8) (c : UInt8) (sg lf : Int) (h : InvL l sg lf) : begR (l ++ [c]) = ansU sg lf c.toNat := by
  cases l with
  | nil => obtain rfl : lf = 0 := h; exact beg_one c sg
  | cons a t => exact beg_more _ c sg lf (by simp) h

theorem invL_len {l : List UInt8} {sg lf : Int} (h : InvL l sg lf) : l.length ≤ 3 ∧ (l = [] ↔ lf = 0) := by
  match l, h with
  | [], h => exact ⟨by simp, by simp; exact h⟩
  | [a], h => exact ⟨by simp, by simp; unfold InvL at h; simp at h; omega⟩
  | [a, b], h => exact ⟨by simp, by simp; unfold InvL at h; simp at h; omega⟩
  | [a, b, c], h => exact ⟨by simp, by simp; unfold InvL at h; simp at h; omega⟩

theorem invL_size {l : List UInt8} {sg lf : Int} {c : UInt8} (h : InvL l sg lf) : ∀ a t, l ++ [c] = a :: t → (∃ n : Nat, (n = 1 ∨ n = 2 ∨ n = 3 ∨ n = 4) ∧ (l ++ [c]).length ≤ n ∧ sizeR a.toNat = n) ∨ (sizeR a.toNat = 0) := by
  intro a t e
  match l, h with
  | [], h =>
    have hc := UInt8.toNat_lt c
    simp at e
    obtain ⟨rfl, rfl⟩ := e
    have hh : (c.toNat : Int) < 128 ∨ (192 ≤ (c.toNat : Int) ∧ (c.toNat : Int) < 224) ∨ (224 ≤ (c.toNat : Int) ∧ (c.toNat : Int) < 240) ∨ (240 ≤ (c.toNat : Int) ∧ (c.toNat : Int) < 248) ∨ (128 ≤ (c.toNat : Int) ∧ (c.toNat : Int) < 192 ∨ 248 ≤ (c.toNat : Int)) := by omega
    rcases hh with h | ⟨h, h'⟩ | ⟨h, h'⟩ | ⟨h, h'⟩ | h
    · exact .inl ⟨1, by omega, by simp, sizeR_1 h⟩
    · exact .inl ⟨2, by omega, by simp, sizeR_2 h h'⟩
    · exact .inl ⟨3, by omega, by simp, sizeR_3 h h'⟩
    · exact .inl ⟨4, by omega, by simp, sizeR_4 h h'⟩
    · exact .inr (sizeR_0 h)
  | [b], h =>
    simp at e
    obtain ⟨rfl, rfl⟩ := e
    rcases h with ⟨h1, h2, _, _⟩ | ⟨h1, h2, _, _⟩ | ⟨h1, h2, _, _⟩
    · exact .inl ⟨2, by omega, by simp, sizeR_2 (by omega) (by omega)⟩
    · exact .inl ⟨3, by omega, by simp, sizeR_3 (by omega) (by omega)⟩
    · exact .inl ⟨4, by omega, by simp, sizeR_4 (by omega) (by omega)⟩
  | [b, d], h =>
    simp at e
    obtain ⟨rfl, rfl⟩ := e
    rcases h with ⟨_, _, ⟨h1, h2, _⟩ | ⟨h1, h2, _⟩⟩
    · exact .inl ⟨3, by omega, by simp, sizeR_3 (by omega) (by omega)⟩
    · exact .inl ⟨4, by omega, by simp, sizeR_4 (by omega) (by omega)⟩
  | [b, d, f], h =>
    simp at e
    obtain ⟨rfl, rfl⟩ := e
    obtain ⟨_, _, _, _, h1, h2, _⟩ := h
    exact .inl ⟨4, by omega, by simp, sizeR_4 (by omega) (by omega)⟩

theorem invL_step {l : List UInt8} {sg lf : Int} {c : UInt8} (h : InvL l sg lf) (hk : okU sg lf c.toNat = true) :
    InvL (if lfU lf c.toNat = 0 then [] else l ++ [c]) (sgU sg lf c.toNat) (lfU lf c.toNat) := by
  by_cases hz : lfU lf c.toNat = 0
  · rw [if_pos hz]; exact hz
  · rw [if_neg hz]
    have hc := UInt8.toNat_lt c
    match l, h with
    | [], h =>
      obtain rfl : lf = 0 := h
      have hk' := okU_zero hk
      unfold lfU at hz ⊢
      unfold sgU
      simp only [if_true] at hz ⊢
      show (_ ∨ _)
      split at hz
      · exact absurd rfl hz
      · rename_i h1
        rw [if_neg h1, if_neg h1]
        (repeat' split) <;> omega
    | [a], h =>
      have hlf : lf ≠ 0 := fun e => by have := (invL_len h).2.2 e; cases this
      have e2 : lfU lf c.toNat = lf - 1 := by unfold lfU; rw [if_neg hlf]
      have e1 : sgU sg lf c.toNat = sg * 64 + (c.toNat - 128) := by unfold sgU; rw [if_neg hlf]
      have hb := okU_bd hlf hk
      have hn := (lowhigh sg lf c.toNat hb.1 hb.2 hlf)
      rw [hk] at hn
      simp only [Bool.true_eq_false, false_iff] at hn
      rw [e2] at hz
      rw [e1, e2]
      rcases h with ⟨h1, h2, rfl, h3⟩ | ⟨h1, h2, rfl, h3⟩ | ⟨h1, h2, rfl, h3⟩
      · omega
      · exact ⟨by omega, by omega, .inl ⟨by omega, by omega, by omega, by omega, by omega, by omega⟩⟩
      · exact ⟨by omega, by omega, .inr ⟨by omega, by omega, by omega, by omega, by omega, by omega⟩⟩
    | [a, b], h =>
      have hlf : lf ≠ 0 := fun e => by have := (invL_len h).2.2 e; cases this
      have e2 : lfU lf c.toNat = lf - 1 := by unfold lfU; rw [if_neg hlf]
      have e1 : sgU sg lf c.toNat = sg * 64 + (c.toNat - 128) := by unfold sgU; rw [if_neg hlf]
      have hb := okU_bd hlf hk
      rw [e2] at hz
      rw [e1, e2]
      obtain ⟨g1, g2, ⟨h1, h2, rfl, h3, h4, h5⟩ | ⟨h1, h2, rfl, h3, h4, h5⟩⟩ := h
      · omega
      · exact ⟨by omega, by omega, by omega, by omega, by omega, by omega, by omega, by omega, by omega, by omega⟩
    | [a, b, d], h =>
      have hlf : lf ≠ 0 := fun e => by have := (invL_len h).2.2 e; cases this
      have e2 : lfU lf c.toNat = lf - 1 := by unfold lfU; rw [if_neg hlf]
      rw [e2] at hz
      obtain ⟨g1, g2, g3, g4, h1, h2, rfl, h3, h4, h5⟩ := h
      omega

end Go.Proofs.YthpkcapooeedeaaDoor

namespace Go.Proofs.YthpkcapooeedeaaDoor
open Go.RowKit

def unitI (n : Int) : Int := if 55296 ≤ n ∧ n < 56320 then 1 else if 56320 ≤ n ∧ n < 57344 then 2 else 0
def hasI (n : Int) : Bool := decide (0 ≤ n ∧ n ≤ 1114111 ∧ (n < 55296 ∨ 57343 < n))
def fixI (n : Int) : Int := if hasI n then n else 65533
def ofI (m : Int) : List Int :=
  if m < 128 then [m] else if m < 2048 then [192 + m / 64, 128 + m % 64] else if m < 65536 then [224 + m / 4096, 128 + m / 64 % 64, 128 + m % 64]
  else [240 + m / 262144, 128 + m / 4096 % 64, 128 + m / 64 % 64, 128 + m % 64]

theorem fixI_in (n : Int) : 0 ≤ fixI n ∧ fixI n ≤ 1114111 ∧ (fixI n < 55296 ∨ 57343 < fixI n) := by
  unfold fixI hasI
  split
  · rename_i h; simpa using h
  · omega

theorem ofI_is {n : Int} : (n < 128 ∧ ofI n = [n]) ∨ (128 ≤ n ∧ n < 2048 ∧ ofI n = [192 + n / 64, 128 + n % 64]) ∨
    (2048 ≤ n ∧ n < 65536 ∧ ofI n = [224 + n / 4096, 128 + n / 64 % 64, 128 + n % 64]) ∨
    (65536 ≤ n ∧ ofI n = [240 + n / 262144, 128 + n / 4096 % 64, 128 + n / 64 % 64, 128 + n % 64]) := by
  unfold ofI
  (repeat' split) <;> simp <;> omega

theorem runU_both (l : List UInt8) : ∀ (sg lf : Int), -1 ≤ runU sg lf l 0 ∧ ∀ k : Int, runU sg lf l k = if runU sg lf l 0 = -1 then -1 else runU sg lf l 0 + k := by
  induction l with
  | nil => intro sg lf; by_cases h : 0 < lf <;> simp [runU, h]
  | cons c l ih =>
    intro sg lf
    show -1 ≤ (if okU sg lf c.toNat then runU _ _ l (0 + 1) else 0) ∧ ∀ k : Int, (if okU sg lf c.toNat then runU _ _ l (k + 1) else k) = if (if okU sg lf c.toNat then runU _ _ l (0 + 1) else 0) = -1 then -1 else (if okU sg lf c.toNat then runU _ _ l (0 + 1) else 0) + k
    by_cases h : okU sg lf c.toNat = true
    · simp only [h, if_true]
      obtain ⟨i1, i2⟩ := ih (sgU sg lf c.toNat) (lfU lf c.toNat)
      rw [i2 (0 + 1)]
      refine ⟨by split <;> omega, fun k => ?_⟩
      rw [i2 (k + 1)]
      (repeat' split) <;> omega
    · simp only [h]
      simp

theorem runU_shift (l : List UInt8) (sg lf k : Int) : runU sg lf l k = if runU sg lf l 0 = -1 then -1 else runU sg lf l 0 + k := (runU_both l sg lf).2 k

theorem runU_ge (l : List UInt8) : ∀ (sg lf : Int), -1 ≤ runU sg lf l 0 ∧ runU sg lf l 0 ≤ l.length := by
  induction l with
  | nil => intro sg lf; show -1 ≤ (if 0 < lf then 0 else -1 : Int) ∧ (if 0 < lf then 0 else -1 : Int) ≤ _; split <;> simp
  | cons c l ih =>
    intro sg lf
    show -1 ≤ (if okU sg lf c.toNat then runU _ _ l (0 + 1) else 0) ∧ (if okU sg lf c.toNat then runU _ _ l (0 + 1) else 0) ≤ ((c :: l).length : Int)
    have e : ((c :: l).length : Int) = l.length + 1 := by simp
    rw [e]
    split
    · rw [runU_shift]
      have := ih (sgU sg lf c.toNat) (lfU lf c.toNat)
      split <;> omega
    · omega

/-- Between two signs the number doesn't matter. -/
theorem runU_zero (l : List UInt8) (sg sg' k : Int) : runU sg 0 l k = runU sg' 0 l k := by
  cases l with
  | nil => rfl
  | cons c l =>
    have e1 : okU sg 0 c.toNat = okU sg' 0 c.toNat := rfl
    have e2 : sgU sg 0 c.toNat = sgU sg' 0 c.toNat := rfl
    show (if okU sg 0 c.toNat then runU _ _ l (k + 1) else k) = (if okU sg' 0 c.toNat then runU _ _ l (k + 1) else k)
    rw [e1, e2]

theorem runU_append (l m : List UInt8) : ∀ (sg lf : Int), StU sg lf →
    (runU sg lf l 0 = -1 → runU sg lf (l ++ m) 0 = runU 0 0 m l.length) ∧
    (0 ≤ runU sg lf l 0 → runU sg lf l 0 < l.length → runU sg lf (l ++ m) 0 = runU sg lf l 0) := by
  induction l with
  | nil =>
    intro sg lf hst
    refine ⟨fun h => ?_, fun _ h => ?_⟩
    · have : lf = 0 := by
        have h : (if 0 < lf then 0 else -1 : Int) = -1 := h
        unfold StU at hst
        split at h <;> omega
      subst this
      exact runU_zero m sg 0 _
    · have h : (if 0 < lf then 0 else -1 : Int) < 0 := h
      have h0 : (0 : Int) ≤ (if 0 < lf then 0 else -1 : Int) := by assumption
      omega
  | cons c l ih =>
    intro sg lf hst
    have e : ((c :: l).length : Int) = l.length + 1 := by simp
    rw [e]
    show ((if okU sg lf c.toNat then runU _ _ l (0 + 1) else 0) = -1 → (if okU sg lf c.toNat then runU _ _ (l ++ m) (0 + 1) else 0) = _) ∧
      (0 ≤ (if okU sg lf c.toNat then runU _ _ l (0 + 1) else 0) → (if okU sg lf c.toNat then runU _ _ l (0 + 1) else 0) < (l.length : Int) + 1 → (if okU sg lf c.toNat then runU _ _ (l ++ m) (0 + 1) else 0) = (if okU sg lf c.toNat then runU _ _ l (0 + 1) else 0))
    by_cases h : okU sg lf c.toNat = true
    · simp only [h, if_true]
      obtain ⟨i1, i2⟩ := ih _ _ (stU_step hst (Int.natCast_nonneg _) h)
      have g := runU_ge l (sgU sg lf c.toNat) (lfU lf c.toNat)
      rw [runU_shift l _ _ (0 + 1), runU_shift (l ++ m) _ _ (0 + 1)]
      refine ⟨fun hh => ?_, fun h0 hh => ?_⟩
      · split at hh
        · rename_i h1
          rw [i1 h1, runU_shift m 0 0 l.length, runU_shift m 0 0 (l.length + 1)]
          have := (runU_ge m 0 0).1
          (repeat' split) <;> omega
        · omega
      · split at hh
        · rw [if_pos (by assumption)] at h0
          omega
        · rename_i h1
          rw [i2 (by omega) (by omega), if_neg h1]
    · simp only [h]
      simp

theorem badU_append (l m : List UInt8) :
    (badU l = -1 → badU (l ++ m) = if badU m = -1 then -1 else badU m + l.length) ∧
    (0 ≤ badU l → badU l < l.length → badU (l ++ m) = badU l) := by
  obtain ⟨h1, h2⟩ := runU_append l m 0 0 stU_zero
  exact ⟨fun h => by rw [show badU (l ++ m) = runU 0 0 (l ++ m) 0 from rfl, h1 h, runU_shift]; rfl, h2⟩

theorem runU_num (sg lf a k : Int) (h0 : 0 ≤ a) (h9 : a < 256) (l : List UInt8) :
    runU sg lf (UInt8.ofNat a.toNat :: l) k = if okU sg lf a then runU (sgU sg lf a) (lfU lf a) l (k + 1) else k := by
  have e : ((UInt8.ofNat a.toNat).toNat : Int) = a := by
    rw [UInt8.toNat_ofNat']
    omega
  show (if okU sg lf ((UInt8.ofNat a.toNat).toNat : Int) then _ else _) = _
  rw [e]

theorem okU_0 (c : Int) (h : c < 128 ∨ 194 ≤ c ∧ c < 245) (sg : Int) : okU sg 0 c = true := by unfold okU; rw [if_pos rfl]; exact decide_eq_true h
theorem okU_n {sg lf c : Int} (hl : lf ≠ 0) (h : lowU sg lf ≤ c ∧ c ≤ highU sg lf) : okU sg lf c = true := by unfold okU; rw [if_neg hl]; exact decide_eq_true h

theorem badU_of (m : Int) (h0 : 0 ≤ m) (h9 : m ≤ 1114111) (hs : m < 55296 ∨ 57343 < m) : badU (strOfNums (ofI m)).data.toList = -1 := by
  rw [strOfNums_data]
  unfold badU
  rcases @ofI_is m with ⟨h, e⟩ | ⟨h, h', e⟩ | ⟨h, h', e⟩ | ⟨h, e⟩
  · rw [e]
    simp only [List.map_cons, List.map_nil]
    rw [runU_num _ _ _ _ (by omega) (by omega), okU_0 _ (by omega), if_pos rfl]
    rw [show lfU 0 m = 0 by unfold lfU; (repeat' split) <;> omega]
    rfl
  · rw [e]
    simp only [List.map_cons, List.map_nil]
    rw [runU_num _ _ _ _ (by omega) (by omega), okU_0 _ (by omega), if_pos rfl]
    rw [show lfU 0 (192 + m / 64) = 1 by unfold lfU; (repeat' split) <;> omega, show sgU 0 0 (192 + m / 64) = m / 64 by unfold sgU; (repeat' split) <;> omega]
    rw [runU_num _ _ _ _ (by omega) (by omega), okU_n (by omega) (by unfold lowU highU; (repeat' split) <;> omega), if_pos rfl]
    rfl
  · rw [e]
    simp only [List.map_cons, List.map_nil]
    rw [runU_num _ _ _ _ (by omega) (by omega), okU_0 _ (by omega), if_pos rfl]
    rw [show lfU 0 (224 + m / 4096) = 2 by unfold lfU; (repeat' split) <;> omega, show sgU 0 0 (224 + m / 4096) = m / 4096 by unfold sgU; (repeat' split) <;> omega]
    rw [runU_num _ _ _ _ (by omega) (by omega), okU_n (by omega) (by unfold lowU highU; (repeat' split) <;> omega), if_pos rfl]
    rw [show lfU 2 (128 + m / 64 % 64) = 1 from rfl, show sgU (m / 4096) 2 (128 + m / 64 % 64) = m / 64 by unfold sgU; (repeat' split) <;> omega]
    rw [runU_num _ _ _ _ (by omega) (by omega), okU_n (by omega) (by unfold lowU highU; (repeat' split) <;> omega), if_pos rfl]
    rfl
  · rw [e]
    simp only [List.map_cons, List.map_nil]
    rw [runU_num _ _ _ _ (by omega) (by omega), okU_0 _ (by omega), if_pos rfl]
    rw [show lfU 0 (240 + m / 262144) = 3 by unfold lfU; (repeat' split) <;> omega, show sgU 0 0 (240 + m / 262144) = m / 262144 by unfold sgU; (repeat' split) <;> omega]
    rw [runU_num _ _ _ _ (by omega) (by omega), okU_n (by omega) (by unfold lowU highU; (repeat' split) <;> omega), if_pos rfl]
    rw [show lfU 3 (128 + m / 4096 % 64) = 2 from rfl, show sgU (m / 262144) 3 (128 + m / 4096 % 64) = m / 4096 by unfold sgU; (repeat' split) <;> omega]
    rw [runU_num _ _ _ _ (by omega) (by omega), okU_n (by omega) (by unfold lowU highU; (repeat' split) <;> omega), if_pos rfl]
    rw [show lfU 2 (128 + m / 64 % 64) = 1 from rfl, show sgU (m / 4096) 2 (128 + m / 64 % 64) = m / 64 by unfold sgU; (repeat' split) <;> omega]
    rw [runU_num _ _ _ _ (by omega) (by omega), okU_n (by omega) (by unfold lowU highU; (repeat' split) <;> omega), if_pos rfl]
    rfl

end Go.Proofs.YthpkcapooeedeaaDoor
