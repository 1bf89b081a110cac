/- A map of the book's own: from numbers to things. -/
import Derived.Test.YtfkbmecmancgpaaM18B
import Derived.Maps.OwnSet
import Derived.Deep.DeepMust
import Derived.Deep.QuietTactic
import Derived.BigQuiet
namespace Go.Proofs.Ytfkbmecmancgpaa
open Go.RowKit
open Go.Maps (Keyed)
set_option linter.unusedVariables false

/-- An element reads as itself. -/
def helem (v : Value) : Option (DataW Value × List MemPlace) := some (.held v, [])
theorem in_law : Keyed Try.prog 3 := Maps.int_keyed Try.underlying3
theorem th_zero (w : World) : (zeroValue 49).run Try.prog w = .ok (.pointer none) w := by kernel_rfl
theorem wf_nat {x : Nat} (h : x ≤ 1000000) : (Lit.int .i64 (x : Int)).wf = true := WalkArith.wf_i64 (by omega)
theorem in_key {z : Int} (h : (Lit.int .i64 z).wf = true) : keyOf Try.prog 3 (.int .i64 z) = some (.int .i64 z) := Maps.keyOf_int_mk Try.underlying3 h
theorem in_isl (z : Int) (h : (Lit.int .i64 z).wf = true) : WideAt.IsKeyLit (.int .i64 z) := in_law.key (in_key h)

/-- A pointer to a block, or nil. -/
def ptrO : Option Nat → Value
  | some b => .pointer (some ⟨b, 0, none⟩)
  | none => .pointer none
def oI (o : Nat → Option Nat) (z : Int) : Option Nat := if 0 ≤ z then o z.toNat else none
theorem oI_nat (o : Nat → Option Nat) (x : Nat) : oI o x = o x := by simp [oI]

/-- Block b is the map of these. -/
def Opm (w : World) (b m : Nat) (o : Nat → Option Nat) : Prop :=
  ∃ D : DataW Value, w.ownsMap Try.prog 3 helem b m D ∧ ∀ z : Int, D.atKey (.int .i64 z) (.held (.pointer none)) = .held (ptrO (oI o z))

theorem Opm.lt {w : World} {b m : Nat} {o : Nat → Option Nat} (h : Opm w b m o) : b < w.heap.size := by
  obtain ⟨D, h1, _⟩ := h
  exact h1.lt
theorem Opm.mono {w : World} {b m m' : Nat} {o : Nat → Option Nat} (h : Opm w b m o) (hm : m ≤ m') : Opm w b m' o := by
  obtain ⟨D, h1, h2⟩ := h
  exact ⟨D, h1.mono hm, h2⟩
theorem Opm.stay {w w' : World} {b m : Nat} {o : Nat → Option Nat} (h : Opm w b m o) (hk : w'.heap[b]? = w.heap[b]?) : Opm w' b m o := by
  obtain ⟨D, ⟨es, clock, hb, r⟩, h2⟩ := h
  exact ⟨D, ⟨es, clock, hk.trans hb, r⟩, h2⟩
theorem opm_made (w : World) : Opm (w.alloc (.map #[] 0)) w.heap.size 0 (fun _ => none) := by
  refine ⟨.map [], World.ownsMap_made w _ _ _, fun z => ?_⟩
  have : oI (fun _ => none) z = none := by unfold oI; split <;> rfl
  rw [this]
  rfl
theorem opm_look {w : World} {b m : Nat} {o : Nat → Option Nat} (h : Opm w b m o) {z : Int} (hz : (Lit.int .i64 z).wf = true) :
    (Instr.lookup 42 (.map (some b)) (.int .i64 z) false).run Try.prog w = .ok (ptrO (oI o z)) w := by
  obtain ⟨D, h1, h2⟩ := h
  obtain ⟨v, ps, hrun, hv⟩ := h1.lookup in_law Try.underlying42 (th_zero w) (zd := .held (.pointer none)) (zp := []) rfl (in_key hz)
  rw [h2 z] at hv
  unfold helem at hv
  injection hv with hv
  injection hv with hv _
  injection hv with hv
  rw [← hv]
  exact hrun
theorem opm_put {w : World} {b m : Nat} {o : Nat → Option Nat} (h : Opm w b m o) {x p : Nat} (hx : x ≤ 1000000) (hm : m ≤ 1000000) :
    ∃ w', (Instr.mapUpdate 42 (.map (some b)) (.int .i64 x) (.pointer (some ⟨p, 0, none⟩))).run Try.prog w = .ok () w' ∧ Opm w' b (m + 1) (fun y => if y = x then some p else o y) ∧ w.grownBy w' (some b) := by
  obtain ⟨D, h1, h2⟩ := h
  have hD : Maps.IsMap D := by obtain ⟨es, clock, _, _, _, e⟩ := h1; exact ⟨_, e⟩
  obtain ⟨w', hrun, g1, g2⟩ := h1.update in_law Try.underlying42 (by unfold maxLen; omega) (in_key (wf_nat hx)) (val := .pointer (some ⟨p, 0, none⟩)) (d := .held (.pointer (some ⟨p, 0, none⟩))) (ps := []) rfl
  refine ⟨w', hrun, ⟨_, g1, fun z => ?_⟩, g2⟩
  by_cases e : z = x
  · subst e
    rw [Maps.atKey_put_same hD (in_isl _ (wf_nat hx)), oI_nat, if_pos rfl]
    rfl
  · rw [Maps.atKey_put_other (by intro hh; injection hh with _ hh; exact e hh), h2 z]
    unfold oI
    by_cases h0 : 0 ≤ z
    · have hx' : z.toNat ≠ x := by omega
      simp [h0, hx']
    · simp [h0]
theorem opm_del {w : World} {b m : Nat} {o : Nat → Option Nat} (h : Opm w b m o) {x : Nat} (hx : x ≤ 1000000) (ty : TypeId) :
    ∃ w', (Builtin.delete_ #[42, 3] ty #[.map (some b), .int .i64 x]).run Try.prog w = .ok (.tuple #[]) w' ∧ Opm w' b m (fun y => if y = x then none else o y) ∧ w.grownBy w' (some b) := by
  obtain ⟨D, h1, h2⟩ := h
  obtain ⟨w', hrun, g1, g2⟩ := h1.drop in_law Try.underlying42 (in_key (wf_nat hx)) ty
  refine ⟨w', hrun, ⟨_, g1, fun z => ?_⟩, g2.grown⟩
  by_cases e : z = x
  · subst e
    rw [Maps.atKey_del_same, oI_nat, if_pos rfl]
    rfl
  · rw [Maps.atKey_del_other (by intro hh; injection hh with _ hh; exact e hh), h2 z]
    unfold oI
    by_cases h0 : 0 ≤ z
    · have hx' : z.toNat ≠ x := by omega
      simp [h0, hx']
    · simp [h0]
end Go.Proofs.Ytfkbmecmancgpaa
