/- Small things that all layers' proofs use: a block of the call's own that is known whole; worlds that differ in one block and in new ones. -/
import Derived.Test.YtfkbmecmancgpaaRows
import Derived.WalkKit
import Derived.WalkSpells
import Derived.WalkLawsBesides
import Derived.BigQuiet
import Derived.Deep.QuietTactic
import Derived.Deep.Draws
import Derived.Lib.Hide
import Derived.Below
import Derived.Laws.Rows
namespace Go.Proofs.Ytfkbmecmancgpaa
open Go.RowKit

theorem ret_i {k : IntKind} {a b : Int} (h : a = b) : Ending.returned (.int k a) = .returned (.int k b) := by rw [h]
theorem ret_b {a b : Bool} (h : a = b) : Ending.returned (.bool a) = .returned (.bool b) := by rw [h]

/-- Block b holds just these cells, and none of them is frozen. -/
def Own (w : World) (b : Nat) (t : TypeId) (cs : Array Value) : Prop := w.heap[b]? = some (.cells cs t (0, 0))

section
variable {w w' : World} {b : Nat} {t : TypeId} {cs : Array Value}
theorem Own.inside (h : Own w b t cs) : b < w.heap.size := by
  by_cases hb : b < w.heap.size
  · exact hb
  · unfold Own at h
    rw [Array.getElem?_eq_none (by omega)] at h
    cases h
theorem Own.at (h : Own w b t cs) (i : Nat) : w.cell? ⟨b, i, none⟩ = cs[i]? := cell_of_row w b i cs t (0, 0) h
theorem Own.free (h : Own w b t cs) (i : Nat) : w.frozen? ⟨b, i, none⟩ = false := by
  unfold Own at h
  simp [World.frozen?, h]
theorem Own.fresh (w : World) (t : TypeId) (cs : Array Value) : Own (w.alloc (.cells cs t)) w.heap.size t cs := by
  unfold Own
  show (w.heap.push _)[w.heap.size]? = _
  simp
theorem Own.over (h : Own w b t cs) (o : Obj) : Own (w.alloc o) b t cs := (Below.heap_alloc w o b h.inside).trans h
theorem Own.put (h : Own w b t cs) (i : Nat) (u : Value) : Own (w.setCell ⟨b, i, none⟩ u) b t (cs.setIfInBounds i u) := by
  unfold Own at h ⊢
  simp [World.setCell, Array.getElem?_modify, h]
theorem Own.past (h : Own w b t cs) {p : Addr} (hp : b ≠ p.block) (u : Value) : Own (w.setCell p u) b t cs := (Below.heap_setCell w p u b hp).trans h
theorem Own.stay {B : Nat} (h : Own w b t cs) (hb : Below B w w') (hB : b < B) : Own w' b t cs := (hb.block b hB).trans h
end

/-- Only block b, and what is new, may differ. -/
def Turned (b : Nat) (w w' : World) : Prop :=
  w'.os = w.os ∧ w'.tape = w.tape ∧ w'.output = w.output ∧ w.heap.size ≤ w'.heap.size ∧ ∀ k, k < w.heap.size → k ≠ b → w'.heap[k]? = w.heap[k]?

theorem Turned.refl (b : Nat) (w : World) : Turned b w w := ⟨rfl, rfl, rfl, Nat.le_refl _, fun _ _ _ => rfl⟩
theorem Turned.put {b : Nat} {a w : World} (h : Turned b a w) (i : Nat) (u : Value) : Turned b a (w.setCell ⟨b, i, none⟩ u) :=
  ⟨h.1, h.2.1, h.2.2.1, by simpa [World.setCell] using h.2.2.2.1, fun k hk hne => (Below.heap_setCell w ⟨b, i, none⟩ u k hne).trans (h.2.2.2.2 k hk hne)⟩
theorem Turned.below {b B : Nat} {w w' : World} (h : Turned b w w') (hB : B ≤ b) (hs : b ≤ w.heap.size) : Below B w w' :=
  ⟨h.1, h.2.1, h.2.2.1, h.2.2.2.1, fun k hk => h.2.2.2.2 k (by omega) (by omega)⟩
theorem Turned.of_below {b B : Nat} {w w' : World} (h : Below B w w') (hB : B = w.heap.size) : Turned b w w' :=
  ⟨h.os, h.tape, h.output, h.size, fun k hk _ => h.block k (by omega)⟩
theorem Turned.trans {b : Nat} {u v w : World} (h : Turned b u v) (g : Turned b v w) : Turned b u w :=
  ⟨g.1.trans h.1, g.2.1.trans h.2.1, g.2.2.1.trans h.2.2.1, Nat.le_trans h.2.2.2.1 g.2.2.2.1,
   fun k hk hne => (g.2.2.2.2 k (Nat.lt_of_lt_of_le hk h.2.2.2.1) hne).trans (h.2.2.2.2 k hk hne)⟩

end Go.Proofs.Ytfkbmecmancgpaa
