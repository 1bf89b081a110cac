/- Package tree as layer 10's statements ask for it; TreeLeast and TreeSpans. -/
import Derived.Test.YthpkcapooeedeaaDoorRows
import Derived.Test.YthpkcapooeedeaaDoorJ29
import Derived.Test.YthpkcapooeedeaaDoorJ34
import Derived.Test.YthpkcapooeedeaaDoorJ37
namespace Go.Proofs.YthpkcapooeedeaaDoor
open Go.RowKit
set_option linter.unusedVariables false

theorem laidOut0 : laidOutB Tryd.prog = true := by kernel_rfl
/-- What the row's list gives. -/
theorem tab_of_laid {W : World} (h : laidMetH Tryd.prog Rows.treeLeastRow.laid W) : Tab W :=
  laid_own laidOut0 (by kernel_rfl) h (List.mem_cons_self ..) (l := [.string ⟨[116, 114, 117, 101].toArray⟩, .int .i64 1, .string ⟨[102, 97, 108, 115, 101].toArray⟩, .int .i64 1, .string ⟨[110, 117, 108, 108].toArray⟩, .int .i64 0]) rfl (by simp) (by kernel_rfl)

/-- The same, of the other row. -/
theorem tab_of_laid2 {W : World} (h : laidMetH Tryd.prog Rows.treeSpansRow.laid W) : Tab W :=
  laid_own laidOut0 (by kernel_rfl) h (List.mem_cons_self ..) (l := [.string ⟨[116, 114, 117, 101].toArray⟩, .int .i64 1, .string ⟨[102, 97, 108, 115, 101].toArray⟩, .int .i64 1, .string ⟨[110, 117, 108, 108].toArray⟩, .int .i64 0]) rfl (by simp) (by kernel_rfl)


theorem treeD : TreeD Tab where
  parse := fun A len cap l d w hx h2 d1 d2 hT => parse_any A len cap l d w hx h2 d1 d2 hT
  same := fun t u x y w hx hy hz hT => same_any t u x y w hx hy hz
  small := fun l d h _ => tree_small l d h
  lasts := fun w w' hT hb => hT.stay hb (hT.elim fun _ h => h.inside)

theorem row_cap {k : IntKind} {w : World} {A : Option Addr} {len cap : Nat} {z : List Int} (h : IsRow k w A len cap z) : len ≤ cap := by
  rcases h with ⟨_, h1, h2, _⟩ | ⟨_, _, h1, _⟩
  · omega
  · exact h1
theorem treeLeast_walk (A : Option Addr) (len cap : Nat) (z : List Int) (A' : Option Addr) (len' cap' : Nat) (z' : List Int) (W : World) (hT : Tab W) (h : IsRow .u8 W A len cap z) (h' : IsRow .u8 W A' len' cap' z') :
    Calls Tryd.prog 3 #[.slice A len cap, .slice A' len' cap'] W fun e w' => e = .returned (.bool true) ∧ Below W.heap.size W w' := by
  have hc : len ≤ cap := row_cap h
  obtain ⟨l, hx⟩ := h.bytes
  obtain ⟨l', hx'⟩ := h'.bytes
  exact treeLeast_core treeD A len cap A' len' cap' l l' W hT hc hx hx'
theorem treeSpans_walk (A : Option Addr) (len cap : Nat) (z : List Int) (W : World) (hT : Tab W) (h : IsRow .u8 W A len cap z) :
    Calls Tryd.prog 4 #[.slice A len cap] W fun e w' => e = .returned (.bool true) ∧ Below W.heap.size W w' := by
  have hc : len ≤ cap := row_cap h
  obtain ⟨l, hx⟩ := h.bytes
  exact treeSpans_core treeD A len cap l W hT hc hx

end Go.Proofs.YthpkcapooeedeaaDoor
