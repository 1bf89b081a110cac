/- The walk of LexSpans. -/
import Derived.Test.YtoahnbjpmbhpfaaDoorLexA
namespace Go.Proofs.YtoahnbjpmbhpfaaDoor
open Go.RowKit

theorem laidOut0 : laidOutB Tryd.prog = true := by kernel_rfl
/-- What the row's list gives. -/
theorem tab_of_laid {W : World} (h : laidMetH Tryd.prog Rows.lexSpansRow.laid W) : Tab W :=
  laid_own laidOut0 (by kernel_rfl) h (List.mem_cons_self ..) (l := [.string ⟨[116, 114, 117, 101].toArray⟩, .int .i64 1, .string ⟨[102, 97, 108, 115, 101].toArray⟩, .int .i64 1, .string ⟨[110, 117, 108, 108].toArray⟩, .int .i64 0]) rfl (by simp) (by kernel_rfl)
theorem lasts_tab : Lasts Tab := fun _ _ h hb => h.stay hb (h.elim fun _ h => h.inside)

theorem lexSpans_walk (A : Option Addr) (len cap : Nat) (z : List Int) (W : World) (hT : Tab W) (h : IsRow .u8 W A len cap z) :
    Calls Tryd.prog 3 #[.slice A len cap] W fun e w' => e = .returned (.bool true) ∧ Below W.heap.size W w' := by
  obtain ⟨l, hx⟩ := h.bytes
  exact lexSpans_core lasts_tab all_any A len cap l W hT hx

end Go.Proofs.YtoahnbjpmbhpfaaDoor
