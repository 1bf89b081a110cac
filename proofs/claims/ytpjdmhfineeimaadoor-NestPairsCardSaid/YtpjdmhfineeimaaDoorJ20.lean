/- Package nest as the bundle that NestPairs' walk asks for; NestPairs. -/
import Derived.Test.YtpjdmhfineeimaaDoorJ19
namespace Go.Proofs.YtpjdmhfineeimaaDoor
open Go.RowKit
set_option linter.unusedVariables false

theorem laidOut0 : laidOutB Tryd.prog = true := by kernel_rfl
/-- What the row's list gives. -/
theorem tab_of_laid {W : World} (h : laidMetH Tryd.prog Rows.nestPairsRow.laid W) : Tab W :=
  laid_own laidOut0 (by kernel_rfl) h (List.mem_cons_self ..) (l := [.string ⟨[116, 114, 117, 101].toArray⟩, .int .i64 1, .string ⟨[102, 97, 108, 115, 101].toArray⟩, .int .i64 1, .string ⟨[110, 117, 108, 108].toArray⟩, .int .i64 0]) rfl (by simp) (by kernel_rfl)

def nestC : NestC where
  St := NIs
  has := fun h => h.has
  mono := fun h hs => h.mono hs
  stay := fun h ht hd => h.move ht hd
  new := fun d w h1 h2 => NIs.new d w h1 h2
  take := fun w b F n s p t hi hw _ _ hm h5 hT _ hF h => Take_nest h hF hi hw hT hm h5
  depth := fun w b F n h => h.depth
  done := fun w b F n h => h.done

theorem nestPairs_walk (A : Option Addr) (len cap : Nat) (z : List Int) (d : Int) (W : World) (hT : Tab W) (h : IsRow .u8 W A len cap z) (hd : (Lit.int .u8 d).wf = true) :
    Calls Tryd.prog 3 #[.slice A len cap, .int .u8 d] W fun e w' => e = .returned (.bool true) ∧ Below W.heap.size W w' := by
  obtain ⟨l, hx⟩ := h.bytes
  have hd2 : 0 ≤ d ∧ d ≤ 255 := by
    simp [Lit.wf, IntKind.min, IntKind.max, IntKind.signed, IntKind.bits] at hd
    omega
  exact nestPairs_core nestC all_new (fun w hT => nestAlive_any nestC all_new w hT) A len cap l d hd2.1 hd2.2 W hT hx

end Go.Proofs.YtpjdmhfineeimaaDoor
