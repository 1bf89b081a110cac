/- The contracts of the document's Begins, as a walk's state says it, and Bad (riffleref02): as XRef02C, without package utf (for the layers above 2). -/
import Derived.Test.YtoahnbjpmbhpfaaDoorRef02B
import Derived.Outline
namespace Go.Proofs.YtoahnbjpmbhpfaaDoor
open Go.RowKit

theorem part_snoc (s : ByteArray) (j k : Nat) (hjk : j ≤ k) (hk : k < s.size) : (s.extract j (k + 1)).data.toList = (s.data.toList.take k).drop j ++ [s[k]] := by
  have hl : k < s.data.toList.length := hk
  rw [ByteArray.data_extract, Array.toList_extract, List.extract_eq_take_drop]
  rw [show s[k] = s.data.toList[k] from rfl, ← List.drop_append_of_le_length (by simp; omega), ← List.take_succ_eq_append_getElem hl, List.drop_take]

/-- Where Bad's loop is: the last sign's end, and the state. -/
def RelRBad (s : ByteArray) (W wr : World) (fr i : Value) : Prop :=
  ∃ (j k : Nat) (sg lf : Int), j ≤ k ∧ k ≤ s.size ∧ (j = k ↔ lf = 0) ∧ fr = .int .i64 j ∧ i = .int .i64 k ∧ StU sg lf ∧ InvL ((s.data.toList.take k).drop j) sg lf ∧ Below W.heap.size W wr ∧ badU s.data.toList = runU sg lf (s.data.toList.drop k) k

end Go.Proofs.YtoahnbjpmbhpfaaDoor
