/- The contract of the document's Begins (riffleref02). -/
import Derived.Test.YtoahnbjpmbhpfaaDoorRow
import Derived.Laws.BytesArg
import Derived.Outline
namespace Go.Proofs.YtoahnbjpmbhpfaaDoor
open Go.RowKit

theorem conv_one (W : World) (x : Int) :
    (convert 22 9 (.slice (some ⟨W.heap.size, 0, none⟩) 1 1)).run Tryd.prog (W.alloc (.cells #[.int .u8 x] 5)) = .ok (.string (strOfNums [x])) (W.alloc (.cells #[.int .u8 x] 5)) := by
  exact run_convert_bytes_arg _ _ _ Tryd.underlying22 Tryd.underlying5 W.heap.size 0 1 1 [x] rfl (fun i hi => by
    obtain rfl : i = 0 := by omega
    simp) _ Tryd.underlying9
theorem conv_one' (W : World) (o : Obj) (x : Int) :
    (convert 22 9 (.slice (some ⟨W.heap.size + 1, 0, none⟩) 1 1)).run Tryd.prog ((W.alloc o).alloc (.cells #[.int .u8 x] 5)) = .ok (.string (strOfNums [x])) ((W.alloc o).alloc (.cells #[.int .u8 x] 5)) := by
  have := conv_one (W.alloc o) x
  simpa using this

def sizeOfV : Value → Nat | .string b => b.size | _ => 0
def RelPad (s : ByteArray) (n : Nat) (W wr : World) (lo tp : Value) : Prop :=
  ∃ (k : Nat) (x y : ByteArray), lo = .string x ∧ tp = .string y ∧ x.size = s.size + k ∧ y.size = s.size + k ∧ s.size + k ≤ n ∧
    x.data.toList = s.data.toList ++ List.replicate k 128 ∧ y.data.toList = s.data.toList ++ List.replicate k 191 ∧ Below W.heap.size W wr

theorem least_cell (w : World) (n : Nat) (hn : n = 1 ∨ n = 2 ∨ n = 3 ∨ n = 4) :
    (w.alloc (.cells #[.int .i64 0, .int .i64 0, .int .i64 128, .int .i64 2048, .int .i64 65536] 3)).cell? ⟨w.heap.size, n, none⟩ = some (.int .i64 (leastR n)) := by
  rw [(Own.fresh w 3 _).at n]
  rcases hn with rfl | rfl | rfl | rfl <;> rfl

theorem ret_three {k : IntKind} {x y : Bool} {z : Int} {t : Bool × Bool × Int} (h : (x, y, z) = t) :
    Ending.returned (.tuple #[.bool x, .bool y, .int k z]) = .returned (.tuple #[.bool t.1, .bool t.2.1, .int k t.2.2]) := by subst h; rfl

theorem cons_of (s : ByteArray) (h : 0 < s.size) : ∃ t, s.data.toList = s[0] :: t := by
  have hl : 0 < s.data.toList.length := h
  cases hc : s.data.toList with
  | nil => rw [hc] at hl; simp at hl
  | cons a t =>
    refine ⟨t, ?_⟩
    have : s.data.toList[0] = a := by simp [hc]
    have e : s[0] = a := this
    rw [e]

theorem padR_of (s : ByteArray) (n : Nat) (c : UInt8) : s.data.toList ++ List.replicate (n - s.size) c = padR s.data.toList n c := rfl

theorem begR_cons (c : UInt8) (t : List UInt8) : begR (c :: t) =
    if sizeR c.toNat = 0 ∨ sizeR c.toNat < (c :: t).length then (false, false, 0) else
    if contR t then endR (c :: t).length (sizeR c.toNat).toNat (numR (padR (c :: t) (sizeR c.toNat).toNat 128)) (numR (padR (c :: t) (sizeR c.toNat).toNat 191)) else (false, false, 0) := rfl

theorem begR_end (s : ByteArray) (n : Nat) (h1 : 0 < s.size) (h4 : s.size ≤ n) (hr : sizeR s[0].toNat = n) (hc : ContTo s s.size) :
    begR s.data.toList = endR s.size n (numR (padR s.data.toList n 128)) (numR (padR s.data.toList n 191)) := by
  obtain ⟨t, ht⟩ := cons_of s h1
  have hs : s.size = s.data.toList.length := rfl
  unfold ContTo at hc
  rw [List.take_of_length_le (by rw [hs]; omega)] at hc
  rw [hs] at h4 h1 ⊢
  rw [ht] at hc h4 h1 ⊢
  simp only [List.drop_one, List.tail_cons] at hc
  rw [begR_cons]
  rw [if_neg (by rw [hr]; omega), if_pos hc, hr]
  rfl

theorem begR_not (s : ByteArray) (n k : Nat) (h1 : 0 < s.size) (h4 : s.size ≤ n) (hr : sizeR s[0].toNat = n) (hc : contR ((s.data.toList.take (k + 1)).drop 1) = false) :
    begR s.data.toList = (false, false, 0) := by
  obtain ⟨t, ht⟩ := cons_of s h1
  have hs : s.size = s.data.toList.length := rfl
  have hc' := cont_no _ _ hc
  rw [hs] at h4 h1
  rw [ht] at hc' h4 h1 ⊢
  simp only [List.drop_one, List.tail_cons] at hc'
  rw [begR_cons]
  rw [if_neg (by rw [hr]; omega), if_neg (by rw [hc']; simp)]

end Go.Proofs.YtoahnbjpmbhpfaaDoor
