/- The walk of OctetKinds: how many bytes each kind has. -/
import Derived.Test.YtkbcfclpfkpjeaaLaw01
namespace Go.Proofs.Ytkbcfclpfkpjeaa
open Go.RowKit

/-- How many of the first n bytes are of kind j. -/
def cntK (j n : Nat) : Nat := ((List.range n).filter fun c : Nat => kindI (c : Int) == (j : Int)).length
theorem cntK_zero (j : Nat) : cntK j 0 = 0 := rfl
theorem cntK_succ (j n : Nat) : cntK j (n + 1) = cntK j n + if kindI (n : Int) = (j : Int) then 1 else 0 := by
  unfold cntK
  rw [List.range_succ, List.filter_append, List.length_append]
  by_cases h : kindI (n : Int) = (j : Int) <;> simp [h]
theorem cntK_le (j n : Nat) : cntK j n ≤ n := by
  induction n with
  | zero => simp [cntK_zero]
  | succ n ih => rw [cntK_succ]; split <;> omega

/-- The counts of all kinds, as cells. -/
def countsK (n : Nat) : List Value := (List.range 11).map fun j => .int .i64 (cntK j n)
theorem countsK_len (n : Nat) : (countsK n).length = 11 := by simp [countsK]
theorem countsK_at (n j : Nat) (h : j < 11) : (countsK n)[j]? = some (.int .i64 (cntK j n)) := by
  simp [countsK, h]
theorem countsK_succ (n q : Nat) (h : kindI (n : Int) = (q : Int)) : (countsK n).set q (.int .i64 ((cntK q n : Int) + 1)) = countsK (n + 1) := by
  apply List.ext_getElem?
  intro i
  by_cases hi : i < 11
  · rw [countsK_at _ _ hi, List.getElem?_set]
    by_cases hq : q = i
    · subst hq
      rw [if_pos rfl, if_pos (by rw [countsK_len]; exact hi), cntK_succ, if_pos h]
      rfl
    · rw [if_neg hq, countsK_at _ _ hi, cntK_succ, if_neg (by rw [h]; intro e; exact hq (by omega))]
      rfl
  · rw [List.getElem?_eq_none (by rw [List.length_set, countsK_len]; omega), List.getElem?_eq_none (by rw [countsK_len]; omega)]
theorem countsK_all : countsK 256 = [.int .i64 231, .int .i64 4, .int .i64 1, .int .i64 1, .int .i64 1, .int .i64 1, .int .i64 1, .int .i64 1, .int .i64 1, .int .i64 11, .int .i64 3] := by
  kernel_rfl
theorem countsK_none : countsK 0 = List.replicate 11 (.int .i64 0) := by rfl
theorem kindI_range (c : Int) : ∃ q : Nat, q < 11 ∧ kindI c = q := by
  have h : 0 ≤ kindI c ∧ kindI c ≤ 10 := by
    unfold kindI
    repeat' split
    all_goals omega
  exact ⟨(kindI c).toNat, by omega, by omega⟩

set_option maxHeartbeats 1000000 in
set_option maxRecDepth 100000 in
theorem octetKinds_walk (w : World) :
    Calls Try.prog 5 #[] w fun e w' => e = .returned (.bool true) ∧ Below w.heap.size w w' := by
  have hmk : ∀ w : World, (Instr.makeSlice 29 (.int .i64 11) (.int .i64 11)).run Try.prog w = .ok (.slice (some ⟨w.heap.size, 0, none⟩) 11 11) (w.alloc (.cells (countsK 0).toArray 3)) := fun _ => by kernel_rfl
  have hown : (w.alloc (.cells (countsK 0).toArray 3)).ownsRow w.heap.size 3 1 (.slice (some ⟨w.heap.size, 0, none⟩) 11 11) 11 (countsK 0) := by
    have := World.ownsRow_lit (base := w.heap.size) (e := 3) (size := 1) w (countsK 0).toArray 11 (Nat.le_refl _) (by unfold maxLen; omega) (by rfl)
    simpa using this
  generalize hW : w.alloc (.cells (countsK 0).toArray 3) = W at hown
  have hbel : Below w.heap.size w W := by rw [← hW]; exact (Below.refl _ _).alloc (Nat.le_refl _) _
  have HW := Lib.hid hW
  clear hW
  go_enter Try.func5, Try.ntmps5
  go_wp2_with (go_at_call 6; refine (alive1_any _).mono ?_; rintro e w' ⟨rfl, rfl⟩)
  rw [HW.out]
  go_loopw [2] (fun i wr => ∃ k : Nat, k ≤ 256 ∧ i = .int .i64 k ∧ Below w.heap.size w wr ∧ wr.ownsRow w.heap.size 3 1 (.slice (some ⟨w.heap.size, 0, none⟩) 11 11) 11 (countsK k)) (fun i _ => 256 - (intOf i).toNat)
  case atStart => exact ⟨0, by omega, rfl, hbel, hown⟩
  case round =>
    obtain ⟨k, hk, rfl, hb, how⟩ := hrel
    by_cases hlt : k < 256
    · obtain ⟨q, hq, hkq⟩ := kindI_range (k : Int)
      have hcell : wr.cell? ⟨w.heap.size, q, none⟩ = some (.int .i64 (cntK q k)) := by
        rw [how.cellAt q (by omega), countsK_at _ _ hq]
      have hfz : wr.frozen? ⟨w.heap.size, q, none⟩ = false := how.frozenAt q
      have hst := (how.stored q (.int .i64 ((cntK q k : Int) + 1))).1
      rw [countsK_succ k q hkq] at hst
      have hc := cntK_le q k
      have hk1 := kind_any (k : Int)
      rw [hkq] at hk1
      have HK1 := Lib.hid hk1
      have HST := Lib.hid hst
      clear hk1 hst hkq how
      go_wp2_with (go_at_call 9; refine (HK1.out _).mono ?_; rintro e w' ⟨rfl, rfl⟩)
      go_roundw
      case rel => exact ⟨k + 1, by omega, by go_num, hb.setCell (Nat.le_refl _) _, HST.out⟩
      case measure => simp [intOf]; omega
    · obtain rfl : k = 256 := by omega
      rw [countsK_all] at how
      have c0 := how.cellAt 0 (by omega)
      have c1 := how.cellAt 1 (by omega)
      have c2 := how.cellAt 2 (by omega)
      have c3 := how.cellAt 3 (by omega)
      have c4 := how.cellAt 4 (by omega)
      have c5 := how.cellAt 5 (by omega)
      have c6 := how.cellAt 6 (by omega)
      have c7 := how.cellAt 7 (by omega)
      have c8 := how.cellAt 8 (by omega)
      have c9 := how.cellAt 9 (by omega)
      have c10 := how.cellAt 10 (by omega)
      simp only [List.getElem?_cons_succ, List.getElem?_cons_zero] at c0 c1 c2 c3 c4 c5 c6 c7 c8 c9 c10
      clear how
      go_wp2
      go_loop [4] (fun i => ∃ k : Nat, 2 ≤ k ∧ k ≤ 9 ∧ i = .int .i64 k) (fun i => 9 - (intOf i).toNat)
      case atStart => exact ⟨2, by omega, by omega, rfl⟩
      case round =>
        obtain ⟨k, hk2, hk9, rfl⟩ := hrel
        have r2 : 2 ≤ k + 1 := by omega
        have r9 : k < 9 → k + 1 ≤ 9 := fun h => h
        have hk : k = 2 ∨ k = 3 ∨ k = 4 ∨ k = 5 ∨ k = 6 ∨ k = 7 ∨ k = 8 ∨ k = 9 := by omega
        rcases hk with rfl | rfl | rfl | rfl | rfl | rfl | rfl | rfl
        all_goals go_wp2
        iterate 7
          · go_round
            case rel => exact ⟨_, r2, r9 (by decide), rfl⟩
            case measure => simp [intOf]
        go_ret
        exact ⟨rfl, hb⟩

end Go.Proofs.Ytkbcfclpfkpjeaa
