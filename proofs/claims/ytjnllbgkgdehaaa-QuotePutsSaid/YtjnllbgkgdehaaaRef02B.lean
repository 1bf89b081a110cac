/- The contract of the document's Begins (riffleref02). -/
import Derived.Test.YtjnllbgkgdehaaaRow
import Derived.Laws.BytesArg
import Derived.Outline
namespace Go.Proofs.Ytjnllbgkgdehaaa
open Go.RowKit

theorem conv_one (W : World) (x : Int) :
    (convert 30 9 (.slice (some ⟨W.heap.size, 0, none⟩) 1 1)).run Try.prog (W.alloc (.cells #[.int .u8 x] 5)) = .ok (.string (strOfNums [x])) (W.alloc (.cells #[.int .u8 x] 5)) := by
  exact run_convert_bytes_arg _ _ _ Try.underlying30 Try.underlying5 W.heap.size 0 1 1 [x] rfl (fun i hi => by
    obtain rfl : i = 0 := by omega
    simp) _ Try.underlying9
theorem conv_one' (W : World) (o : Obj) (x : Int) :
    (convert 30 9 (.slice (some ⟨W.heap.size + 1, 0, none⟩) 1 1)).run Try.prog ((W.alloc o).alloc (.cells #[.int .u8 x] 5)) = .ok (.string (strOfNums [x])) ((W.alloc o).alloc (.cells #[.int .u8 x] 5)) := by
  have := conv_one (W.alloc o) x
  simpa using this

def sizeOfV : Value → Nat | .string b => b.size | _ => 0
def RelPad (s : ByteArray) (n : Nat) (W wr : World) (lo tp : Value) : Prop :=
  ∃ (k : Nat) (x y : ByteArray), lo = .string x ∧ tp = .string y ∧ x.size = s.size + k ∧ y.size = s.size + k ∧ s.size + k ≤ n ∧
    x.data.toList = s.data.toList ++ List.replicate k 128 ∧ y.data.toList = s.data.toList ++ List.replicate k 191 ∧ Below W.heap.size W wr

theorem least_cell (w : World) (n : Nat) (hn : n = 1 ∨ n = 2 ∨ n = 3 ∨ n = 4) :
    (w.alloc (.cells #[.int .i64 0, .int .i64 0, .int .i64 128, .int .i64 2048, .int .i64 65536] 3)).cell? ⟨w.heap.size, n, none⟩ = some (.int .i64 (leastR n)) := by
  rw [(Own.fresh w 3 _).at n]
  rcases hn with rfl | rfl | rfl | rfl <;> rfl

theorem ret_three {k : IntKind} {x y : Bool} {z : Int} {t : Bool × Bool × Int} (h : (x, y, z) = t) :
    Ending.returned (.tuple #[.bool x, .bool y, .int k z]) = .returned (.tuple #[.bool t.1, .bool t.2.1, .int k t.2.2]) := by subst h; rfl

theorem cons_of (s : ByteArray) (h : 0 < s.size) : ∃ t, s.data.toList = s[0] :: t := by
  have hl : 0 < s.data.toList.length := h
  cases hc : s.data.toList with
  | nil => rw [hc] at hl; simp at hl
  | cons a t =>
    refine ⟨t, ?_⟩
    have : s.data.toList[0] = a := by simp [hc]
    have e : s[0] = a := this
    rw [e]

theorem padR_of (s : ByteArray) (n : Nat) (c : UInt8) : s.data.toList ++ List.replicate (n - s.size) c = padR s.data.toList n c := rfl

theorem begR_cons (c : UInt8) (t : List UInt8) : begR (c :: t) =
    if sizeR c.toNat = 0 ∨ sizeR c.toNat < (c :: t).length then (false, false, 0) else
    if contR t then endR (c :: t).length (sizeR c.toNat).toNat (numR (padR (c :: t) (sizeR c.toNat).toNat 128)) (numR (padR (c :: t) (sizeR c.toNat).toNat 191)) else (false, false, 0) := rfl

theorem begR_end (s : ByteArray) (n : Nat) (h1 : 0 < s.size) (h4 : s.size ≤ n) (hr : sizeR s[0].toNat = n) (hc : ContTo s s.size) :
    begR s.data.toList = endR s.size n (numR (padR s.data.toList n 128)) (numR (padR s.data.toList n 191)) := by
  obtain ⟨t, ht⟩ := cons_of s h1
  have hs : s.size = s.data.toList.length := rfl
  unfold ContTo at hc
  rw [List.take_of_length_le (by rw [hs]; omega)] at hc
  rw [hs] at h4 h1 ⊢
  rw [ht] at hc h4 h1 ⊢
  simp only [List.drop_one, List.tail_cons] at hc
  rw [begR_cons]
  rw [if_neg (by rw [hr]; omega), if_pos hc, hr]
  rfl

theorem begR_not (s : ByteArray) (n k : Nat) (h1 : 0 < s.size) (h4 : s.size ≤ n) (hr : sizeR s[0].toNat = n) (hc : contR ((s.data.toList.take (k + 1)).drop 1) = false) :
    begR s.data.toList = (false, false, 0) := by
  obtain ⟨t, ht⟩ := cons_of s h1
  have hs : s.size = s.data.toList.length := rfl
  have hc' := cont_no _ _ hc
  rw [hs] at h4 h1
  rw [ht] at hc' h4 h1 ⊢
  simp only [List.drop_one, List.tail_cons] at hc'
  rw [begR_cons]
  rw [if_neg (by rw [hr]; omega), if_neg (by rw [hc']; simp)]

set_option maxRecDepth 100000 in
set_option maxHeartbeats 2000000 in
theorem rbegins_core (s : ByteArray) (W : World) (n : Nat) (hn : n = 1 ∨ n = 2 ∨ n = 3 ∨ n = 4) (h1 : 0 < s.size) (h4 : s.size ≤ n) (hr : sizeR s[0].toNat = n) :
    Calls Try.prog 13 #[.string s] W fun e w' => e = .returned (.tuple #[.bool (begR s.data.toList).1, .bool (begR s.data.toList).2.1, .int .i64 (begR s.data.toList).2.2]) ∧ Below W.heap.size W w' := by
  have hcv1 := conv_one
  have hcv2 := conv_one'
  have hlc := fun w => least_cell w n hn
  have z1 : (strOfNums [128]).size = 1 := rfl
  have z2 : (strOfNums [191]).size = 1 := rfl
  have n1 : 1 ≤ n := by omega
  have n4 : n ≤ 4 := by omega
  have n0 : ((n : Int) == 0) = false := beq_eq_false_iff_ne.2 (by omega)
  have hs1 := fun w => rsize_any s[0].toNat w
  rw [hr] at hs1
  have HS := Lib.hid hs1
  have HR := Lib.hid hr
  clear hs1 hr hn
  go_enter Try.func13, Try.ntmps13
  go_wp2_with (first | (go_at_call 23; refine (HS.out _).mono ?_; rintro e w' ⟨rfl, rfl⟩))
  go_loop [6] (fun i => RelCont s i) (fun i => s.size - (intOf i).toNat)
  case atStart => exact ⟨1, Nat.le_refl _, h1, rfl, contTo_one s⟩
  case round =>
    obtain ⟨k, hk1, hk, rfl, hcont⟩ := hrel
    by_cases hlt : k < s.size
    · obtain ⟨c0, c9⟩ := byte_le s k hlt
      have HS := Lib.hid (cont_snoc s k hk1 hlt)
      have HK := Lib.hid hcont
      by_cases hlo : (s[k].toNat : Int) < 128
      · have HB := Lib.hid (begR_not s n k h1 h4 HR.out (by rw [HS.out]; simp; omega))
        clear hcont
        go_wp2
        go_ret3
        exact ⟨ret_three HB.out.symm, Below.refl _ _⟩
      · by_cases hhi : 191 < (s[k].toNat : Int)
        · have HB := Lib.hid (begR_not s n k h1 h4 HR.out (by rw [HS.out]; simp; omega))
          clear hcont
          go_wp2
          go_ret3
          exact ⟨ret_three HB.out.symm, Below.refl _ _⟩
        · clear hcont
          have hlo' : 128 ≤ (s[k].toNat : Int) := by omega
          have hhi' : (s[k].toNat : Int) ≤ 191 := by omega
          go_wp2
          go_round
          case rel => exact ⟨k + 1, by omega, hlt, by go_num, by unfold ContTo; rw [HS.out, show contR ((s.data.toList.take k).drop 1) = true from HK.out]; simp; omega⟩
          case measure => simp [intOf]; omega
    · obtain rfl : k = s.size := by omega
      have HC := Lib.hid hcont
      clear hcont
      go_wp2
      go_loopw [7, 8] (fun lo tp wr => RelPad s n W wr lo tp) (fun lo _ _ => n - sizeOfV lo)
      case atStart => exact ⟨0, s, s, rfl, rfl, rfl, rfl, h4, by simp, by simp, Below.refl _ _⟩
      case round =>
        obtain ⟨j, x, y, rfl, rfl, hx, hy, hj, hxl, hyl, hbel⟩ := hrel
        by_cases hlt : x.size < n
        · have hx1 : x.size ≤ 4 := by omega
          have hy1 : y.size ≤ 4 := by omega
          have hyn : y.size < n := by omega
          have hj' : s.size + (j + 1) ≤ n := by omega
          have HX := Lib.hid hx
          have HY := Lib.hid hy
          have HXL := Lib.hid hxl
          have HYL := Lib.hid hyl
          clear hx hy hxl hyl
          go_wp2
          case roundEnd =>
            refine ⟨⟨j + 1, _, _, rfl, rfl, ?_, ?_, hj', ?_, ?_, (hbel.alloc hbel.size _).alloc (by have := hbel.size; simp; omega) _⟩, ?_⟩
            · rw [ByteArray.size_append, HX.out]; rfl
            · rw [ByteArray.size_append, HY.out]; rfl
            · rw [ByteArray.data_append]; simp [HXL.out, List.replicate_succ']; rfl
            · rw [ByteArray.data_append]; simp [HYL.out, List.replicate_succ']; rfl
            · simp only [sizeOfV, ByteArray.size_append]; rw [z1]; omega
        · have HX := Lib.hid hx
          have HY := Lib.hid hy
          have HXL := Lib.hid hxl
          have HYL := Lib.hid hyl
          have hx1 : x.size ≤ 4 := by omega
          have hy1 : y.size ≤ 4 := by omega
          have hx0 : 0 < x.size := by omega
          have hy0 : 0 < y.size := by omega
          have ha := fun w => rnumber_any x w hx0 hx1
          have hb := fun w => rnumber_any y w hy0 hy1
          have HA := Lib.hid ha
          have HB := Lib.hid hb
          have hjn : j = n - s.size := by omega
          have HE := Lib.hid (begR_end s n h1 h4 HR.out HC.out)
          rw [← padR_of s n, ← padR_of s n, ← hjn, ← hxl, ← hyl] at HE
          clear hx hy hxl hyl ha hb hjn
          generalize numR x.data.toList = a at *
          generalize numR y.data.toList = b at *
          go_wp2_with (first
            | (go_at_call 24; (with_reducible refine (HA.out _).mono ?_); rintro e w' ⟨rfl, rfl⟩)
            | (go_at_call 24; (with_reducible refine (HB.out _).mono ?_); rintro e w' ⟨rfl, rfl⟩))
          all_goals
            go_ret3
            refine ⟨ret_three (Eq.trans ?_ HE.out.symm), hbel.alloc hbel.size _⟩
            unfold endR
            simp only [beq_iff_eq, beq_eq_false_iff_ne] at *
            split <;> (try split) <;> first | rfl | omega
end Go.Proofs.Ytjnllbgkgdehaaa
