/- Layer 14's QueryRight. -/
import Derived.Test.YtclcjngdpicjjaaRows
import Derived.Test.YtclcjngdpicjjaaJ03
import Derived.Test.YtclcjngdpicjjaaJ05
import Derived.Test.YtclcjngdpicjjaaJ08
import Derived.Test.YtclcjngdpicjjaaJ13
import Derived.Test.YtclcjngdpicjjaaJ14
import Derived.Test.YtclcjngdpicjjaaJ19
import Derived.Test.YtclcjngdpicjjaaJ21
import Derived.Test.YtclcjngdpicjjaaJ20
namespace Go.Proofs.Ytclcjngdpicjjaa
open Go.RowKit
set_option linter.unusedVariables false
set_option linter.unusedSimpArgs false

/-- Where QueryRight's loops are. -/
def RelRo (W : World) (i : Value) (wr : World) : Prop := ∃ k : Nat, k ≤ 1000000 ∧ i = .int .i64 k ∧ Below W.heap.size W wr

set_option maxHeartbeats 4000000 in
set_option maxRecDepth 100000 in
theorem queryRight_core {G : World → Prop} (C : QueC G) (s : ByteArray) (W : World) (hG : G W) (hs : s.size ≤ maxLen) :
    Calls Try.prog 5 #[.string s] W fun e w' => e = .returned (.bool true) ∧ Below W.heap.size W w' := by
  have KV := Lib.hid (queryAlive_walk C W hG)
  unfold maxLen at hs
  by_cases h9 : s.size > 1000
  · have q : (s.size : Int) > 1000 := by omega
    go_enter Try.func5, Try.ntmps5
    go_wp2_with (go_at_call 6; refine KV.out.mono ?_; rintro e w1 ⟨rfl, hb1⟩)
    go_ret
    exact ⟨rfl, hb1⟩
  have q : ¬ (s.size : Int) > 1000 := by omega
  have KP := Lib.hid (fun w hb => C.parse s w (C.go hG hb) (by omega))
  unfold QaEnd at KP
  have hok := queQ_ok s.data.toList
  rw [show s.data.toList.length = s.size from rfl] at KP hok
  cases hq : queQ s.data.toList with
  | none =>
    rw [hq] at KP
    clear hok hq
    go_enter Try.func5, Try.ntmps5
    go_wp2_with (first
      | (go_at_call 6; refine KV.out.mono ?_; rintro e w1 ⟨rfl, hb1⟩)
      | (go_at_call 7
         go_must (
           refine (KP.out _ hb1).mono ?_
           rintro e w2 ⟨A2, n2, c2, rfl, r2, l2, hb2⟩
           obtain rfl : n2 = 0 := r2.1.symm
           have HB2 := Lib.hid (hb1.trans (hb2.mono hb1.size))
           clear hb1 hb2 r2)))
    go_ret
    exact ⟨rfl, HB2.out⟩
  | some xs =>
    rw [hq] at KP hok
    have HOK := Lib.hid (show ∀ x ∈ xs, x.sels ≠ [] ∧ ∀ y ∈ x.sels, SelOK 8008 y from fun x hx => ⟨(hok x hx).1, fun y hy => ((hok x hx).2 y hy).mono (by omega)⟩)
    have hcnt := queQ_cnt s.data.toList
    rw [hq] at hcnt
    have HCN := Lib.hid (show ∀ x ∈ xs, x.sels.length ≤ 1000 from fun x hx => Nat.le_trans (hcnt x hx) (by show s.size ≤ _; omega))
    clear hok hq hcnt
    go_enter Try.func5, Try.ntmps5
    go_wp2_with (first
      | (go_at_call 6; refine KV.out.mono ?_; rintro e w1 ⟨rfl, hb1⟩)
      | (go_at_call 7
         go_must (
           refine (KP.out _ hb1).mono ?_
           rintro e w2 ⟨A2, n2, c2, rfl, r2, l2, hb2⟩
           have HB2 := Lib.hid (hb1.trans (hb2.mono hb1.size))
           have hn9 : n2 ≤ 1000 := by omega
           have R2 := Lib.hid r2
           clear hb1 hb2 r2 l2)))
    have r2 : QRd w2 A2 n2 xs := R2.out
    have hl : xs.length = n2 := r2.1
    clear r2
    go_loopw [29] (fun i wr => RelSo W xs xs i wr ∧ Below w2.heap.size w2 wr) (fun i _ => xs.length - (intOf i).toNat)
    case atStart => exact ⟨⟨0, Nat.zero_le _, rfl, rfl, HB2.out⟩, Below.refl _ _⟩
    case round =>
      obtain ⟨⟨k, hk, rfl, ht, hb⟩, hb9⟩ := hrel
      by_cases hlt : k < xs.length
      rotate_left
      · have q2 : ¬ (k : Int) < n2 := by omega
        go_wp2
        go_ret
        exact ⟨rfl, hb⟩
      have q2 : (k : Int) < n2 := by omega
      have hk9 : (k : Int) ≤ 1000 := by omega
      have hX := R2.out.stay hb9
      obtain ⟨a, rfl, ha, hc⟩ := hX.2 (by omega)
      obtain ⟨B, m, cc, s0, s1, sr⟩ := hc k xs[k] (List.getElem?_eq_getElem hlt)
      obtain ⟨o1, o2⟩ := HOK.out _ (List.getElem_mem hlt)
      have m9 := HCN.out _ (List.getElem_mem hlt)
      clear hX hc ht
      generalize xs[k] = x at *
      have hm : x.sels.length = m := sr.1
      have hm0 : m ≠ 0 := fun e => o1 (List.eq_nil_of_length_eq_zero (by omega))
      have g0 : ((m : Int) == 0) = false := beq_eq_false_iff_ne.2 (by omega)
      have SR := Lib.hid sr
      have O2 := Lib.hid o2
      have HB := Lib.hid hb
      have HB9 := Lib.hid hb9
      clear sr o1 o2 hb hb9
      go_wp2
      obtain ⟨wo, hwo⟩ : ∃ wo, wo = wr := ⟨wr, rfl⟩
      subst hwo
      go_loopw [40] (fun j w => (∃ n : Nat, n ≤ x.sels.length ∧ j = .int .i64 n) ∧ Below wo.heap.size wo w) (fun j _ => x.sels.length - (intOf j).toNat)
      case atStart => exact ⟨⟨0, Nat.zero_le _, rfl⟩, below1 _ _⟩
      case round =>
        obtain ⟨⟨j, hj, rfl⟩, hbj⟩ := hrel
        by_cases hjl : j < x.sels.length
        rotate_left
        · have q3 : ¬ (j : Int) < m := by omega
          have HB8 := Lib.hid (HB.out.trans (hbj.mono HB.out.size))
          have HB7 := Lib.hid (HB9.out.trans (hbj.mono HB9.out.size))
          go_wp2
          go_roundw
          case rel => exact ⟨⟨k + 1, hlt, by go_num, rfl, HB8.out⟩, HB7.out⟩
          case measure => simp [intOf]; omega
        have q3 : (j : Int) < m := by omega
        have hj9 : (j : Int) ≤ 1000 := by omega
        have hSj := SR.out.stay hbj
        obtain ⟨b2, rfl, hb2', d2⟩ := hSj.2 (by omega)
        obtain ⟨w0, w1, w2, w3, w4, w5, w6, w7⟩ := d2 j x.sels[j] (List.getElem?_eq_getElem hjl)
        have HBZ := Lib.hid (fun o1 o2 => (hbj.alloc hbj.size o1).alloc (hbj.alloc hbj.size o1).size o2)
        have hy := O2.out _ (List.getElem_mem hjl)
        have HJ : True := trivial
        clear hSj d2
        generalize x.sels[j] = y at *
        cases hy with
        | any =>
          have KB := Lib.hid (fun w => rbad_any ⟨#[]⟩ w (by decide))
          rw [show badU (⟨#[]⟩ : ByteArray).data.toList = -1 from rfl] at KB
          have u0 : wr.cell? (b2.add (j * 8)) = some (.int .i64 1) := w0
          have u1 : wr.cell? ⟨(b2.add (j * 8)).block, (b2.add (j * 8)).off + 1, none⟩ = some (.string ⟨#[]⟩) := w1
          have u2 : wr.cell? ⟨(b2.add (j * 8)).block, (b2.add (j * 8)).off + 2, none⟩ = some (.int .i64 0) := w2
          have u3 : wr.cell? ⟨(b2.add (j * 8)).block, (b2.add (j * 8)).off + 3, none⟩ = some (.int .i64 0) := w3
          have u4 : wr.cell? ⟨(b2.add (j * 8)).block, (b2.add (j * 8)).off + 4, none⟩ = some (.int .i64 0) := w4
          have u5 : wr.cell? ⟨(b2.add (j * 8)).block, (b2.add (j * 8)).off + 5, none⟩ = some (.bool false) := w5
          have u6 : wr.cell? ⟨(b2.add (j * 8)).block, (b2.add (j * 8)).off + 6, none⟩ = some (.bool false) := w6
          have u7 : wr.cell? ⟨(b2.add (j * 8)).block, (b2.add (j * 8)).off + 7, none⟩ = some (.int .i64 0) := w7
          have OY := Lib.hid (fun o => (Own.fresh wr 35 #[.int .i64 1, .string ⟨#[]⟩, .int .i64 0, .int .i64 0, .int .i64 0, .bool false, .bool false, .int .i64 0]).over o)
          clear w0 w1 w2 w3 w4 w5 w6 w7
          clear HJ SR O2 HB HB9 hbj
          go_wp2_with (go_at_call 12; refine (KB.out _).mono ?_; rintro e w5 ⟨rfl, hb5⟩; have HB5 := Lib.hid ((HBZ.out _ _).trans (hb5.mono (HBZ.out _ _).size)); have oy := (OY.out _).stay hb5 (OY.out _).inside; have q2 : w5.cell? ⟨wr.heap.size, 2, none⟩ = some (.int .i64 0) := oy.at 2; have q3 : w5.cell? ⟨wr.heap.size, 3, none⟩ = some (.int .i64 0) := oy.at 3; have q4 : w5.cell? ⟨wr.heap.size, 4, none⟩ = some (.int .i64 0) := oy.at 4; have q7 : w5.cell? ⟨wr.heap.size, 7, none⟩ = some (.int .i64 0) := oy.at 7; clear hb5 oy)
          refine wp_loop_rounds 5 ?_
          rw [rounds_succ]; go_wp2
          rw [rounds_succ]; go_wp2
          rw [rounds_succ]; go_wp2
          rw [rounds_succ]; go_wp2
          rw [rounds_succ]; go_wp2
          go_roundw
          case rel => exact ⟨⟨j + 1, hjl, by go_num⟩, HB5.out.alloc HB5.out.size _⟩
          case measure => simp [intOf]; omega
        | name nm h1 h2 =>
          have KB := Lib.hid (fun w => rbad_any ⟨nm.toArray⟩ w (by show nm.length ≤ _; unfold maxLen; omega))
          rw [list_ba, h1] at KB
          clear h1 h2
          have u0 : wr.cell? (b2.add (j * 8)) = some (.int .i64 0) := w0
          have u1 : wr.cell? ⟨(b2.add (j * 8)).block, (b2.add (j * 8)).off + 1, none⟩ = some (.string ⟨nm.toArray⟩) := w1
          have u2 : wr.cell? ⟨(b2.add (j * 8)).block, (b2.add (j * 8)).off + 2, none⟩ = some (.int .i64 0) := w2
          have u3 : wr.cell? ⟨(b2.add (j * 8)).block, (b2.add (j * 8)).off + 3, none⟩ = some (.int .i64 0) := w3
          have u4 : wr.cell? ⟨(b2.add (j * 8)).block, (b2.add (j * 8)).off + 4, none⟩ = some (.int .i64 0) := w4
          have u5 : wr.cell? ⟨(b2.add (j * 8)).block, (b2.add (j * 8)).off + 5, none⟩ = some (.bool false) := w5
          have u6 : wr.cell? ⟨(b2.add (j * 8)).block, (b2.add (j * 8)).off + 6, none⟩ = some (.bool false) := w6
          have u7 : wr.cell? ⟨(b2.add (j * 8)).block, (b2.add (j * 8)).off + 7, none⟩ = some (.int .i64 0) := w7
          have OY := Lib.hid (fun o => (Own.fresh wr 35 #[.int .i64 0, .string ⟨nm.toArray⟩, .int .i64 0, .int .i64 0, .int .i64 0, .bool false, .bool false, .int .i64 0]).over o)
          clear w0 w1 w2 w3 w4 w5 w6 w7
          clear HJ SR O2 HB HB9 hbj
          go_wp2_with (go_at_call 12; refine (KB.out _).mono ?_; rintro e w5 ⟨rfl, hb5⟩; have HB5 := Lib.hid ((HBZ.out _ _).trans (hb5.mono (HBZ.out _ _).size)); have oy := (OY.out _).stay hb5 (OY.out _).inside; have q2 : w5.cell? ⟨wr.heap.size, 2, none⟩ = some (.int .i64 0) := oy.at 2; have q3 : w5.cell? ⟨wr.heap.size, 3, none⟩ = some (.int .i64 0) := oy.at 3; have q4 : w5.cell? ⟨wr.heap.size, 4, none⟩ = some (.int .i64 0) := oy.at 4; have q7 : w5.cell? ⟨wr.heap.size, 7, none⟩ = some (.int .i64 0) := oy.at 7; clear hb5 oy)
          refine wp_loop_rounds 5 ?_
          rw [rounds_succ]; go_wp2
          rw [rounds_succ]; go_wp2
          rw [rounds_succ]; go_wp2
          rw [rounds_succ]; go_wp2
          rw [rounds_succ]; go_wp2
          go_roundw
          case rel => exact ⟨⟨j + 1, hjl, by go_num⟩, HB5.out.alloc HB5.out.size _⟩
          case measure => simp [intOf]; omega
        | index v h1 =>
          have KB := Lib.hid (fun w => rbad_any ⟨#[]⟩ w (by decide))
          rw [show badU (⟨#[]⟩ : ByteArray).data.toList = -1 from rfl] at KB
          have v0 : ¬ v < -9007199254740991 := by have := h1.1; omega
          have v1 : ¬ v > 9007199254740991 := by have := h1.2; omega
          clear h1
          have u0 : wr.cell? (b2.add (j * 8)) = some (.int .i64 2) := w0
          have u1 : wr.cell? ⟨(b2.add (j * 8)).block, (b2.add (j * 8)).off + 1, none⟩ = some (.string ⟨#[]⟩) := w1
          have u2 : wr.cell? ⟨(b2.add (j * 8)).block, (b2.add (j * 8)).off + 2, none⟩ = some (.int .i64 v) := w2
          have u3 : wr.cell? ⟨(b2.add (j * 8)).block, (b2.add (j * 8)).off + 3, none⟩ = some (.int .i64 0) := w3
          have u4 : wr.cell? ⟨(b2.add (j * 8)).block, (b2.add (j * 8)).off + 4, none⟩ = some (.int .i64 0) := w4
          have u5 : wr.cell? ⟨(b2.add (j * 8)).block, (b2.add (j * 8)).off + 5, none⟩ = some (.bool false) := w5
          have u6 : wr.cell? ⟨(b2.add (j * 8)).block, (b2.add (j * 8)).off + 6, none⟩ = some (.bool false) := w6
          have u7 : wr.cell? ⟨(b2.add (j * 8)).block, (b2.add (j * 8)).off + 7, none⟩ = some (.int .i64 0) := w7
          have OY := Lib.hid (fun o => (Own.fresh wr 35 #[.int .i64 2, .string ⟨#[]⟩, .int .i64 v, .int .i64 0, .int .i64 0, .bool false, .bool false, .int .i64 0]).over o)
          clear w0 w1 w2 w3 w4 w5 w6 w7
          clear HJ SR O2 HB HB9 hbj
          go_wp2_with (go_at_call 12; refine (KB.out _).mono ?_; rintro e w5 ⟨rfl, hb5⟩; have HB5 := Lib.hid ((HBZ.out _ _).trans (hb5.mono (HBZ.out _ _).size)); have oy := (OY.out _).stay hb5 (OY.out _).inside; have q2 : w5.cell? ⟨wr.heap.size, 2, none⟩ = some (.int .i64 v) := oy.at 2; have q3 : w5.cell? ⟨wr.heap.size, 3, none⟩ = some (.int .i64 0) := oy.at 3; have q4 : w5.cell? ⟨wr.heap.size, 4, none⟩ = some (.int .i64 0) := oy.at 4; have q7 : w5.cell? ⟨wr.heap.size, 7, none⟩ = some (.int .i64 0) := oy.at 7; clear hb5 oy)
          refine wp_loop_rounds 5 ?_
          rw [rounds_succ]; go_wp2
          rw [rounds_succ]; go_wp2
          rw [rounds_succ]; go_wp2
          rw [rounds_succ]; go_wp2
          rw [rounds_succ]; go_wp2
          go_roundw
          case rel => exact ⟨⟨j + 1, hjl, by go_num⟩, HB5.out.alloc HB5.out.size _⟩
          case measure => simp [intOf]; omega
        | slice sa sb sc h1 h2 h3 =>
          cases sa with
          | none =>
            cases sb with
            | none =>
              have KB := Lib.hid (fun w => rbad_any ⟨#[]⟩ w (by decide))
              rw [show badU (⟨#[]⟩ : ByteArray).data.toList = -1 from rfl] at KB
              have sc0 : ¬ sc < -9007199254740991 := by have := h3.1; omega
              have sc1 : ¬ sc > 9007199254740991 := by have := h3.2; omega
              clear h1 h2 h3
              have u0 : wr.cell? (b2.add (j * 8)) = some (.int .i64 3) := w0
              have u1 : wr.cell? ⟨(b2.add (j * 8)).block, (b2.add (j * 8)).off + 1, none⟩ = some (.string ⟨#[]⟩) := w1
              have u2 : wr.cell? ⟨(b2.add (j * 8)).block, (b2.add (j * 8)).off + 2, none⟩ = some (.int .i64 0) := w2
              have u3 : wr.cell? ⟨(b2.add (j * 8)).block, (b2.add (j * 8)).off + 3, none⟩ = some (.int .i64 0) := w3
              have u4 : wr.cell? ⟨(b2.add (j * 8)).block, (b2.add (j * 8)).off + 4, none⟩ = some (.int .i64 0) := w4
              have u5 : wr.cell? ⟨(b2.add (j * 8)).block, (b2.add (j * 8)).off + 5, none⟩ = some (.bool false) := w5
              have u6 : wr.cell? ⟨(b2.add (j * 8)).block, (b2.add (j * 8)).off + 6, none⟩ = some (.bool false) := w6
              have u7 : wr.cell? ⟨(b2.add (j * 8)).block, (b2.add (j * 8)).off + 7, none⟩ = some (.int .i64 sc) := w7
              have OY := Lib.hid (fun o => (Own.fresh wr 35 #[.int .i64 3, .string ⟨#[]⟩, .int .i64 0, .int .i64 0, .int .i64 0, .bool false, .bool false, .int .i64 sc]).over o)
              clear w0 w1 w2 w3 w4 w5 w6 w7
              clear HJ SR O2 HB HB9 hbj
              go_wp2_with (go_at_call 12; refine (KB.out _).mono ?_; rintro e w5 ⟨rfl, hb5⟩; have HB5 := Lib.hid ((HBZ.out _ _).trans (hb5.mono (HBZ.out _ _).size)); have oy := (OY.out _).stay hb5 (OY.out _).inside; have q2 : w5.cell? ⟨wr.heap.size, 2, none⟩ = some (.int .i64 0) := oy.at 2; have q3 : w5.cell? ⟨wr.heap.size, 3, none⟩ = some (.int .i64 0) := oy.at 3; have q4 : w5.cell? ⟨wr.heap.size, 4, none⟩ = some (.int .i64 0) := oy.at 4; have q7 : w5.cell? ⟨wr.heap.size, 7, none⟩ = some (.int .i64 sc) := oy.at 7; clear hb5 oy)
              refine wp_loop_rounds 5 ?_
              rw [rounds_succ]; go_wp2
              rw [rounds_succ]; go_wp2
              rw [rounds_succ]; go_wp2
              rw [rounds_succ]; go_wp2
              rw [rounds_succ]; go_wp2
              go_roundw
              case rel => exact ⟨⟨j + 1, hjl, by go_num⟩, HB5.out.alloc HB5.out.size _⟩
              case measure => simp [intOf]; omega
            | some vb =>
              have KB := Lib.hid (fun w => rbad_any ⟨#[]⟩ w (by decide))
              rw [show badU (⟨#[]⟩ : ByteArray).data.toList = -1 from rfl] at KB
              have h2 : MaxQ vb := h2
              have vb0 : ¬ vb < -9007199254740991 := by have := h2.1; omega
              have vb1 : ¬ vb > 9007199254740991 := by have := h2.2; omega
              have sc0 : ¬ sc < -9007199254740991 := by have := h3.1; omega
              have sc1 : ¬ sc > 9007199254740991 := by have := h3.2; omega
              clear h1 h2 h3
              have u0 : wr.cell? (b2.add (j * 8)) = some (.int .i64 3) := w0
              have u1 : wr.cell? ⟨(b2.add (j * 8)).block, (b2.add (j * 8)).off + 1, none⟩ = some (.string ⟨#[]⟩) := w1
              have u2 : wr.cell? ⟨(b2.add (j * 8)).block, (b2.add (j * 8)).off + 2, none⟩ = some (.int .i64 0) := w2
              have u3 : wr.cell? ⟨(b2.add (j * 8)).block, (b2.add (j * 8)).off + 3, none⟩ = some (.int .i64 0) := w3
              have u4 : wr.cell? ⟨(b2.add (j * 8)).block, (b2.add (j * 8)).off + 4, none⟩ = some (.int .i64 vb) := w4
              have u5 : wr.cell? ⟨(b2.add (j * 8)).block, (b2.add (j * 8)).off + 5, none⟩ = some (.bool false) := w5
              have u6 : wr.cell? ⟨(b2.add (j * 8)).block, (b2.add (j * 8)).off + 6, none⟩ = some (.bool true) := w6
              have u7 : wr.cell? ⟨(b2.add (j * 8)).block, (b2.add (j * 8)).off + 7, none⟩ = some (.int .i64 sc) := w7
              have OY := Lib.hid (fun o => (Own.fresh wr 35 #[.int .i64 3, .string ⟨#[]⟩, .int .i64 0, .int .i64 0, .int .i64 vb, .bool false, .bool true, .int .i64 sc]).over o)
              clear w0 w1 w2 w3 w4 w5 w6 w7
              clear HJ SR O2 HB HB9 hbj
              go_wp2_with (go_at_call 12; refine (KB.out _).mono ?_; rintro e w5 ⟨rfl, hb5⟩; have HB5 := Lib.hid ((HBZ.out _ _).trans (hb5.mono (HBZ.out _ _).size)); have oy := (OY.out _).stay hb5 (OY.out _).inside; have q2 : w5.cell? ⟨wr.heap.size, 2, none⟩ = some (.int .i64 0) := oy.at 2; have q3 : w5.cell? ⟨wr.heap.size, 3, none⟩ = some (.int .i64 0) := oy.at 3; have q4 : w5.cell? ⟨wr.heap.size, 4, none⟩ = some (.int .i64 vb) := oy.at 4; have q7 : w5.cell? ⟨wr.heap.size, 7, none⟩ = some (.int .i64 sc) := oy.at 7; clear hb5 oy)
              refine wp_loop_rounds 5 ?_
              rw [rounds_succ]; go_wp2
              rw [rounds_succ]; go_wp2
              rw [rounds_succ]; go_wp2
              rw [rounds_succ]; go_wp2
              rw [rounds_succ]; go_wp2
              go_roundw
              case rel => exact ⟨⟨j + 1, hjl, by go_num⟩, HB5.out.alloc HB5.out.size _⟩
              case measure => simp [intOf]; omega
          | some va =>
            cases sb with
            | none =>
              have KB := Lib.hid (fun w => rbad_any ⟨#[]⟩ w (by decide))
              rw [show badU (⟨#[]⟩ : ByteArray).data.toList = -1 from rfl] at KB
              have h1 : MaxQ va := h1
              have va0 : ¬ va < -9007199254740991 := by have := h1.1; omega
              have va1 : ¬ va > 9007199254740991 := by have := h1.2; omega
              have sc0 : ¬ sc < -9007199254740991 := by have := h3.1; omega
              have sc1 : ¬ sc > 9007199254740991 := by have := h3.2; omega
              clear h1 h2 h3
              have u0 : wr.cell? (b2.add (j * 8)) = some (.int .i64 3) := w0
              have u1 : wr.cell? ⟨(b2.add (j * 8)).block, (b2.add (j * 8)).off + 1, none⟩ = some (.string ⟨#[]⟩) := w1
              have u2 : wr.cell? ⟨(b2.add (j * 8)).block, (b2.add (j * 8)).off + 2, none⟩ = some (.int .i64 0) := w2
              have u3 : wr.cell? ⟨(b2.add (j * 8)).block, (b2.add (j * 8)).off + 3, none⟩ = some (.int .i64 va) := w3
              have u4 : wr.cell? ⟨(b2.add (j * 8)).block, (b2.add (j * 8)).off + 4, none⟩ = some (.int .i64 0) := w4
              have u5 : wr.cell? ⟨(b2.add (j * 8)).block, (b2.add (j * 8)).off + 5, none⟩ = some (.bool true) := w5
              have u6 : wr.cell? ⟨(b2.add (j * 8)).block, (b2.add (j * 8)).off + 6, none⟩ = some (.bool false) := w6
              have u7 : wr.cell? ⟨(b2.add (j * 8)).block, (b2.add (j * 8)).off + 7, none⟩ = some (.int .i64 sc) := w7
              have OY := Lib.hid (fun o => (Own.fresh wr 35 #[.int .i64 3, .string ⟨#[]⟩, .int .i64 0, .int .i64 va, .int .i64 0, .bool true, .bool false, .int .i64 sc]).over o)
              clear w0 w1 w2 w3 w4 w5 w6 w7
              clear HJ SR O2 HB HB9 hbj
              go_wp2_with (go_at_call 12; refine (KB.out _).mono ?_; rintro e w5 ⟨rfl, hb5⟩; have HB5 := Lib.hid ((HBZ.out _ _).trans (hb5.mono (HBZ.out _ _).size)); have oy := (OY.out _).stay hb5 (OY.out _).inside; have q2 : w5.cell? ⟨wr.heap.size, 2, none⟩ = some (.int .i64 0) := oy.at 2; have q3 : w5.cell? ⟨wr.heap.size, 3, none⟩ = some (.int .i64 va) := oy.at 3; have q4 : w5.cell? ⟨wr.heap.size, 4, none⟩ = some (.int .i64 0) := oy.at 4; have q7 : w5.cell? ⟨wr.heap.size, 7, none⟩ = some (.int .i64 sc) := oy.at 7; clear hb5 oy)
              refine wp_loop_rounds 5 ?_
              rw [rounds_succ]; go_wp2
              rw [rounds_succ]; go_wp2
              rw [rounds_succ]; go_wp2
              rw [rounds_succ]; go_wp2
              rw [rounds_succ]; go_wp2
              go_roundw
              case rel => exact ⟨⟨j + 1, hjl, by go_num⟩, HB5.out.alloc HB5.out.size _⟩
              case measure => simp [intOf]; omega
            | some vb =>
              have KB := Lib.hid (fun w => rbad_any ⟨#[]⟩ w (by decide))
              rw [show badU (⟨#[]⟩ : ByteArray).data.toList = -1 from rfl] at KB
              have h1 : MaxQ va := h1
              have va0 : ¬ va < -9007199254740991 := by have := h1.1; omega
              have va1 : ¬ va > 9007199254740991 := by have := h1.2; omega
              have h2 : MaxQ vb := h2
              have vb0 : ¬ vb < -9007199254740991 := by have := h2.1; omega
              have vb1 : ¬ vb > 9007199254740991 := by have := h2.2; omega
              have sc0 : ¬ sc < -9007199254740991 := by have := h3.1; omega
              have sc1 : ¬ sc > 9007199254740991 := by have := h3.2; omega
              clear h1 h2 h3
              have u0 : wr.cell? (b2.add (j * 8)) = some (.int .i64 3) := w0
              have u1 : wr.cell? ⟨(b2.add (j * 8)).block, (b2.add (j * 8)).off + 1, none⟩ = some (.string ⟨#[]⟩) := w1
              have u2 : wr.cell? ⟨(b2.add (j * 8)).block, (b2.add (j * 8)).off + 2, none⟩ = some (.int .i64 0) := w2
              have u3 : wr.cell? ⟨(b2.add (j * 8)).block, (b2.add (j * 8)).off + 3, none⟩ = some (.int .i64 va) := w3
              have u4 : wr.cell? ⟨(b2.add (j * 8)).block, (b2.add (j * 8)).off + 4, none⟩ = some (.int .i64 vb) := w4
              have u5 : wr.cell? ⟨(b2.add (j * 8)).block, (b2.add (j * 8)).off + 5, none⟩ = some (.bool true) := w5
              have u6 : wr.cell? ⟨(b2.add (j * 8)).block, (b2.add (j * 8)).off + 6, none⟩ = some (.bool true) := w6
              have u7 : wr.cell? ⟨(b2.add (j * 8)).block, (b2.add (j * 8)).off + 7, none⟩ = some (.int .i64 sc) := w7
              have OY := Lib.hid (fun o => (Own.fresh wr 35 #[.int .i64 3, .string ⟨#[]⟩, .int .i64 0, .int .i64 va, .int .i64 vb, .bool true, .bool true, .int .i64 sc]).over o)
              clear w0 w1 w2 w3 w4 w5 w6 w7
              clear HJ SR O2 HB HB9 hbj
              go_wp2_with (go_at_call 12; refine (KB.out _).mono ?_; rintro e w5 ⟨rfl, hb5⟩; have HB5 := Lib.hid ((HBZ.out _ _).trans (hb5.mono (HBZ.out _ _).size)); have oy := (OY.out _).stay hb5 (OY.out _).inside; have q2 : w5.cell? ⟨wr.heap.size, 2, none⟩ = some (.int .i64 0) := oy.at 2; have q3 : w5.cell? ⟨wr.heap.size, 3, none⟩ = some (.int .i64 va) := oy.at 3; have q4 : w5.cell? ⟨wr.heap.size, 4, none⟩ = some (.int .i64 vb) := oy.at 4; have q7 : w5.cell? ⟨wr.heap.size, 7, none⟩ = some (.int .i64 sc) := oy.at 7; clear hb5 oy)
              refine wp_loop_rounds 5 ?_
              rw [rounds_succ]; go_wp2
              rw [rounds_succ]; go_wp2
              rw [rounds_succ]; go_wp2
              rw [rounds_succ]; go_wp2
              rw [rounds_succ]; go_wp2
              go_roundw
              case rel => exact ⟨⟨j + 1, hjl, by go_num⟩, HB5.out.alloc HB5.out.size _⟩
              case measure => simp [intOf]; omega

theorem queryRight_walk (s : ByteArray) (W : World) (hs : s.size ≤ maxLen) :
    Calls Try.prog 5 #[.string s] W fun e w' => e = .returned (.bool true) ∧ Below W.heap.size W w' :=
  queryRight_core queC s W trivial hs

end Go.Proofs.Ytclcjngdpicjjaa
