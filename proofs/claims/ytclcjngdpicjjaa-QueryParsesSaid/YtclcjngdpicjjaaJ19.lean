/- The walks of layer 14's laws over what package query is proved to do: the bundle; QueryInts. -/
import Derived.Test.YtclcjngdpicjjaaRows
import Derived.Test.YtclcjngdpicjjaaJ03
import Derived.Test.YtclcjngdpicjjaaJ05
import Derived.Test.YtclcjngdpicjjaaJ08
namespace Go.Proofs.Ytclcjngdpicjjaa
open Go.RowKit
set_option linter.unusedVariables false

/-- What Parse answers, the program's or the document's. -/
def QaEnd (l : List UInt8) (W : World) (e : Ending) (w' : World) : Prop :=
  ∃ A n c, e = .returned (.tuple #[.slice A n c, .bool (queQ l).isSome]) ∧ QRd w' A n ((queQ l).getD []) ∧ n ≤ l.length ∧ Below W.heap.size W w'
theorem qa_of {l : List UInt8} {W w' : World} {e : Ending} (h : QpEnd l W e w') : QaEnd l W e w' := by
  unfold QpEnd at h
  cases hq : queQ l with
  | none =>
    rw [hq] at h
    obtain ⟨rfl, hb⟩ := h
    exact ⟨none, 0, 0, by rw [hq]; rfl, by rw [hq]; exact ⟨rfl, fun h => absurd h (by omega)⟩, Nat.zero_le _, hb⟩
  | some xs =>
    rw [hq] at h
    obtain ⟨⟨v, rfl, hr, hl⟩, hb⟩ := h
    obtain ⟨A, c, rfl, hrd⟩ := qrd_of hr
    exact ⟨A, xs.length, c, by rw [hq]; rfl, by rw [hq]; exact hrd, hl, hb⟩
/-- What package query does, where G holds of the package-level variables. -/
structure QueC (G : World → Prop) : Prop where
  stay : ∀ w w', G w → Below w.heap.size w w' → G w'
  int : ∀ (s : ByteArray) (w : World), G w → s.size ≤ 100000 → Calls Try.prog 10 #[.string s] w (InEnd s.data.toList w)
  parse : ∀ (s : ByteArray) (w : World), G w → s.size ≤ 100000 → Calls Try.prog 7 #[.string s] w (QaEnd s.data.toList w)
theorem QueC.go {G : World → Prop} (C : QueC G) {W w : World} (h : G W) (hb : Below W.heap.size W w) : G w := C.stay W w h hb
theorem in_form {l : List UInt8} {W w' : World} {e : Ending} (h : InEnd l W e w') : e = .returned (.tuple #[.int .i64 (((nrQ l).map (·.1)).getD 0), .int .i64 ((((nrQ l).map (·.2)).getD 0 : Nat) : Int), .bool (nrQ l).isSome]) ∧ Below W.heap.size W w' := by
  unfold InEnd at h
  cases hq : nrQ l with
  | none => rw [hq] at h; exact h
  | some p => rw [hq] at h; exact h

set_option maxHeartbeats 1000000 in
set_option maxRecDepth 100000 in
theorem queryInts_core {G : World → Prop} (C : QueC G) (HV : ∀ (w : World), G w → Calls Try.prog 6 #[] w fun e w' => e = .returned (.bool true) ∧ Below w.heap.size w w') (s : ByteArray) (W : World) (hG : G W) (hs : s.size ≤ maxLen) :
    Calls Try.prog 4 #[.string s] W fun e w' => e = .returned (.bool true) ∧ Below W.heap.size W w' := by
  have KV := Lib.hid (HV W hG)
  unfold maxLen at hs
  by_cases h9 : s.size > 200
  · have q : (s.size : Int) > 200 := by omega
    go_enter Try.func4, Try.ntmps4
    go_wp2_with (go_at_call 6; refine KV.out.mono ?_; rintro e w1 ⟨rfl, hb1⟩)
    go_ret
    exact ⟨rfl, hb1⟩
  have q : ¬ (s.size : Int) > 200 := by omega
  have KP := Lib.hid (fun w hb => (C.int s w (C.go hG hb) (by omega)).mono fun e w' h => in_form h)
  have KR := Lib.hid (fun w => (rint14_any s w (by omega)).mono fun e w' h => in_form h)
  generalize ((nrQ s.data.toList).map (·.1)).getD 0 = v at *
  generalize ((nrQ s.data.toList).map (·.2)).getD 0 = n at *
  generalize (nrQ s.data.toList).isSome = ok at *
  have q1 : (v == v) = true := by simp
  have q2 : ((n : Int) == n) = true := by simp
  have q3 : (ok == ok) = true := by simp
  go_enter Try.func4, Try.ntmps4
  go_wp2_with (first
    | (go_at_call 6; refine KV.out.mono ?_; rintro e w1 ⟨rfl, hb1⟩)
    | (go_at_call 10
       go_must (
         refine (KP.out _ hb1).mono ?_
         rintro e w2 ⟨rfl, hb2⟩
         have HB2 := Lib.hid (hb1.trans (hb2.mono hb1.size))
         clear hb1 hb2))
    | (go_at_call 11
       go_must (
         refine (KR.out _).mono ?_
         rintro e w3 ⟨rfl, hb3⟩
         have HB3 := Lib.hid (HB2.out.trans (hb3.mono HB2.out.size))
         clear hb3)))
  go_ret
  exact ⟨rfl, HB3.out⟩

end Go.Proofs.Ytclcjngdpicjjaa

namespace Go.Proofs.Ytclcjngdpicjjaa
open Go.RowKit
set_option linter.unusedVariables false

def aliveQ : List Sgm := [⟨false, [sqN [97]]⟩, ⟨false, [sqS (some 1) none 1, sqN [120]]⟩, ⟨true, [sqA]⟩]
set_option maxRecDepth 100000 in
theorem alive_que : queQ [36, 46, 97, 91, 49, 58, 44, 32, 39, 120, 39, 93, 46, 46, 42] = some aliveQ := by kernel_rfl

set_option maxHeartbeats 1000000 in
set_option maxRecDepth 100000 in
theorem queryAlive_walk {G : World → Prop} (C : QueC G) (W : World) (hG : G W) :
    Calls Try.prog 6 #[] W fun e w' => e = .returned (.bool true) ∧ Below W.heap.size W w' := by
  have KP : Calls Try.prog 7 #[.string ⟨#[36, 46, 97, 91, 49, 58, 44, 32, 39, 120, 39, 93, 46, 46, 42]⟩] W fun e w' => ∃ A n c, e = .returned (.tuple #[.slice A n c, .bool true]) ∧ QRd w' A n aliveQ ∧ Below W.heap.size W w' := by
    refine (C.parse ⟨#[36, 46, 97, 91, 49, 58, 44, 32, 39, 120, 39, 93, 46, 46, 42]⟩ W hG (by decide)).mono ?_
    rintro e w' ⟨A, n, c, rfl, hr, _, hb⟩
    have hq : queQ (⟨#[36, 46, 97, 91, 49, 58, 44, 32, 39, 120, 39, 93, 46, 46, 42]⟩ : ByteArray).data.toList = some aliveQ := alive_que
    rw [hq] at hr ⊢
    exact ⟨A, n, c, rfl, hr, hb⟩
  replace KP := Lib.hid KP
  go_enter Try.func6, Try.ntmps6
  go_wp2_with (
    (go_at_call 7
     go_must (
       refine KP.out.mono ?_
       rintro e w1 ⟨A, n, c, rfl, hr, hb1⟩
       obtain rfl : 3 = n := hr.1
       obtain ⟨a, rfl, ha, hc⟩ := hr.2 (by decide)
       obtain ⟨B1, m1, c1, s0, s1, r1⟩ := hc 1 _ rfl
       obtain rfl : 2 = m1 := r1.1
       obtain ⟨b1, rfl, k1, d1⟩ := r1.2 (by decide)
       obtain ⟨e0, e1, e9⟩ := d1 1 _ rfl
       obtain ⟨B2, m2, c2, t0, t1, r2⟩ := hc 2 _ rfl
       obtain rfl : 1 = m2 := r2.1
       obtain ⟨b2, rfl, k2, d2⟩ := r2.2 (by decide)
       obtain ⟨e2, e8⟩ := d2 0 _ rfl
       have HB1 := Lib.hid hb1
       have f1 : w1.cell? ⟨a.block, a.off + 2 + 1, none⟩ = some (.slice (some b1) 2 c1) := by have h := s1; simp [Addr.add] at h; exact h
       have f2 : w1.cell? ⟨b1.block, b1.off + 8 + 1, none⟩ = some (.string ⟨#[120]⟩) := by have h := e1; simp [Addr.add, sqN] at h; exact h
       have f3 : w1.cell? ⟨a.block, a.off + 4, none⟩ = some (.bool true) := by have h := t0; simp [Addr.add] at h; exact h
       have f4 : w1.cell? ⟨a.block, a.off + 4 + 1, none⟩ = some (.slice (some b2) 1 c2) := by have h := t1; simp [Addr.add] at h; exact h
       have f5 : w1.cell? b2 = some (.int .i64 1) := by have h := e2; simp [Addr.add, sqA] at h; exact h
       clear hr ha hc r1 d1 r2 d2 hb1 s0 s1 k1 e0 e1 e9 t0 t1 k2 e2 e8)))
  go_ret
  exact ⟨rfl, HB1.out⟩

end Go.Proofs.Ytclcjngdpicjjaa

namespace Go.Proofs.Ytclcjngdpicjjaa
open Go.RowKit
set_option linter.unusedVariables false

theorem brkGo_cnt (l : List UInt8) : ∀ (f k : Nat) (acc xs : List Sel) (n : Nat), k ≤ l.length → acc.length ≤ k → brkGo l f k acc = some (xs, n) → xs.length ≤ l.length
  | 0, k, acc, xs, n, hk, ha, h => by cases h
  | f + 1, k, acc, xs, n, hk, ha, h => by
    have hr := runB_le (l.drop k)
    rw [List.length_drop] at hr
    rw [brkGo_on l f k acc _ _ rfl rfl] at h
    split at h
    · cases h
    · rename_i x m hx
      have hm := selQ_in hx
      rw [List.length_drop] at hm
      split at h
      · rename_i hc
        have := headL_lt hc
        injection h with h
        injection h with h1 h2
        rw [← h1, List.length_append]
        show acc.length + 1 ≤ _
        omega
      · split at h
        · rename_i hc
          have hlt := headL_lt hc
          exact brkGo_cnt l f _ _ _ _ (by omega) (by rw [List.length_append]; show acc.length + 1 ≤ _; omega) h
        · cases h
theorem sgmR_cnt {p : Nat} {r : List UInt8} {xs : List Sel} {n : Nat} (h : sgmR p r = some (xs, n)) : xs.length ≤ r.length := by
  have hin := sgmR_in h
  unfold sgmR at h
  split at h
  · exact brkGo_cnt r _ 1 [] xs n (by omega) (by simp) h
  split at h
  · cases h
  split at h
  · injection h with h
    injection h with h1 h2
    rw [← h1]
    show 1 ≤ _
    omega
  split at h
  · cases h
  · injection h with h
    injection h with h1 h2
    rw [← h1]
    show 1 ≤ _
    omega
theorem sgmQ_cnt {l : List UInt8} {x : Sgm} {n : Nat} (h : sgmQ l = some (x, n)) : x.sels.length ≤ l.length := by
  unfold sgmQ at h
  cases hr : sgmR (dotsN l) (l.drop (dotsN l)) with
  | none => rw [hr] at h; cases h
  | some q =>
    rw [hr] at h
    have hq := sgmR_cnt (xs := q.1) (n := q.2) hr
    rw [List.length_drop] at hq
    injection h with h
    injection h with h1 h2
    rw [← h1]
    show q.1.length ≤ _
    omega
theorem queGo_cnt : ∀ (f : Nat) (l : List UInt8) (acc xs : List Sgm) (m : Nat), l.length ≤ m → (∀ x ∈ acc, x.sels.length ≤ m) → queGo f l acc = some xs → ∀ x ∈ xs, x.sels.length ≤ m
  | 0, l, acc, xs, m, hl, ha, h => by cases h
  | f + 1, l, acc, xs, m, hl, ha, h => by
    rw [queGo_on] at h
    split at h
    · rw [← Option.some.inj h]; exact ha
    · split at h
      · cases h
      · rename_i x n hx
        have hc := sgmQ_cnt hx
        rw [List.length_drop] at hc
        refine queGo_cnt f _ _ _ m (by rw [List.length_drop]; omega) (fun y hy => ?_) h
        rcases List.mem_append.1 hy with hy | hy
        · exact ha y hy
        · obtain rfl := List.mem_singleton.1 hy
          omega
theorem queQ_cnt (l : List UInt8) : ∀ x ∈ (queQ l).getD [], x.sels.length ≤ l.length := by
  cases h : queQ l with
  | none => intro x hx; cases hx
  | some xs =>
    unfold queQ at h
    split at h
    · cases h
    · exact queGo_cnt _ _ [] xs _ (by rw [List.length_tail]; omega) (fun x hx => by cases hx) h

set_option maxHeartbeats 1000000 in
set_option maxRecDepth 100000 in
theorem queryParses_core {G : World → Prop} (C : QueC G) (s : ByteArray) (W : World) (hG : G W) (hs : s.size ≤ maxLen) :
    Calls Try.prog 3 #[.string s] W fun e w' => e = .returned (.bool true) ∧ Below W.heap.size W w' := by
  have KV := Lib.hid (queryAlive_walk C W hG)
  unfold maxLen at hs
  by_cases h9 : s.size > 1000
  · have q : (s.size : Int) > 1000 := by omega
    go_enter Try.func3, Try.ntmps3
    go_wp2_with (go_at_call 6; refine KV.out.mono ?_; rintro e w1 ⟨rfl, hb1⟩)
    go_ret
    exact ⟨rfl, hb1⟩
  have q : ¬ (s.size : Int) > 1000 := by omega
  have KP := Lib.hid (fun w hb => C.parse s w (C.go hG hb) (by omega))
  have KR := Lib.hid (fun w => (rque_any s w (by omega)).mono fun e w' h => qa_of h)
  unfold QaEnd at KP KR
  have hcnt := queQ_cnt s.data.toList
  rw [show s.data.toList.length = s.size from rfl] at KP KR hcnt
  generalize (queQ s.data.toList).isSome = ok at *
  generalize (queQ s.data.toList).getD [] = d at *
  have HC := Lib.hid (show ∀ x ∈ d, x.sels.length ≤ 1000000 from fun x hx => by have := hcnt x hx; omega)
  clear hcnt
  have qq : (ok == ok) = true := by simp
  go_enter Try.func3, Try.ntmps3
  go_wp2_with (first
    | (go_at_call 6; refine KV.out.mono ?_; rintro e w1 ⟨rfl, hb1⟩)
    | (go_at_call 7
       go_must (
         refine (KP.out _ hb1).mono ?_
         rintro e w2 ⟨A2, n2, c2, rfl, r2, l2, hb2⟩
         have HB2 := Lib.hid (hb1.trans (hb2.mono hb1.size))
         have R2 := Lib.hid r2
         clear hb1 hb2 r2))
    | (go_at_call 8
       go_must (
         refine (KR.out _).mono ?_
         rintro e w3 ⟨A3, n3, c3, rfl, r3, l3, hb3⟩
         have HB3 := Lib.hid (HB2.out.trans (hb3.mono HB2.out.size))
         have R2 := Lib.hid (R2.out.stay hb3)
         have R3 := Lib.hid r3
         clear hb3 r3))
    | (go_at_call 9
       go_must (
         refine (sameQ_any d d A2 A3 n2 n3 c2 c3 _ R2.out R3.out (by omega) (by omega) HC.out HC.out).mono ?_
         rintro e w4 ⟨b4, rfl, hb, hb4⟩
         obtain rfl := hb.2 rfl
         have HB4 := Lib.hid (HB3.out.trans (hb4.mono HB3.out.size))
         clear hb hb4)))
  go_ret
  exact ⟨rfl, HB4.out⟩

end Go.Proofs.Ytclcjngdpicjjaa
