/- The contracts of package utf: Walk's Step, Within, Sign, and Bad. -/
import Derived.Test.YtoahnbjpmbhpfaaDoorM02
import Derived.Outline
namespace Go.Proofs.YtoahnbjpmbhpfaaDoor
open Go.RowKit

set_option maxHeartbeats 400000 in
theorem within_any (b : Nat) (sg lf : Int) (w : World) (h : Own w b 39 #[.int .i32 sg, .int .i64 lf]) :
    Calls Tryd.prog 35 #[.pointer (some ⟨b, 0, none⟩)] w fun e w' => e = .returned (.bool (decide (0 < lf))) ∧ w = w' := by
  have c1 := h.at 1
  simp at c1
  go_enter Tryd.func35, Tryd.ntmps35
  go_wp2
  go_ret
  exact ⟨rfl, rfl⟩

set_option maxHeartbeats 400000 in
theorem sign_any (b : Nat) (sg lf : Int) (w : World) (h : Own w b 39 #[.int .i32 sg, .int .i64 lf]) :
    Calls Tryd.prog 38 #[.pointer (some ⟨b, 0, none⟩)] w fun e w' => e = .returned (.int .i32 (if 0 < lf then 0 else sg)) ∧ w = w' := by
  have c0 := h.at 0
  have c1 := h.at 1
  simp at c0 c1
  by_cases hl : 0 < lf
  all_goals
    go_enter Tryd.func38, Tryd.ntmps38
    go_wp2_with (go_at_call 35; refine (within_any _ _ _ _ h).mono ?_; rintro e w' ⟨rfl, rfl⟩)
    go_ret
    exact ⟨rfl, rfl⟩

set_option maxHeartbeats 1000000 in
theorem next_any (b : Nat) (sg lf : Int) (w : World) (h : Own w b 39 #[.int .i32 sg, .int .i64 lf]) :
    Calls Tryd.prog 50 #[.pointer (some ⟨b, 0, none⟩)] w fun e w' => e = .returned (.tuple #[.int .u8 (lowU sg lf), .int .u8 (highU sg lf)]) ∧ w = w' := by
  have c0 := h.at 0
  have c1 := h.at 1
  simp at c0 c1
  by_cases h2 : lf = 2
  · subst h2
    by_cases h0 : sg = 0
    · subst h0
      go_enter Tryd.func50, Tryd.ntmps50
      go_wp2
      go_ret2
      exact ⟨rfl, rfl⟩
    · have e0 : (sg == 0) = false := beq_eq_false_iff_ne.2 h0
      by_cases h13 : sg = 13
      · subst h13
        go_enter Tryd.func50, Tryd.ntmps50
        go_wp2
        go_ret2
        exact ⟨rfl, rfl⟩
      · have e13 : (sg == 13) = false := beq_eq_false_iff_ne.2 h13
        go_enter Tryd.func50, Tryd.ntmps50
        go_wp2
        go_ret2
        exact ⟨by simp [lowU, highU, h0, h13], rfl⟩
  · have e2 : (lf == 2) = false := beq_eq_false_iff_ne.2 h2
    by_cases h3 : lf = 3
    · subst h3
      by_cases h0 : sg = 0
      · subst h0
        go_enter Tryd.func50, Tryd.ntmps50
        go_wp2
        go_ret2
        exact ⟨rfl, rfl⟩
      · have e0 : (sg == 0) = false := beq_eq_false_iff_ne.2 h0
        by_cases h4 : sg = 4
        · subst h4
          go_enter Tryd.func50, Tryd.ntmps50
          go_wp2
          go_ret2
          exact ⟨rfl, rfl⟩
        · have e4 : (sg == 4) = false := beq_eq_false_iff_ne.2 h4
          go_enter Tryd.func50, Tryd.ntmps50
          go_wp2
          go_ret2
          exact ⟨by simp [lowU, highU, h0, h4], rfl⟩
    · have e3 : (lf == 3) = false := beq_eq_false_iff_ne.2 h3
      go_enter Tryd.func50, Tryd.ntmps50
      go_wp2
      go_ret2
      exact ⟨by simp [lowU, highU, h2, h3], rfl⟩

theorem two_put {w : World} {b : Nat} {t : Nat} {x y u v : Value} (h : Own w b t #[x, y]) :
    Own ((w.setCell ⟨b, 0, none⟩ u).setCell ⟨b, 1, none⟩ v) b t #[u, v] ∧ Turned b w ((w.setCell ⟨b, 0, none⟩ u).setCell ⟨b, 1, none⟩ v) :=
  ⟨by simpa using (h.put 0 u).put 1 v, ((Turned.refl b w).put 0 u).put 1 v⟩

theorem own_eq {w : World} {b : Nat} {t : Nat} {k1 k2 : IntKind} {a a' c c' : Int} (h : Own w b t #[.int k1 a, .int k2 c]) (e : a = a') (f : c = c') : Own w b t #[.int k1 a', .int k2 c'] := by
  subst e f; exact h

set_option maxHeartbeats 1000000 in
theorem begin_yes (b : Nat) (c sg lf : Int) (w : World) (h : Own w b 39 #[.int .i32 sg, .int .i64 lf]) (h0 : 0 ≤ c) (hk : c < 128 ∨ 194 ≤ c ∧ c < 245) :
    Calls Tryd.prog 49 #[.pointer (some ⟨b, 0, none⟩), .int .u8 c] w fun e w' => e = .returned (.bool true) ∧ Own w' b 39 #[.int .i32 (sgU sg 0 c), .int .i64 (lfU 0 c)] ∧ Turned b w w' := by
  have c0 := h.at 0
  have c1 := h.at 1
  have f0 := h.free 0
  have f1 := h.free 1
  simp at c0 c1
  have hh : (c < 128) ∨ (194 ≤ c ∧ c < 224) ∨ (224 ≤ c ∧ c < 240) ∨ (240 ≤ c ∧ c < 245) := by omega
  rcases hh with hh | ⟨h1, h2⟩ | ⟨h1, h2⟩ | ⟨h1, h2⟩
  all_goals
    go_enter Tryd.func49, Tryd.ntmps49
    go_wp2
    go_ret
    refine ⟨rfl, ?_, (two_put h).2⟩
    refine own_eq (two_put h).1 ?_ ?_ <;> simp [sgU, lfU] <;> (repeat' split) <;> omega

set_option maxHeartbeats 1000000 in
theorem begin_no (b : Nat) (c : Int) (w : World) (hk : ¬ (c < 128 ∨ 194 ≤ c ∧ c < 245)) :
    Calls Tryd.prog 49 #[.pointer (some ⟨b, 0, none⟩), .int .u8 c] w fun e w' => e = .returned (.bool false) ∧ w = w' := by
  have hh : (128 ≤ c ∧ c < 194) ∨ 245 ≤ c := by omega
  clear hk
  rcases hh with ⟨h1, h2⟩ | h1
  all_goals
    go_enter Tryd.func49, Tryd.ntmps49
    go_wp2
    go_ret
    exact ⟨rfl, rfl⟩

set_option maxHeartbeats 1000000 in
theorem step_yes (b : Nat) (c sg lf : Int) (w : World) (h : Own w b 39 #[.int .i32 sg, .int .i64 lf]) (hs : StU sg lf) (h0 : 0 ≤ c) (hk : okU sg lf c = true) :
    Calls Tryd.prog 36 #[.pointer (some ⟨b, 0, none⟩), .int .u8 c] w fun e w' => e = .returned (.bool true) ∧ Own w' b 39 #[.int .i32 (sgU sg lf c), .int .i64 (lfU lf c)] ∧ Turned b w w' := by
  have c0 := h.at 0
  have c1 := h.at 1
  have f0 := h.free 0
  have f1 := h.free 1
  simp at c0 c1
  by_cases hl : lf = 0
  · subst hl
    have hk' := okU_zero hk
    clear hk
    have HB := Lib.hid (begin_yes b c sg 0 w h h0 hk')
    clear hk'
    go_enter Tryd.func36, Tryd.ntmps36
    go_wp2_with (go_at_call 49; refine HB.out.mono ?_; rintro e w' ⟨rfl, hb⟩)
    go_ret
    exact ⟨rfl, hb⟩
  · have el : (lf == 0) = false := beq_eq_false_iff_ne.2 hl
    have e1 : sgU sg lf c = sg * 64 + (c - 128) := by unfold sgU; rw [if_neg hl]
    have e2 : lfU lf c = lf - 1 := by unfold lfU; rw [if_neg hl]
    rw [e1, e2]
    obtain ⟨hk1, hk2⟩ := okU_more hl hk
    obtain ⟨hk3, hk4⟩ := okU_bd hl hk
    have g1 := lowU_in sg lf
    have g2 := highU_in sg lf
    have s0 : 0 ≤ sg := hs.1
    have s9 : sg ≤ 17407 := by unfold StU at hs; omega
    have l0 : 1 ≤ lf := by unfold StU at hs; omega
    have l9 : lf ≤ 3 := by unfold StU at hs; omega
    clear hs hk hl e1 e2
    have HN := Lib.hid (next_any b sg lf w h)
    generalize lowU sg lf = lo at *
    generalize highU sg lf = hi at *
    go_enter Tryd.func36, Tryd.ntmps36
    go_wp2_with (go_at_call 50; refine HN.out.mono ?_; rintro e w' ⟨rfl, rfl⟩)
    go_ret
    refine ⟨rfl, own_eq (two_put h).1 (by omega) rfl, (two_put h).2⟩

set_option maxHeartbeats 1000000 in
theorem step_no (b : Nat) (c sg lf : Int) (w : World) (h : Own w b 39 #[.int .i32 sg, .int .i64 lf]) (hk : okU sg lf c = false) :
    Calls Tryd.prog 36 #[.pointer (some ⟨b, 0, none⟩), .int .u8 c] w fun e w' => e = .returned (.bool false) ∧ w = w' := by
  have c0 := h.at 0
  have c1 := h.at 1
  simp at c0 c1
  by_cases hl : lf = 0
  · subst hl
    have hk' : ¬ (c < 128 ∨ 194 ≤ c ∧ c < 245) := by
      unfold okU at hk
      rw [if_pos rfl] at hk
      exact of_decide_eq_false hk
    clear hk
    have HB := Lib.hid (begin_no b c w hk')
    clear hk'
    go_enter Tryd.func36, Tryd.ntmps36
    go_wp2_with (go_at_call 49; refine HB.out.mono ?_; rintro e w' ⟨rfl, rfl⟩)
    go_ret
    exact ⟨rfl, rfl⟩
  · have el : (lf == 0) = false := beq_eq_false_iff_ne.2 hl
    have hk' : ¬ (lowU sg lf ≤ c ∧ c ≤ highU sg lf) := by
      unfold okU at hk
      rw [if_neg hl] at hk
      exact of_decide_eq_false hk
    clear hk
    have HN := Lib.hid (next_any b sg lf w h)
    generalize lowU sg lf = lo at *
    generalize highU sg lf = hi at *
    by_cases hlo : c < lo
    · clear hk' hl
      go_enter Tryd.func36, Tryd.ntmps36
      go_wp2_with (go_at_call 50; refine HN.out.mono ?_; rintro e w' ⟨rfl, rfl⟩)
      go_ret
      exact ⟨rfl, rfl⟩
    · have hhi : hi < c := by omega
      have hlo' : lo ≤ c := by omega
      clear hk' hl hlo
      go_enter Tryd.func36, Tryd.ntmps36
      go_wp2_with (go_at_call 50; refine HN.out.mono ?_; rintro e w' ⟨rfl, rfl⟩)
      go_ret
      exact ⟨rfl, rfl⟩

theorem runU_cons (sg lf : Int) (l : List UInt8) (k : Nat) (h : k < l.length) (n : Int) :
    runU sg lf (l.drop k) n = if okU sg lf l[k].toNat then runU (sgU sg lf l[k].toNat) (lfU lf l[k].toNat) (l.drop (k + 1)) (n + 1) else n := by
  rw [List.drop_eq_getElem_cons h]; rfl

/-- Where Bad's loop is. -/
def RelBad (s : ByteArray) (W wr : World) (i : Value) : Prop :=
  ∃ (k : Nat) (sg lf : Int), k ≤ s.size ∧ i = .int .i64 k ∧ StU sg lf ∧ Own wr W.heap.size 39 #[.int .i32 sg, .int .i64 lf] ∧ Below W.heap.size W wr ∧ badU s.data.toList = runU sg lf (s.data.toList.drop k) k

end Go.Proofs.YtoahnbjpmbhpfaaDoor
