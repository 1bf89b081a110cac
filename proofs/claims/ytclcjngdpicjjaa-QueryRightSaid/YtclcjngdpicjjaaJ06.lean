/- The document's sliced, all ways together, and selector (riffleref14). -/
import Derived.Test.YtclcjngdpicjjaaRows
import Derived.Test.YtclcjngdpicjjaaJ03
import Derived.Test.YtclcjngdpicjjaaJ05
import Derived.Test.YtclcjngdpicjjaaRef14Ga
import Derived.Test.YtclcjngdpicjjaaRef14Gb
import Derived.Test.YtclcjngdpicjjaaRef14Gc
import Derived.Test.YtclcjngdpicjjaaRef14Gd
import Derived.Test.YtclcjngdpicjjaaRef14Ge
import Derived.Handy
namespace Go.Proofs.Ytclcjngdpicjjaa
open Go.RowKit
set_option linter.unusedVariables false
set_option linter.unusedSimpArgs false

theorem rsliced_any (s : ByteArray) (W : World) (hs : s.size ≤ 1000000) : Calls Try.prog 50 #[.string s] W (SlEnd s.data.toList W) := by
  cases hA : optI s.data.toList with
  | none => exact rsl_bad s W hs hA
  | some a =>
    cases a with
    | none =>
      by_cases hc1 : (s.data.toList.drop 0).head? = some 58
      · cases hB : optI (s.data.toList.drop (1 + runB (s.data.toList.drop 1))) with
        | none => exact rsl_none_y_bad s W hs hA hc1 _ _ rfl rfl hB
        | some b =>
          cases b with
          | none =>
            by_cases hc2 : (s.data.toList.drop (1 + runB (s.data.toList.drop 1))).head? = some 58
            · cases hC : optI (s.data.toList.drop (1 + runB (s.data.toList.drop 1) + 1 + runB (s.data.toList.drop (1 + runB (s.data.toList.drop 1) + 1)))) with
              | none => exact rsl_none_y_none_y_bad s W hs hA hc1 _ _ rfl rfl hB hc2 _ _ _ rfl rfl rfl hC
              | some c =>
                cases c with
                | none => exact rsl_none_y_none_y_none s W hs hA hc1 _ _ rfl rfl hB hc2 _ _ _ rfl rfl rfl hC
                | some d => exact rsl_none_y_none_y_some s W hs hA hc1 _ _ rfl rfl hB hc2 _ _ _ rfl rfl rfl d.1 d.2 hC
            · exact rsl_none_y_none_n s W hs hA hc1 _ _ rfl rfl hB hc2
          | some b =>
            by_cases hc2 : (s.data.toList.drop (1 + runB (s.data.toList.drop 1) + b.2 + runB (s.data.toList.drop (1 + runB (s.data.toList.drop 1) + b.2)))).head? = some 58
            · cases hC : optI (s.data.toList.drop ((1 + runB (s.data.toList.drop 1) + b.2 + runB (s.data.toList.drop (1 + runB (s.data.toList.drop 1) + b.2))) + 1 + runB (s.data.toList.drop ((1 + runB (s.data.toList.drop 1) + b.2 + runB (s.data.toList.drop (1 + runB (s.data.toList.drop 1) + b.2))) + 1)))) with
              | none => exact rsl_none_y_some_y_bad s W hs hA hc1 _ _ rfl rfl b.1 b.2 _ _ _ hB rfl rfl rfl hc2 _ _ _ rfl rfl rfl hC
              | some c =>
                cases c with
                | none => exact rsl_none_y_some_y_none s W hs hA hc1 _ _ rfl rfl b.1 b.2 _ _ _ hB rfl rfl rfl hc2 _ _ _ rfl rfl rfl hC
                | some d => exact rsl_none_y_some_y_some s W hs hA hc1 _ _ rfl rfl b.1 b.2 _ _ _ hB rfl rfl rfl hc2 _ _ _ rfl rfl rfl d.1 d.2 hC
            · exact rsl_none_y_some_n s W hs hA hc1 _ _ rfl rfl b.1 b.2 _ _ _ hB rfl rfl rfl hc2
      · exact rsl_none_n s W hs hA hc1
    | some a =>
      obtain ⟨v1, n1⟩ := a
      obtain ⟨p, hp⟩ : ∃ p, n1 + runB (s.data.toList.drop n1) = p := ⟨_, rfl⟩
      by_cases hc1 : (s.data.toList.drop p).head? = some 58
      · obtain ⟨t, ht⟩ : ∃ t, p + 1 + runB (s.data.toList.drop (p + 1)) = t := ⟨_, rfl⟩
        cases hB : optI (s.data.toList.drop t) with
        | none => exact rsl_some_y_bad s W hs v1 n1 _ p hA rfl hp hc1 _ _ t rfl rfl ht hB
        | some b =>
          cases b with
          | none =>
            by_cases hc2 : (s.data.toList.drop t).head? = some 58
            · cases hC : optI (s.data.toList.drop (t + 1 + runB (s.data.toList.drop (t + 1)))) with
              | none => exact rsl_some_y_none_y_bad s W hs v1 n1 _ p hA rfl hp hc1 _ _ t rfl rfl ht hB hc2 _ _ _ rfl rfl rfl hC
              | some c =>
                cases c with
                | none => exact rsl_some_y_none_y_none s W hs v1 n1 _ p hA rfl hp hc1 _ _ t rfl rfl ht hB hc2 _ _ _ rfl rfl rfl hC
                | some d => exact rsl_some_y_none_y_some s W hs v1 n1 _ p hA rfl hp hc1 _ _ t rfl rfl ht hB hc2 _ _ _ rfl rfl rfl d.1 d.2 hC
            · exact rsl_some_y_none_n s W hs v1 n1 _ p hA rfl hp hc1 _ _ t rfl rfl ht hB hc2
          | some b =>
            obtain ⟨v2, n2⟩ := b
            obtain ⟨u, hu⟩ : ∃ u, t + n2 + runB (s.data.toList.drop (t + n2)) = u := ⟨_, rfl⟩
            by_cases hc2 : (s.data.toList.drop u).head? = some 58
            · cases hC : optI (s.data.toList.drop (u + 1 + runB (s.data.toList.drop (u + 1)))) with
              | none => exact rsl_some_y_some_y_bad s W hs v1 n1 _ p hA rfl hp hc1 _ _ t rfl rfl ht v2 n2 _ _ u hB rfl rfl hu hc2 _ _ _ rfl rfl rfl hC
              | some c =>
                cases c with
                | none => exact rsl_some_y_some_y_none s W hs v1 n1 _ p hA rfl hp hc1 _ _ t rfl rfl ht v2 n2 _ _ u hB rfl rfl hu hc2 _ _ _ rfl rfl rfl hC
                | some d => exact rsl_some_y_some_y_some s W hs v1 n1 _ p hA rfl hp hc1 _ _ t rfl rfl ht v2 n2 _ _ u hB rfl rfl hu hc2 _ _ _ rfl rfl rfl d.1 d.2 hC
            · exact rsl_some_y_some_n s W hs v1 n1 _ p hA rfl hp hc1 _ _ t rfl rfl ht v2 n2 _ _ u hB rfl rfl hu hc2
      · exact rsl_some_n s W hs v1 n1 _ p hA rfl hp hc1

theorem headL_lt {l : List UInt8} {p : Nat} {c : UInt8} (h : (l.drop p).head? = some c) : p < l.length := by
  by_cases hp : p < l.length
  · exact hp
  · rw [List.drop_of_length_le (by omega)] at h; cases h
theorem slcC_in {a b : Option Int} {l : List UInt8} {k n : Nat} {x : Sel} (hc : (l.drop k).head? = some 58) (h : slcC a b l k = some (x, n)) : k + 1 ≤ n ∧ n ≤ l.length := by
  have hk := headL_lt hc
  have hr := runB_le (l.drop (k + 1))
  rw [List.length_drop] at hr
  unfold slcC at h
  split at h
  · cases h
  · injection h with h
    injection h with h1 h2
    omega
  · rename_i v m hm
    have hn := nrQ_in (optI_some hm)
    rw [List.length_drop] at hn
    injection h with h
    injection h with h1 h2
    omega
theorem slcB_in {a : Option Int} {l : List UInt8} {k n : Nat} {x : Sel} (hk : k ≤ l.length) (h : slcB a l k = some (x, n)) : k ≤ n ∧ n ≤ l.length := by
  have hr := runB_le (l.drop k)
  rw [List.length_drop] at hr
  unfold slcB at h
  split at h
  · cases h
  · split at h
    · rename_i hc
      have := slcC_in hc h
      omega
    · injection h with h
      injection h with h1 h2
      omega
  · rename_i v m hm
    have hn := nrQ_in (optI_some hm)
    rw [List.length_drop] at hn
    split at h
    · rename_i hc
      have := slcC_in hc h
      omega
    · injection h with h
      injection h with h1 h2
      omega
theorem slcQ_in {l : List UInt8} {n : Nat} {x : Sel} (h : slcQ l = some (x, n)) : 1 ≤ n ∧ n ≤ l.length := by
  unfold slcQ at h
  split at h
  · cases h
  · split at h
    · rename_i hc
      have h0 := headL_lt (l := l) (p := 0) hc
      exact slcB_in (by omega) h
    · cases h
  · rename_i v m hm
    have hn := nrQ_in (optI_some hm)
    split at h
    · rename_i hc
      have hlt := headL_lt hc
      have := slcB_in (by omega) h
      omega
    · cases h
theorem quoGo_in (m : UInt8) : ∀ (f : Nat) (l acc : List UInt8) (k : Nat) (b : List UInt8) (n : Nat), quoGo m f l acc k = some (b, n) → k + 1 ≤ n ∧ n ≤ k + l.length
  | 0, l, acc, k, b, n, h => by cases h
  | f + 1, [], acc, k, b, n, h => by cases h
  | f + 1, c :: t, acc, k, b, n, h => by
    rw [quoGo_on] at h
    split at h
    · injection h with h; injection h with h1 h2; simp; omega
    split at h
    · cases h
    split at h
    · have := quoGo_in m f t _ _ _ _ h
      simp; omega
    · split at h
      · cases h
      · rename_i b' n' hx
        have he := escQ_in hx
        have := quoGo_in m f _ _ _ _ _ h
        rw [List.length_drop] at this
        simp; omega
theorem quoQ_in {l b : List UInt8} {n : Nat} (h : quoQ l = some (b, n)) : 1 ≤ n ∧ n ≤ l.length := by
  cases l with
  | nil => cases h
  | cons m t =>
    have := quoGo_in m (t.length + 1) t [] 1 b n h
    simp; omega
theorem selQ_in {l : List UInt8} {n : Nat} {x : Sel} (h : selQ l = some (x, n)) : 1 ≤ n ∧ n ≤ l.length := by
  unfold selQ at h
  split at h
  · rename_i hc
    injection h with h
    injection h with h1 h2
    have := headL_lt (l := l) (p := 0) hc
    omega
  split at h
  · cases hq : quoQ l with
    | none => rw [hq] at h; cases h
    | some p =>
      rw [hq] at h
      injection h with h
      injection h with h1 h2
      have := quoQ_in (b := p.1) (n := p.2) hq
      omega
  · split at h
    · rename_i p hp
      have e : p = (x, n) := Option.some.inj h
      rw [e] at hp
      exact slcQ_in hp
    · cases hq : nrQ l with
      | none => rw [hq] at h; cases h
      | some p =>
        rw [hq] at h
        injection h with h
        injection h with h1 h2
        have := nrQ_in (v := p.1) (n := p.2) hq
        omega

end Go.Proofs.Ytclcjngdpicjjaa

namespace Go.Proofs.Ytclcjngdpicjjaa
open Go.RowKit
set_option linter.unusedVariables false
set_option linter.unusedSimpArgs false

/-- The result's block, as it was laid. -/
def ZeB (W w : World) : Prop := Own w W.heap.size 35 #[.int .i64 0, .string ⟨#[]⟩, .int .i64 0, .int .i64 0, .int .i64 0, .bool false, .bool false, .int .i64 0] ∧ Below W.heap.size W w
section
variable {W w w' : World}
theorem ZeB.start (W : World) : ZeB W (W.alloc (.cells #[.int .i64 0, .string ⟨#[]⟩, .int .i64 0, .int .i64 0, .int .i64 0, .bool false, .bool false, .int .i64 0] 35)) := ⟨Own.fresh W _ _, below1 _ _⟩
theorem ZeB.on (h : ZeB W w) (hb : Below w.heap.size w w') : ZeB W w' := ⟨h.1.stay hb h.1.inside, h.2.trans (hb.mono h.2.size)⟩
theorem ZeB.z (h : ZeB W w) (i : Nat) : w.cell? ⟨W.heap.size, i, none⟩ = (#[.int .i64 0, .string ⟨#[]⟩, .int .i64 0, .int .i64 0, .int .i64 0, .bool false, .bool false, .int .i64 0] : Array Value)[i]? := h.1.at i
theorem ZeB.fz (h : ZeB W w) (i : Nat) : w.frozen? ⟨W.heap.size, i, none⟩ = false := h.1.free i
theorem ZeB.fin (h : ZeB W w) (c0 c1 c2 c3 c4 c5 c6 c7 : Value) :
    Own ((((((((w.setCell ⟨W.heap.size, 0, none⟩ c0).setCell ⟨W.heap.size, 1, none⟩ c1).setCell ⟨W.heap.size, 2, none⟩ c2).setCell ⟨W.heap.size, 3, none⟩ c3).setCell ⟨W.heap.size, 4, none⟩ c4).setCell ⟨W.heap.size, 5, none⟩ c5).setCell ⟨W.heap.size, 6, none⟩ c6).setCell ⟨W.heap.size, 7, none⟩ c7) W.heap.size 35 #[c0, c1, c2, c3, c4, c5, c6, c7] ∧
    Below W.heap.size W ((((((((w.setCell ⟨W.heap.size, 0, none⟩ c0).setCell ⟨W.heap.size, 1, none⟩ c1).setCell ⟨W.heap.size, 2, none⟩ c2).setCell ⟨W.heap.size, 3, none⟩ c3).setCell ⟨W.heap.size, 4, none⟩ c4).setCell ⟨W.heap.size, 5, none⟩ c5).setCell ⟨W.heap.size, 6, none⟩ c6).setCell ⟨W.heap.size, 7, none⟩ c7) := by
  refine ⟨?_, (((((((h.2.setCell (Nat.le_refl _) _).setCell (Nat.le_refl _) _).setCell (Nat.le_refl _) _).setCell (Nat.le_refl _) _).setCell (Nat.le_refl _) _).setCell (Nat.le_refl _) _).setCell (Nat.le_refl _) _).setCell (Nat.le_refl _) _⟩
  simpa using (((((((h.1.put 0 c0).put 1 c1).put 2 c2).put 3 c3).put 4 c4).put 5 c5).put 6 c6).put 7 c7
end
/-- What selector answers. -/
def SeEnd (l : List UInt8) (W : World) (e : Ending) (w' : World) : Prop :=
  (match selQ l with
    | none => ∃ x : Sel, e = .returned (.tuple #[.agg (selV x), .int .i64 0])
    | some (x, n) => e = .returned (.tuple #[.agg (selV x), .int .i64 n])) ∧ Below W.heap.size W w'
theorem SeEnd.no {l : List UInt8} {W w' : World} {v : Array Value} (x : Sel) (h : selQ l = none) (hv : v = selV x) (hb : Below W.heap.size W w') : SeEnd l W (.returned (.tuple #[.agg v, .int .i64 0])) w' := by
  unfold SeEnd; rw [h, hv]; exact ⟨⟨x, rfl⟩, hb⟩
theorem SeEnd.yes {l : List UInt8} {W w' : World} {x : Sel} {n : Nat} {k : Int} {v : Array Value} (h : selQ l = some (x, n)) (hv : v = selV x) (hk : (n : Int) = k) (hb : Below W.heap.size W w') : SeEnd l W (.returned (.tuple #[.agg v, .int .i64 k])) w' := by
  unfold SeEnd; rw [h, ← hk, hv]; exact ⟨rfl, hb⟩
theorem beg0 {s : ByteArray} (c : UInt8) (x : Int) (hx : (c.toNat : Int) = x) (b : Bool) (hs : s.size ≤ 1000000) (h : decide (s.data.toList.head? = some c) = b) (w : World) :
    Calls Try.prog 16 #[.string s, .int .u8 x] w fun e w' => e = .returned (.bool b) ∧ w = w' := by
  subst hx
  have := begins_any s c w hs
  rw [h] at this
  exact this
theorem rquo_no {s : ByteArray} (h : quoQ s.data.toList = none) (hs : s.size ≤ 1000000) (h0 : 0 < s.size) (w : World) :
    Calls Try.prog 49 #[.string s] w fun e w' => e = .returned (.tuple #[.string ⟨#[]⟩, .int .i64 0]) ∧ Below w.heap.size w w' := by
  refine (rquoted_any s w hs h0).mono fun e w' he => ?_
  unfold QuEnd at he
  rw [h] at he
  exact he
theorem rquo_yes {s : ByteArray} {b : List UInt8} {n : Nat} (h : quoQ s.data.toList = some (b, n)) (hs : s.size ≤ 1000000) (h0 : 0 < s.size) (w : World) :
    Calls Try.prog 49 #[.string s] w fun e w' => e = .returned (.tuple #[.string ⟨b.toArray⟩, .int .i64 n]) ∧ Below w.heap.size w w' := by
  refine (rquoted_any s w hs h0).mono fun e w' he => ?_
  unfold QuEnd at he
  rw [h] at he
  exact he
theorem rslc_no {s : ByteArray} (h : slcQ s.data.toList = none) (hs : s.size ≤ 1000000) (w : World) :
    Calls Try.prog 50 #[.string s] w fun e w' => ∃ x : Sel, e = .returned (.tuple #[.agg #[.int .i64 x.kind, .string x.name, .int .i64 x.index, .int .i64 x.start, .int .i64 x.en, .bool x.hs, .bool x.he, .int .i64 x.stride], .int .i64 0]) ∧ Below w.heap.size w w' := by
  refine (rsliced_any s w hs).mono fun e w' he => ?_
  unfold SlEnd at he
  rw [h] at he
  obtain ⟨⟨x, he⟩, hb⟩ := he
  exact ⟨x, he, hb⟩
theorem rslc_yes {s : ByteArray} {x : Sel} {n : Nat} (h : slcQ s.data.toList = some (x, n)) (hs : s.size ≤ 1000000) (w : World) :
    Calls Try.prog 50 #[.string s] w fun e w' => e = .returned (.tuple #[.agg #[.int .i64 x.kind, .string x.name, .int .i64 x.index, .int .i64 x.start, .int .i64 x.en, .bool x.hs, .bool x.he, .int .i64 x.stride], .int .i64 n]) ∧ Below w.heap.size w w' := by
  refine (rsliced_any s w hs).mono fun e w' he => ?_
  unfold SlEnd at he
  rw [h] at he
  exact he

set_option maxHeartbeats 4000000 in
set_option maxRecDepth 100000 in
theorem rsel_any (s : ByteArray) (W : World) (hs : s.size ≤ 1000000) (h42 : s.data.toList.head? = some 42) :
    Calls Try.prog 42 #[.string s] W (SeEnd s.data.toList W) := by
  have HQ := Lib.hid (show selQ s.data.toList = some (sqA, 1) by unfold selQ; rw [if_pos h42])
  have B1 := Lib.hid (fun w => beg0 42 42 rfl true hs (decide_eq_true h42) w)
  have S0 := Lib.hid (ZeB.start W)
  go_enter Try.func42, Try.ntmps42
  go_wp2_with (go_at_call 16; with_reducible refine (B1.out _).mono ?_; rintro e w' ⟨rfl, rfl⟩)
  refine bodyPost_ret (by simp [results, Try.results42, go_sem]; try rfl) rfl ?_
  exact SeEnd.yes HQ.out rfl rfl (by first | exact S0.out.2 | exact below1 _ _)

set_option maxHeartbeats 4000000 in
set_option maxRecDepth 100000 in
theorem rsel_quo (s : ByteArray) (W : World) (hs : s.size ≤ 1000000) (h42 : s.data.toList.head? ≠ some 42) (hq : s.data.toList.head? = some 34 ∨ s.data.toList.head? = some 39) :
    Calls Try.prog 42 #[.string s] W (SeEnd s.data.toList W) := by
  have hsel : selQ s.data.toList = (quoQ s.data.toList).map fun p => (sqN p.1, p.2) := by unfold selQ; rw [if_neg h42, if_pos hq]
  have h0 : 0 < s.size := by rcases hq with h | h <;> exact head_lt (p := 0) h
  have B1 := Lib.hid (fun w => beg0 42 42 rfl false hs (decide_eq_false h42) w)
  have S0 := Lib.hid (ZeB.start W)
  have hb : (s.data.toList.head? = some 34) ∨ (s.data.toList.head? ≠ some 34 ∧ s.data.toList.head? = some 39) := by
    by_cases h : s.data.toList.head? = some 34
    · exact .inl h
    · exact .inr ⟨h, hq.resolve_left h⟩
  cases hx : quoQ s.data.toList with
  | none =>
    rw [hx] at hsel
    have HQ := Lib.hid (show selQ s.data.toList = none from hsel)
    have KQ := Lib.hid (fun w => rquo_no hx hs h0 w)
    clear hsel hx h42 hq
    rcases hb with h34 | ⟨h34, h39⟩
    · have B2 := Lib.hid (fun w => beg0 34 34 rfl true hs (decide_eq_true h34) w)
      go_enter Try.func42, Try.ntmps42
      go_wp2_with (first
        | (go_at_call 16; with_reducible refine (B1.out _).mono ?_; rintro e w' ⟨rfl, rfl⟩)
        | (go_at_call 16; with_reducible refine (B2.out _).mono ?_; rintro e w' ⟨rfl, rfl⟩)
        | (go_at_call 49; with_reducible refine (KQ.out _).mono ?_; rintro e w1 ⟨rfl, hb1⟩; have h1 := S0.out.on hb1; have z0 := h1.z 0; have z1 := h1.z 1; have z2 := h1.z 2; have z3 := h1.z 3; have z4 := h1.z 4; have z5 := h1.z 5; have z6 := h1.z 6; have z7 := h1.z 7; have y0 := h1.fz 0; have y1 := h1.fz 1; have y2 := h1.fz 2; have y3 := h1.fz 3; have y4 := h1.fz 4; have y5 := h1.fz 5; have y6 := h1.fz 6; have y7 := h1.fz 7; simp at z0 z1 z2 z3 z4 z5 z6 z7; have S1 := Lib.hid h1; clear h1 hb1))
      have HF := S1.out.fin (.int .i64 0) (.string ⟨#[]⟩) (.int .i64 0) (.int .i64 0) (.int .i64 0) (.bool false) (.bool false) (.int .i64 0)
      have m0 := HF.1.at 0
      have m1 := HF.1.at 1
      have m2 := HF.1.at 2
      have m3 := HF.1.at 3
      have m4 := HF.1.at 4
      have m5 := HF.1.at 5
      have m6 := HF.1.at 6
      have m7 := HF.1.at 7
      simp at m0 m1 m2 m3 m4 m5 m6 m7
      refine bodyPost_ret (by simp [results, Try.results42, go_sem, m0, m1, m2, m3, m4, m5, m6, m7]; try rfl) rfl ?_
      exact SeEnd.no ⟨0, ⟨#[]⟩, 0, 0, 0, false, false, 0⟩ HQ.out rfl HF.2
    · have B2 := Lib.hid (fun w => beg0 34 34 rfl false hs (decide_eq_false h34) w)
      have B3 := Lib.hid (fun w => beg0 39 39 rfl true hs (decide_eq_true h39) w)
      go_enter Try.func42, Try.ntmps42
      go_wp2_with (first
        | (go_at_call 16; with_reducible refine (B1.out _).mono ?_; rintro e w' ⟨rfl, rfl⟩)
        | (go_at_call 16; with_reducible refine (B2.out _).mono ?_; rintro e w' ⟨rfl, rfl⟩)
        | (go_at_call 16; with_reducible refine (B3.out _).mono ?_; rintro e w' ⟨rfl, rfl⟩)
        | (go_at_call 49; with_reducible refine (KQ.out _).mono ?_; rintro e w1 ⟨rfl, hb1⟩; have h1 := S0.out.on hb1; have z0 := h1.z 0; have z1 := h1.z 1; have z2 := h1.z 2; have z3 := h1.z 3; have z4 := h1.z 4; have z5 := h1.z 5; have z6 := h1.z 6; have z7 := h1.z 7; have y0 := h1.fz 0; have y1 := h1.fz 1; have y2 := h1.fz 2; have y3 := h1.fz 3; have y4 := h1.fz 4; have y5 := h1.fz 5; have y6 := h1.fz 6; have y7 := h1.fz 7; simp at z0 z1 z2 z3 z4 z5 z6 z7; have S1 := Lib.hid h1; clear h1 hb1))
      have HF := S1.out.fin (.int .i64 0) (.string ⟨#[]⟩) (.int .i64 0) (.int .i64 0) (.int .i64 0) (.bool false) (.bool false) (.int .i64 0)
      have m0 := HF.1.at 0
      have m1 := HF.1.at 1
      have m2 := HF.1.at 2
      have m3 := HF.1.at 3
      have m4 := HF.1.at 4
      have m5 := HF.1.at 5
      have m6 := HF.1.at 6
      have m7 := HF.1.at 7
      simp at m0 m1 m2 m3 m4 m5 m6 m7
      refine bodyPost_ret (by simp [results, Try.results42, go_sem, m0, m1, m2, m3, m4, m5, m6, m7]; try rfl) rfl ?_
      exact SeEnd.no ⟨0, ⟨#[]⟩, 0, 0, 0, false, false, 0⟩ HQ.out rfl HF.2
  | some p =>
    obtain ⟨b, n⟩ := p
    rw [hx] at hsel
    have HQ := Lib.hid (show selQ s.data.toList = some (sqN b, n) from hsel)
    have KQ := Lib.hid (fun w => rquo_yes hx hs h0 w)
    clear hsel hx h42 hq
    rcases hb with h34 | ⟨h34, h39⟩
    · have B2 := Lib.hid (fun w => beg0 34 34 rfl true hs (decide_eq_true h34) w)
      go_enter Try.func42, Try.ntmps42
      go_wp2_with (first
        | (go_at_call 16; with_reducible refine (B1.out _).mono ?_; rintro e w' ⟨rfl, rfl⟩)
        | (go_at_call 16; with_reducible refine (B2.out _).mono ?_; rintro e w' ⟨rfl, rfl⟩)
        | (go_at_call 49; with_reducible refine (KQ.out _).mono ?_; rintro e w1 ⟨rfl, hb1⟩; have h1 := S0.out.on hb1; have z0 := h1.z 0; have z1 := h1.z 1; have z2 := h1.z 2; have z3 := h1.z 3; have z4 := h1.z 4; have z5 := h1.z 5; have z6 := h1.z 6; have z7 := h1.z 7; have y0 := h1.fz 0; have y1 := h1.fz 1; have y2 := h1.fz 2; have y3 := h1.fz 3; have y4 := h1.fz 4; have y5 := h1.fz 5; have y6 := h1.fz 6; have y7 := h1.fz 7; simp at z0 z1 z2 z3 z4 z5 z6 z7; have S1 := Lib.hid h1; clear h1 hb1))
      have HF := S1.out.fin (.int .i64 0) (.string ⟨b.toArray⟩) (.int .i64 0) (.int .i64 0) (.int .i64 0) (.bool false) (.bool false) (.int .i64 0)
      have m0 := HF.1.at 0
      have m1 := HF.1.at 1
      have m2 := HF.1.at 2
      have m3 := HF.1.at 3
      have m4 := HF.1.at 4
      have m5 := HF.1.at 5
      have m6 := HF.1.at 6
      have m7 := HF.1.at 7
      simp at m0 m1 m2 m3 m4 m5 m6 m7
      refine bodyPost_ret (by simp [results, Try.results42, go_sem, m0, m1, m2, m3, m4, m5, m6, m7]; try rfl) rfl ?_
      exact SeEnd.yes HQ.out rfl rfl HF.2
    · have B2 := Lib.hid (fun w => beg0 34 34 rfl false hs (decide_eq_false h34) w)
      have B3 := Lib.hid (fun w => beg0 39 39 rfl true hs (decide_eq_true h39) w)
      go_enter Try.func42, Try.ntmps42
      go_wp2_with (first
        | (go_at_call 16; with_reducible refine (B1.out _).mono ?_; rintro e w' ⟨rfl, rfl⟩)
        | (go_at_call 16; with_reducible refine (B2.out _).mono ?_; rintro e w' ⟨rfl, rfl⟩)
        | (go_at_call 16; with_reducible refine (B3.out _).mono ?_; rintro e w' ⟨rfl, rfl⟩)
        | (go_at_call 49; with_reducible refine (KQ.out _).mono ?_; rintro e w1 ⟨rfl, hb1⟩; have h1 := S0.out.on hb1; have z0 := h1.z 0; have z1 := h1.z 1; have z2 := h1.z 2; have z3 := h1.z 3; have z4 := h1.z 4; have z5 := h1.z 5; have z6 := h1.z 6; have z7 := h1.z 7; have y0 := h1.fz 0; have y1 := h1.fz 1; have y2 := h1.fz 2; have y3 := h1.fz 3; have y4 := h1.fz 4; have y5 := h1.fz 5; have y6 := h1.fz 6; have y7 := h1.fz 7; simp at z0 z1 z2 z3 z4 z5 z6 z7; have S1 := Lib.hid h1; clear h1 hb1))
      have HF := S1.out.fin (.int .i64 0) (.string ⟨b.toArray⟩) (.int .i64 0) (.int .i64 0) (.int .i64 0) (.bool false) (.bool false) (.int .i64 0)
      have m0 := HF.1.at 0
      have m1 := HF.1.at 1
      have m2 := HF.1.at 2
      have m3 := HF.1.at 3
      have m4 := HF.1.at 4
      have m5 := HF.1.at 5
      have m6 := HF.1.at 6
      have m7 := HF.1.at 7
      simp at m0 m1 m2 m3 m4 m5 m6 m7
      refine bodyPost_ret (by simp [results, Try.results42, go_sem, m0, m1, m2, m3, m4, m5, m6, m7]; try rfl) rfl ?_
      exact SeEnd.yes HQ.out rfl rfl HF.2

end Go.Proofs.Ytclcjngdpicjjaa

namespace Go.Proofs.Ytclcjngdpicjjaa
open Go.RowKit
set_option linter.unusedVariables false
set_option linter.unusedSimpArgs false

set_option maxHeartbeats 4000000 in
set_option maxRecDepth 100000 in
theorem rsel_slc (s : ByteArray) (W : World) (hs : s.size ≤ 1000000) (h42 : s.data.toList.head? ≠ some 42) (h34 : s.data.toList.head? ≠ some 34) (h39 : s.data.toList.head? ≠ some 39) :
    Calls Try.prog 42 #[.string s] W (SeEnd s.data.toList W) := by
  have hsel : selQ s.data.toList = match slcQ s.data.toList with | some p => some p | none => (nrQ s.data.toList).map fun p => (sqI p.1, p.2) := by
    unfold selQ
    rw [if_neg h42, if_neg (fun h => h.elim h34 h39)]
    cases slcQ s.data.toList <;> rfl
  have B1 := Lib.hid (fun w => beg0 42 42 rfl false hs (decide_eq_false h42) w)
  have B2 := Lib.hid (fun w => beg0 34 34 rfl false hs (decide_eq_false h34) w)
  have B3 := Lib.hid (fun w => beg0 39 39 rfl false hs (decide_eq_false h39) w)
  have S0 := Lib.hid (ZeB.start W)
  clear h42 h34 h39
  cases hx : slcQ s.data.toList with
  | some p =>
    obtain ⟨x, n⟩ := p
    rw [hx] at hsel
    have HQ := Lib.hid (show selQ s.data.toList = some (x, n) from hsel)
    have hn := (slcQ_in hx).1
    have nI : (n : Int) > 0 := by omega
    have KS := Lib.hid (fun w => rslc_yes hx hs w)
    clear hsel hx hn
    go_enter Try.func42, Try.ntmps42
    go_wp2_with (first
    | (go_at_call 16; with_reducible refine (B1.out _).mono ?_; rintro e w' ⟨rfl, rfl⟩)
    | (go_at_call 16; with_reducible refine (B2.out _).mono ?_; rintro e w' ⟨rfl, rfl⟩)
    | (go_at_call 16; with_reducible refine (B3.out _).mono ?_; rintro e w' ⟨rfl, rfl⟩)
    | (go_at_call 50; with_reducible refine (KS.out _).mono ?_; rintro e w1 ⟨rfl, hb1⟩; have h1 := S0.out.on hb1; have h2 := h1.on (below1 w1 (.cells #[.int .i64 x.kind, .string x.name, .int .i64 x.index, .int .i64 x.start, .int .i64 x.en, .bool x.hs, .bool x.he, .int .i64 x.stride] 35)); have o2 := Own.fresh w1 35 #[.int .i64 x.kind, .string x.name, .int .i64 x.index, .int .i64 x.start, .int .i64 x.en, .bool x.hs, .bool x.he, .int .i64 x.stride]; have a0 := o2.at 0; have a1 := o2.at 1; have a2 := o2.at 2; have a3 := o2.at 3; have a4 := o2.at 4; have a5 := o2.at 5; have a6 := o2.at 6; have a7 := o2.at 7; simp at a0 a1 a2 a3 a4 a5 a6 a7; have z20 := h2.z 0; have y20 := h2.fz 0; have z21 := h2.z 1; have y21 := h2.fz 1; have z22 := h2.z 2; have y22 := h2.fz 2; have z23 := h2.z 3; have y23 := h2.fz 3; have z24 := h2.z 4; have y24 := h2.fz 4; have z25 := h2.z 5; have y25 := h2.fz 5; have z26 := h2.z 6; have y26 := h2.fz 6; have z27 := h2.z 7; have y27 := h2.fz 7; simp at z20 z21 z22 z23 z24 z25 z26 z27; have S2 := Lib.hid h2; clear h1 h2 hb1 o2))
    have HF := S2.out.fin (.int .i64 x.kind) (.string x.name) (.int .i64 x.index) (.int .i64 x.start) (.int .i64 x.en) (.bool x.hs) (.bool x.he) (.int .i64 x.stride)
    have m0 := HF.1.at 0
    have m1 := HF.1.at 1
    have m2 := HF.1.at 2
    have m3 := HF.1.at 3
    have m4 := HF.1.at 4
    have m5 := HF.1.at 5
    have m6 := HF.1.at 6
    have m7 := HF.1.at 7
    simp at m0 m1 m2 m3 m4 m5 m6 m7
    refine bodyPost_ret (by simp [results, Try.results42, go_sem, m0, m1, m2, m3, m4, m5, m6, m7]; try rfl) rfl ?_
    exact SeEnd.yes HQ.out rfl rfl HF.2
  | none =>
    rw [hx] at hsel
    have hsel : selQ s.data.toList = (nrQ s.data.toList).map fun p => (sqI p.1, p.2) := hsel
    have KS := Lib.hid (fun w => rslc_no hx hs w)
    clear hx
    cases hi : nrQ s.data.toList with
    | none =>
      rw [hi] at hsel
      have HQ := Lib.hid (show selQ s.data.toList = none from hsel)
      have KI := Lib.hid (fun w => rint_no hi hs w)
      clear hsel hi
      go_enter Try.func42, Try.ntmps42
      go_wp2_with (first
        | (go_at_call 16; with_reducible refine (B1.out _).mono ?_; rintro e w' ⟨rfl, rfl⟩)
        | (go_at_call 16; with_reducible refine (B2.out _).mono ?_; rintro e w' ⟨rfl, rfl⟩)
        | (go_at_call 16; with_reducible refine (B3.out _).mono ?_; rintro e w' ⟨rfl, rfl⟩)
        | (go_at_call 50; with_reducible refine (KS.out _).mono ?_; rintro e w1 ⟨x, rfl, hb1⟩; have h1 := S0.out.on hb1; have S2 := Lib.hid (fun o => h1.on (below1 w1 o)); clear h1 hb1)
        | (go_at_call 11; with_reducible refine (KI.out _).mono ?_; rintro e w3 ⟨rfl, hb3⟩; have h3 := (S2.out _).on hb3; have z30 := h3.z 0; have y30 := h3.fz 0; have z31 := h3.z 1; have y31 := h3.fz 1; have z32 := h3.z 2; have y32 := h3.fz 2; have z33 := h3.z 3; have y33 := h3.fz 3; have z34 := h3.z 4; have y34 := h3.fz 4; have z35 := h3.z 5; have y35 := h3.fz 5; have z36 := h3.z 6; have y36 := h3.fz 6; have z37 := h3.z 7; have y37 := h3.fz 7; simp at z30 z31 z32 z33 z34 z35 z36 z37; have S3 := Lib.hid h3; clear h3 hb3))
      have HF := S3.out.fin (.int .i64 0) (.string ⟨#[]⟩) (.int .i64 0) (.int .i64 0) (.int .i64 0) (.bool false) (.bool false) (.int .i64 0)
      have m0 := HF.1.at 0
      have m1 := HF.1.at 1
      have m2 := HF.1.at 2
      have m3 := HF.1.at 3
      have m4 := HF.1.at 4
      have m5 := HF.1.at 5
      have m6 := HF.1.at 6
      have m7 := HF.1.at 7
      simp at m0 m1 m2 m3 m4 m5 m6 m7
      refine bodyPost_ret (by simp [results, Try.results42, go_sem, m0, m1, m2, m3, m4, m5, m6, m7]; try rfl) rfl ?_
      exact SeEnd.no ⟨0, ⟨#[]⟩, 0, 0, 0, false, false, 0⟩ HQ.out rfl HF.2
    | some p =>
      obtain ⟨v, n⟩ := p
      rw [hi] at hsel
      have HQ := Lib.hid (show selQ s.data.toList = some (sqI v, n) from hsel)
      have KI := Lib.hid (fun w => rint_yes hi hs w)
      clear hsel hi
      go_enter Try.func42, Try.ntmps42
      go_wp2_with (first
        | (go_at_call 16; with_reducible refine (B1.out _).mono ?_; rintro e w' ⟨rfl, rfl⟩)
        | (go_at_call 16; with_reducible refine (B2.out _).mono ?_; rintro e w' ⟨rfl, rfl⟩)
        | (go_at_call 16; with_reducible refine (B3.out _).mono ?_; rintro e w' ⟨rfl, rfl⟩)
        | (go_at_call 50; with_reducible refine (KS.out _).mono ?_; rintro e w1 ⟨x, rfl, hb1⟩; have h1 := S0.out.on hb1; have S2 := Lib.hid (fun o => h1.on (below1 w1 o)); clear h1 hb1)
        | (go_at_call 11; with_reducible refine (KI.out _).mono ?_; rintro e w3 ⟨rfl, hb3⟩; have h3 := (S2.out _).on hb3; have z30 := h3.z 0; have y30 := h3.fz 0; have z31 := h3.z 1; have y31 := h3.fz 1; have z32 := h3.z 2; have y32 := h3.fz 2; have z33 := h3.z 3; have y33 := h3.fz 3; have z34 := h3.z 4; have y34 := h3.fz 4; have z35 := h3.z 5; have y35 := h3.fz 5; have z36 := h3.z 6; have y36 := h3.fz 6; have z37 := h3.z 7; have y37 := h3.fz 7; simp at z30 z31 z32 z33 z34 z35 z36 z37; have S3 := Lib.hid h3; clear h3 hb3))
      have HF := S3.out.fin (.int .i64 2) (.string ⟨#[]⟩) (.int .i64 v) (.int .i64 0) (.int .i64 0) (.bool false) (.bool false) (.int .i64 0)
      have m0 := HF.1.at 0
      have m1 := HF.1.at 1
      have m2 := HF.1.at 2
      have m3 := HF.1.at 3
      have m4 := HF.1.at 4
      have m5 := HF.1.at 5
      have m6 := HF.1.at 6
      have m7 := HF.1.at 7
      simp at m0 m1 m2 m3 m4 m5 m6 m7
      refine bodyPost_ret (by simp [results, Try.results42, go_sem, m0, m1, m2, m3, m4, m5, m6, m7]; try rfl) rfl ?_
      exact SeEnd.yes HQ.out rfl rfl HF.2

theorem rselector_any (s : ByteArray) (W : World) (hs : s.size ≤ 1000000) : Calls Try.prog 42 #[.string s] W (SeEnd s.data.toList W) := by
  by_cases h42 : s.data.toList.head? = some 42
  · exact rsel_any s W hs h42
  by_cases h34 : s.data.toList.head? = some 34
  · exact rsel_quo s W hs h42 (.inl h34)
  by_cases h39 : s.data.toList.head? = some 39
  · exact rsel_quo s W hs h42 (.inr h39)
  · exact rsel_slc s W hs h42 h34 h39

end Go.Proofs.Ytclcjngdpicjjaa

namespace Go.Proofs.Ytclcjngdpicjjaa
open Go.RowKit
set_option linter.unusedVariables false
set_option linter.unusedSimpArgs false

/-- Slices of selectors. -/
def selK : RowK Sel where
  T := 35
  S := 31
  n := 8
  bytes := 64
  zero := .agg #[.int .i64 0, .string ⟨#[]⟩, .int .i64 0, .int .i64 0, .int .i64 0, .bool false, .bool false, .int .i64 0]
  enc := fun s => [.int .i64 s.kind, .string s.name, .int .i64 s.index, .int .i64 s.start, .int .i64 s.en, .bool s.hs, .bool s.he, .int .i64 s.stride]
  pos := by decide
  len := fun _ => rfl
  one := fun s u h => by simp at h; rcases h with rfl | rfl | rfl | rfl | rfl | rfl | rfl | rfl <;> rfl
  under := Try.underlying31
  info := by kernel_rfl
  zlen := rfl
  small := by decide
theorem GRow.keep {α : Type} {K : RowK α} {w w' : World} {base B : Nat} {v : Value} {d : List α} (h : GRow K w base v d) (hb : Below B w w') (hB : w.heap.size ≤ B) : GRow K w' base v d :=
  h.stay fun g hg => hb.block g (Nat.lt_of_lt_of_le (h.low hg).2 hB)
theorem new_sel (w : World) (x : Sel) : RdG selK (w.alloc (.cells #[.int .i64 x.kind, .string x.name, .int .i64 x.index, .int .i64 x.start, .int .i64 x.en, .bool x.hs, .bool x.he, .int .i64 x.stride] 35)) (some ⟨w.heap.size, 0, none⟩) 1 [x] :=
  (GRow.made (K := selK) (base := 0) (l := [x]) w _ rfl (show 1 ≤ maxLen by decide) (Nat.zero_le _)).rd
theorem rsel_no {s : ByteArray} (h : selQ s.data.toList = none) (hs : s.size ≤ 1000000) (w : World) :
    Calls Try.prog 42 #[.string s] w fun e w' => ∃ x : Sel, e = .returned (.tuple #[.agg #[.int .i64 x.kind, .string x.name, .int .i64 x.index, .int .i64 x.start, .int .i64 x.en, .bool x.hs, .bool x.he, .int .i64 x.stride], .int .i64 0]) ∧ Below w.heap.size w w' := by
  refine (rselector_any s w hs).mono fun e w' he => ?_
  unfold SeEnd at he
  rw [h] at he
  obtain ⟨⟨x, he⟩, hb⟩ := he
  exact ⟨x, he, hb⟩
theorem rsel_yes {s : ByteArray} {x : Sel} {n : Nat} (h : selQ s.data.toList = some (x, n)) (hs : s.size ≤ 1000000) (w : World) :
    Calls Try.prog 42 #[.string s] w fun e w' => e = .returned (.tuple #[.agg #[.int .i64 x.kind, .string x.name, .int .i64 x.index, .int .i64 x.start, .int .i64 x.en, .bool x.hs, .bool x.he, .int .i64 x.stride], .int .i64 n]) ∧ Below w.heap.size w w' := by
  refine (rselector_any s w hs).mono fun e w' he => ?_
  unfold SeEnd at he
  rw [h] at he
  exact he
theorem brkGo_on (l : List UInt8) (f k : Nat) (acc : List Sel) (r1 p : Nat) (h1 : runB (l.drop k) = r1) (hp : k + r1 = p) : brkGo l (f + 1) k acc = match selQ (l.drop p) with
    | none => none
    | some (x, n) =>
      if (l.drop (p + n + runB (l.drop (p + n)))).head? = some 93 then some (acc ++ [x], p + n + runB (l.drop (p + n)) + 1)
      else if (l.drop (p + n + runB (l.drop (p + n)))).head? = some 44 then brkGo l f (p + n + runB (l.drop (p + n)) + 1) (acc ++ [x])
      else none := by
  subst h1 hp
  rfl
/-- What bracketed answers. -/
def BrEnd (l : List UInt8) (W : World) (e : Ending) (w' : World) : Prop :=
  (match brkQ l with
    | none => e = .returned (.tuple #[.slice none 0 0, .int .i64 0])
    | some (xs, n) => ∃ v, e = .returned (.tuple #[v, .int .i64 n]) ∧ GRow selK w' W.heap.size v xs ∧ xs.length ≤ l.length) ∧ Below W.heap.size W w'
theorem BrEnd.no {l : List UInt8} {W w' : World} (h : brkQ l = none) (hb : Below W.heap.size W w') : BrEnd l W (.returned (.tuple #[.slice none 0 0, .int .i64 0])) w' := by
  unfold BrEnd; rw [h]; exact ⟨rfl, hb⟩
theorem BrEnd.yes {l : List UInt8} {W w' : World} {xs : List Sel} {n : Nat} {k : Int} {v : Value} (h : brkQ l = some (xs, n)) (hk : (n : Int) = k) (hr : GRow selK w' W.heap.size v xs) (hl : xs.length ≤ l.length) (hb : Below W.heap.size W w') : BrEnd l W (.returned (.tuple #[v, .int .i64 k])) w' := by
  unfold BrEnd; rw [h, ← hk]; exact ⟨⟨v, rfl, hr, hl⟩, hb⟩
/-- Where bracketed's loop is. -/
def RelBr (s : ByteArray) (W : World) (vo va : Value) (wr : World) : Prop :=
  ∃ (k f : Nat) (acc : List Sel) (V : Value), V = vo ∧ 1 ≤ k ∧ k ≤ s.size ∧ va = .int .i64 k ∧ GRow selK wr W.heap.size vo acc ∧ Below W.heap.size W wr ∧ acc.length + 1 ≤ k ∧ brkGo s.data.toList f k acc = brkQ s.data.toList ∧ s.size < f + k

set_option maxHeartbeats 4000000 in
set_option maxRecDepth 100000 in
theorem rbracketed_any (s : ByteArray) (W : World) (hs : s.size ≤ 1000000) (h0 : 0 < s.size) :
    Calls Try.prog 30 #[.string s] W (BrEnd s.data.toList W) := by
  go_enter Try.func30, Try.ntmps30
  go_wp2
  go_loopw [4, 5] (fun vo va wr => RelBr s W vo va wr) (fun _ va _ => s.size + 1 - (intOf va).toNat)
  case atStart => exact ⟨1, s.size + 1, [], _, rfl, Nat.le_refl _, h0, rfl, GRow.made (K := selK) W #[] rfl (by simp [maxLen]) (Nat.le_refl _), below1 _ _, by simp, rfl, by omega⟩
  case round =>
    obtain ⟨k, f, acc, V, rfl, hk1, hks, rfl, hrow, hb, hal, hgo, hf⟩ := hrel
    obtain ⟨f, rfl⟩ : ∃ g, f = g + 1 := ⟨f - 1, by omega⟩
    obtain ⟨r1, hr1⟩ : ∃ r1, runB (s.data.toList.drop k) = r1 := ⟨_, rfl⟩
    obtain ⟨p, hp⟩ : ∃ p, k + r1 = p := ⟨_, rfl⟩
    have hle_p : p ≤ s.size := by have := runB_in s k r1 hks hr1; omega
    rw [brkGo_on _ _ _ _ r1 p hr1 hp] at hgo
    have K1 := Lib.hid (fun w => blk_at hks hs hr1 w)
    have sA : (k : Int) ≤ s.size := by omega
    have sB : (p : Int) ≤ s.size := by omega
    have eA : (k : Int) + r1 = p := by omega
    have htp := tail13 s p hle_p
    have hzp := tail_size s p hle_p
    have HB := Lib.hid hb
    have HROW := Lib.hid hrow
    cases hx : selQ (s.data.toList.drop p) with
    | none =>
      rw [hx] at hgo
      have HN := Lib.hid (show brkQ s.data.toList = none from hgo.symm)
      have KX := Lib.hid (fun w => rsel_no (s := s.extract p s.size) (by rw [htp]; exact hx) (by omega) w)
      clear hgo hx hrow hb htp hzp
      go_wp2_with (first
        | (go_at_call 17; with_reducible refine (K1.out _).mono ?_; rintro e w' ⟨rfl, rfl⟩)
        | (go_at_call 42; with_reducible refine (KX.out _).mono ?_; rintro e w1 ⟨x, rfl, hb1⟩; have HB1 := Lib.hid (fun o => (HB.out.trans (hb1.mono HB.out.size)).alloc (Nat.le_trans HB.out.size hb1.size) o); clear hb1))
      go_ret2
      exact BrEnd.no HN.out (HB1.out _)
    | some y =>
      obtain ⟨x, n⟩ := y
      obtain ⟨hn1, hn2⟩ := selQ_in hx
      rw [List.length_drop] at hn2
      have hn2 : n ≤ s.size - p := hn2
      obtain ⟨q, hq⟩ : ∃ q, p + n = q := ⟨_, rfl⟩
      obtain ⟨r2, hr2⟩ : ∃ r2, runB (s.data.toList.drop q) = r2 := ⟨_, rfl⟩
      obtain ⟨u, hu⟩ : ∃ u, q + r2 = u := ⟨_, rfl⟩
      have hle_q : q ≤ s.size := by omega
      have hle_u : u ≤ s.size := by have := runB_in s q r2 hle_q hr2; omega
      have hgo : (if (s.data.toList.drop u).head? = some 93 then some (acc ++ [x], u + 1) else if (s.data.toList.drop u).head? = some 44 then brkGo s.data.toList f (u + 1) (acc ++ [x]) else none) = brkQ s.data.toList := by
        rw [← hgo, hx]
        show _ = if (s.data.toList.drop (p + n + runB (s.data.toList.drop (p + n)))).head? = some 93 then _ else _
        rw [hq, hr2, hu]
      have KX := Lib.hid (fun w => rsel_yes (s := s.extract p s.size) (by rw [htp]; exact hx) (by omega) w)
      have K2 := Lib.hid (fun w => blk_at hle_q hs hr2 w)
      have sC : (q : Int) ≤ s.size := by omega
      have sD : (u : Int) ≤ s.size := by omega
      have eB : (p : Int) + n = q := by omega
      have eC : (q : Int) + r2 = u := by omega
      have nI : ((n : Int) == 0) = false := beq_eq_false_iff_ne.2 (by omega)
      have hak : acc.length ≤ 1000000 := by omega
      have hlen : (acc ++ [x]).length ≤ s.size := by rw [List.length_append]; show acc.length + 1 ≤ _; omega
      have HLEN := Lib.hid hlen
      have HLOW := Lib.hid (fun g' hg' => (hrow.low (g := g') hg').1)
      clear hx hrow hb htp hzp hlen
      have harm : True := trivial
      by_cases h93 : (s.data.toList.drop u).head? = some 93
      · rw [if_pos h93] at hgo
        have HG := Lib.hid hgo.symm
        have C1 := Lib.hid (fun w => beg_at (s := s) (p := u) 93 93 rfl true hle_u hs (decide_eq_true h93) w)
        clear hgo h93
        go_wp2_with (first
          | (go_at_call 17; with_reducible refine (K1.out _).mono ?_; rintro e w' ⟨rfl, rfl⟩)
          | (go_at_call 17; with_reducible refine (K2.out _).mono ?_; rintro e w' ⟨rfl, rfl⟩)
          | (go_at_call 16; with_reducible refine (C1.out _).mono ?_; rintro e w' ⟨rfl, rfl⟩)
          | (go_at_call 42
             go_must (
               with_reducible refine (KX.out _).mono ?_
               rintro e w1 ⟨rfl, hb1⟩
               have hb2 := (hb1.trans ((below1 w1 (.cells #[.int .i64 x.kind, .string x.name, .int .i64 x.index, .int .i64 x.start, .int .i64 x.en, .bool x.hs, .bool x.he, .int .i64 x.stride] 35)).mono hb1.size))
               have o2 := Own.fresh w1 35 #[.int .i64 x.kind, .string x.name, .int .i64 x.index, .int .i64 x.start, .int .i64 x.en, .bool x.hs, .bool x.he, .int .i64 x.stride]
               have a0 := o2.at 0
               have a1 := o2.at 1
               have a2 := o2.at 2
               have a3 := o2.at 3
               have a4 := o2.at 4
               have a5 := o2.at 5
               have a6 := o2.at 6
               have a7 := o2.at 7
               simp at a0 a1 a2 a3 a4 a5 a6 a7
               have HB2 := Lib.hid (fun o => hb2.alloc hb2.size o)
               have hnew := new_sel (w1.alloc (.cells #[.int .i64 x.kind, .string x.name, .int .i64 x.index, .int .i64 x.start, .int .i64 x.en, .bool x.hs, .bool x.he, .int .i64 x.stride] 35)) x
               have hz2 : (w1.alloc (.cells #[.int .i64 x.kind, .string x.name, .int .i64 x.index, .int .i64 x.start, .int .i64 x.en, .bool x.hs, .bool x.he, .int .i64 x.stride] 35)).heap.size = w1.heap.size + 1 := by simp
               rw [hz2] at hnew
               have HNEW := Lib.hid hnew
               clear hb1 hb2 o2 hnew hz2))
          | (at_builtin
             go_must (
               refine row_append (K := selK) _ rfl (.tmp 24) (.tmp 26) rfl W.heap.size _ acc rfl (HROW.out.keep (HB2.out _) (Nat.le_refl _)) _ 1 1 [x] rfl HNEW.out (by omega) (Nat.le_trans HB.out.size (HB2.out _).size) ?_
               intro v4 w4 row4 grown4 at4
               have HB4 := Lib.hid (below_grown (HB.out.trans ((HB2.out _).mono HB.out.size)) grown4 (Nat.le_trans HB.out.size (HB2.out _).size) HLOW.out)
               have R4 := Lib.hid row4
               clear grown4 at4 row4)))
        go_ret2
        exact BrEnd.yes HG.out (by omega) R4.out HLEN.out HB4.out
      · rw [if_neg h93] at hgo
        have C1 := Lib.hid (fun w => beg_at (s := s) (p := u) 93 93 rfl false hle_u hs (decide_eq_false h93) w)
        by_cases h44 : (s.data.toList.drop u).head? = some 44
        · rw [if_pos h44] at hgo
          have HG := Lib.hid hgo
          have hult := head_lt h44
          have C2 := Lib.hid (fun w => beg_at (s := s) (p := u) 44 44 rfl true hle_u hs (decide_eq_true h44) w)
          clear hgo h93 h44
          go_wp2_with (first
            | (go_at_call 17; with_reducible refine (K1.out _).mono ?_; rintro e w' ⟨rfl, rfl⟩)
            | (go_at_call 17; with_reducible refine (K2.out _).mono ?_; rintro e w' ⟨rfl, rfl⟩)
            | (go_at_call 16; with_reducible refine (C1.out _).mono ?_; rintro e w' ⟨rfl, rfl⟩)
            | (go_at_call 16; with_reducible refine (C2.out _).mono ?_; rintro e w' ⟨rfl, rfl⟩)
            | (go_at_call 42
               go_must (
                 with_reducible refine (KX.out _).mono ?_
                 rintro e w1 ⟨rfl, hb1⟩
                 have hb2 := (hb1.trans ((below1 w1 (.cells #[.int .i64 x.kind, .string x.name, .int .i64 x.index, .int .i64 x.start, .int .i64 x.en, .bool x.hs, .bool x.he, .int .i64 x.stride] 35)).mono hb1.size))
                 have o2 := Own.fresh w1 35 #[.int .i64 x.kind, .string x.name, .int .i64 x.index, .int .i64 x.start, .int .i64 x.en, .bool x.hs, .bool x.he, .int .i64 x.stride]
                 have a0 := o2.at 0
                 have a1 := o2.at 1
                 have a2 := o2.at 2
                 have a3 := o2.at 3
                 have a4 := o2.at 4
                 have a5 := o2.at 5
                 have a6 := o2.at 6
                 have a7 := o2.at 7
                 simp at a0 a1 a2 a3 a4 a5 a6 a7
                 have HB2 := Lib.hid (fun o => hb2.alloc hb2.size o)
                 have hnew := new_sel (w1.alloc (.cells #[.int .i64 x.kind, .string x.name, .int .i64 x.index, .int .i64 x.start, .int .i64 x.en, .bool x.hs, .bool x.he, .int .i64 x.stride] 35)) x
                 have hz2 : (w1.alloc (.cells #[.int .i64 x.kind, .string x.name, .int .i64 x.index, .int .i64 x.start, .int .i64 x.en, .bool x.hs, .bool x.he, .int .i64 x.stride] 35)).heap.size = w1.heap.size + 1 := by simp
                 rw [hz2] at hnew
                 have HNEW := Lib.hid hnew
                 clear hb1 hb2 o2 hnew hz2))
            | (at_builtin
               go_must (
                 refine row_append (K := selK) _ rfl (.tmp 24) (.tmp 26) rfl W.heap.size _ acc rfl (HROW.out.keep (HB2.out _) (Nat.le_refl _)) _ 1 1 [x] rfl HNEW.out (by omega) (Nat.le_trans HB.out.size (HB2.out _).size) ?_
                 intro v4 w4 row4 grown4 at4
                 have HB4 := Lib.hid (below_grown (HB.out.trans ((HB2.out _).mono HB.out.size)) grown4 (Nat.le_trans HB.out.size (HB2.out _).size) HLOW.out)
                 have R4 := Lib.hid row4
                 clear grown4 at4 row4)))
          go_roundw
          case rel => exact ⟨u + 1, f, acc ++ [x], _, rfl, by omega, by omega, by go_num, R4.out, HB4.out, by rw [List.length_append]; show acc.length + 1 + 1 ≤ _; omega, HG.out, by omega⟩
          case measure => simp [intOf]; omega
        · rw [if_neg h44] at hgo
          have HN := Lib.hid hgo.symm
          have C2 := Lib.hid (fun w => beg_at (s := s) (p := u) 44 44 rfl false hle_u hs (decide_eq_false h44) w)
          clear hgo h93 h44
          go_wp2_with (first
            | (go_at_call 17; with_reducible refine (K1.out _).mono ?_; rintro e w' ⟨rfl, rfl⟩)
            | (go_at_call 17; with_reducible refine (K2.out _).mono ?_; rintro e w' ⟨rfl, rfl⟩)
            | (go_at_call 16; with_reducible refine (C1.out _).mono ?_; rintro e w' ⟨rfl, rfl⟩)
            | (go_at_call 16; with_reducible refine (C2.out _).mono ?_; rintro e w' ⟨rfl, rfl⟩)
            | (go_at_call 42
               go_must (
                 with_reducible refine (KX.out _).mono ?_
                 rintro e w1 ⟨rfl, hb1⟩
                 have hb2 := (hb1.trans ((below1 w1 (.cells #[.int .i64 x.kind, .string x.name, .int .i64 x.index, .int .i64 x.start, .int .i64 x.en, .bool x.hs, .bool x.he, .int .i64 x.stride] 35)).mono hb1.size))
                 have o2 := Own.fresh w1 35 #[.int .i64 x.kind, .string x.name, .int .i64 x.index, .int .i64 x.start, .int .i64 x.en, .bool x.hs, .bool x.he, .int .i64 x.stride]
                 have a0 := o2.at 0
                 have a1 := o2.at 1
                 have a2 := o2.at 2
                 have a3 := o2.at 3
                 have a4 := o2.at 4
                 have a5 := o2.at 5
                 have a6 := o2.at 6
                 have a7 := o2.at 7
                 simp at a0 a1 a2 a3 a4 a5 a6 a7
                 have HB2 := Lib.hid (fun o => hb2.alloc hb2.size o)
                 have hnew := new_sel (w1.alloc (.cells #[.int .i64 x.kind, .string x.name, .int .i64 x.index, .int .i64 x.start, .int .i64 x.en, .bool x.hs, .bool x.he, .int .i64 x.stride] 35)) x
                 have hz2 : (w1.alloc (.cells #[.int .i64 x.kind, .string x.name, .int .i64 x.index, .int .i64 x.start, .int .i64 x.en, .bool x.hs, .bool x.he, .int .i64 x.stride] 35)).heap.size = w1.heap.size + 1 := by simp
                 rw [hz2] at hnew
                 have HNEW := Lib.hid hnew
                 clear hb1 hb2 o2 hnew hz2))
            | (at_builtin
               go_must (
                 refine row_append (K := selK) _ rfl (.tmp 24) (.tmp 26) rfl W.heap.size _ acc rfl (HROW.out.keep (HB2.out _) (Nat.le_refl _)) _ 1 1 [x] rfl HNEW.out (by omega) (Nat.le_trans HB.out.size (HB2.out _).size) ?_
                 intro v4 w4 row4 grown4 at4
                 have HB4 := Lib.hid (below_grown (HB.out.trans ((HB2.out _).mono HB.out.size)) grown4 (Nat.le_trans HB.out.size (HB2.out _).size) HLOW.out)
                 clear grown4 at4 row4)))
          go_ret2
          exact BrEnd.no HN.out HB4.out

end Go.Proofs.Ytclcjngdpicjjaa
