/- Package query's reader: selectors. -/
import Derived.Test.YtclcjngdpicjjaaRows
import Derived.Test.YtclcjngdpicjjaaJ03
import Derived.Test.YtclcjngdpicjjaaJ05
import Derived.Test.YtclcjngdpicjjaaJ08
import Derived.Test.YtclcjngdpicjjaaJ13
import Derived.Test.YtclcjngdpicjjaaJ14
import Derived.Test.YtclcjngdpicjjaaJ17
namespace Go.Proofs.Ytclcjngdpicjjaa
open Go.RowKit
set_option linter.unusedVariables false
set_option linter.unusedSimpArgs false

theorem slcR_le (a : Option Int) (r : List UInt8) : (slcR a r).2.length ≤ r.length := by
  unfold slcR slcE
  have l1 := skB_le r
  have l2 := intA_le (skB r)
  have l3 := skB_le (intA (skB r)).2
  have l4 := skB_le (skB (intA (skB r)).2).tail
  split
  · have l5 : (skB (intA (skB r)).2).tail.length ≤ (skB (intA (skB r)).2).length := by simp
    split
    · show (List.drop _ _).length ≤ _
      rw [List.length_drop]; omega
    · show (skB _).length ≤ _
      omega
  · show (skB _).length ≤ _
    omega
theorem selR_le {l r : List UInt8} {x : Sel} (h : selR l = some (x, r)) : r.length ≤ l.length := by
  rw [selR_on] at h
  split at h
  · injection h with h
    injection h with h1 h2
    rw [← h2]
    simp
  split at h
  · obtain ⟨a, h, _⟩ := map_in (f := fun a => sqN a) h
    unfold sngR at h
    cases hq : trL (l.tail.length + 1) l.tail with
    | none => rw [hq] at h; cases h
    | some p =>
      rw [hq] at h
      have hl := trL_le p hq
      have h : ((readQ .plain (p.1 ++ [34]) [] 0).map fun u => (u.1, p.2)) = some (a, r) := h
      cases hu : readQ .plain (p.1 ++ [34]) [] 0 with
      | none => rw [hu] at h; cases h
      | some u =>
        rw [hu] at h
        injection h with h
        injection h with h1 h2
        rw [← h2]
        simp at hl
        omega
  split at h
  · obtain ⟨a, h, _⟩ := map_in (f := fun a => sqN a) h
    unfold dblR at h
    cases hu : readQ .plain l.tail [] 0 with
    | none => rw [hu] at h; cases h
    | some u =>
      rw [hu] at h
      injection h with h
      injection h with h1 h2
      rw [← h2, List.length_drop, List.length_tail]
      omega
  have l1 := intA_le l
  have l2 := skB_le (intA l).2
  split at h
  · injection h with h
    have := slcR_le (intA l).1 (skB (intA l).2).tail
    rw [h] at this
    rw [List.length_tail] at this
    show r.length ≤ _
    have this : r.length ≤ _ := this
    omega
  · cases hi : (intA l).1 with
    | none => rw [hi] at h; cases h
    | some v =>
      rw [hi] at h
      injection h with h
      injection h with h1 h2
      rw [← h2]
      omega
theorem sel_no {b : Nat} {l : List UInt8} {W : World} (h : RdR W b l) (hl : l.length ≤ 1000000) (hn : selR l = none) :
    Calls Try.prog 40 #[.pointer (some ⟨b, 0, none⟩)] W fun e w' => ∃ (x : Sel) (r : List UInt8), e = .returned (.tuple #[.agg #[.int .i64 x.kind, .string x.name, .int .i64 x.index, .int .i64 x.start, .int .i64 x.en, .bool x.hs, .bool x.he, .int .i64 x.stride], .bool false]) ∧ Went W b r w' := by
  refine (selector_any b l W h hl).mono ?_
  rintro e w' ⟨x, ok, r, rfl, hw, hm⟩
  rw [hn] at hm
  obtain rfl : ok = false := hm
  exact ⟨x, r, rfl, hw⟩
theorem sel_yes {b : Nat} {l r : List UInt8} {x : Sel} {W : World} (h : RdR W b l) (hl : l.length ≤ 1000000) (hn : selR l = some (x, r)) :
    Calls Try.prog 40 #[.pointer (some ⟨b, 0, none⟩)] W fun e w' => e = .returned (.tuple #[.agg #[.int .i64 x.kind, .string x.name, .int .i64 x.index, .int .i64 x.start, .int .i64 x.en, .bool x.hs, .bool x.he, .int .i64 x.stride], .bool true]) ∧ Went W b r w' := by
  refine (selector_any b l W h hl).mono ?_
  rintro e w' ⟨x', ok, r', rfl, hw, hm⟩
  rw [hn] at hm
  obtain ⟨rfl, rfl, rfl⟩ := hm
  exact ⟨rfl, hw⟩
section
variable {W w w' : World} {b : Nat} {r r' : List UInt8}
theorem GRow.turned {α : Type} {K : RowK α} {base : Nat} {v : Value} {l : List α} (h : GRow K w base v l) (ht : Turned b w w') (hb : b < base) : GRow K w' base v l :=
  h.stay fun g hg => ht.2.2.2.2 g (h.low hg).2 (by have := (h.low hg).1; omega)
theorem Went.skip (h : Went W b r w) (hl : r.length ≤ 1000000) : Calls Try.prog 26 #[.pointer (some ⟨b, 0, none⟩)] w fun e w' => e = .returned (.tuple #[]) ∧ Went w b (skB r) w' ∧ Went W b (skB r) w' := by
  refine (skip_any b r w h.1 hl).mono ?_
  rintro e w' ⟨rfl, hw⟩
  exact ⟨rfl, hw, h.trans hw⟩
theorem Went.yes {c : UInt8} (h : Went W b r w) (hc : r.head? = some c) : Calls Try.prog 14 #[.pointer (some ⟨b, 0, none⟩), .string ⟨#[c]⟩] w fun e w' => e = .returned (.bool true) ∧ Went w b r.tail w' ∧ Went W b r.tail w' := by
  cases r with
  | nil => cases hc
  | cons d t =>
    obtain rfl := Option.some.inj hc
    refine (take_yes b d t w h.1).mono ?_
    rintro e w' ⟨rfl, hw⟩
    exact ⟨rfl, hw, h.trans hw⟩
theorem Went.no {c : UInt8} (h : Went W b r w) (hc : r.head? ≠ some c) : Calls Try.prog 14 #[.pointer (some ⟨b, 0, none⟩), .string ⟨#[c]⟩] w fun e w' => e = .returned (.bool false) ∧ Went w b r w' ∧ Went W b r w' := by
  refine (take_no b c r w h.1 hc).mono ?_
  rintro e w' ⟨rfl, hw⟩
  exact ⟨rfl, hw, h.trans hw⟩
theorem Went.selNo (h : Went W b r w) (hl : r.length ≤ 1000000) (hn : selR r = none) : Calls Try.prog 40 #[.pointer (some ⟨b, 0, none⟩)] w fun e w' => ∃ (x : Sel) (r' : List UInt8), e = .returned (.tuple #[.agg #[.int .i64 x.kind, .string x.name, .int .i64 x.index, .int .i64 x.start, .int .i64 x.en, .bool x.hs, .bool x.he, .int .i64 x.stride], .bool false]) ∧ Went W b r' w' := by
  refine (sel_no h.1 hl hn).mono ?_
  rintro e w' ⟨x, r', rfl, hw⟩
  exact ⟨x, r', rfl, h.trans hw⟩
theorem Went.selYes {x : Sel} (h : Went W b r w) (hl : r.length ≤ 1000000) (hn : selR r = some (x, r')) : Calls Try.prog 40 #[.pointer (some ⟨b, 0, none⟩)] w fun e w' => e = .returned (.tuple #[.agg #[.int .i64 x.kind, .string x.name, .int .i64 x.index, .int .i64 x.start, .int .i64 x.en, .bool x.hs, .bool x.he, .int .i64 x.stride], .bool true]) ∧ Went w b r' w' ∧ Went W b r' w' := by
  refine (sel_yes h.1 hl hn).mono ?_
  rintro e w' ⟨rfl, hw⟩
  exact ⟨rfl, hw, h.trans hw⟩
theorem Went.alloc (h : Went W b r w) (o : Obj) : Went W b r (w.alloc o) :=
  ⟨Own.over h.1 o, h.2.trans (Turned.of_below (below1 w o) rfl)⟩
theorem Went.grown {row : Option Nat} (h : Went W b r w) (hb : b < W.heap.size) (hg : w.grownBy w' row) (hr : ∀ g, row = some g → W.heap.size ≤ g) : Went W b r w' := by
  obtain ⟨g1, g2, g3, g4, g5⟩ := hg
  have t := h.2
  have hz := t.2.2.2.1
  have key : ∀ k, k < W.heap.size → w'.heap[k]? = w.heap[k]? := fun k hk => g5 k (by omega) (fun e => by have := hr k e.symm; omega)
  exact ⟨(key b hb).trans h.1, g1.trans t.1, g2.trans t.2.1, g3.trans t.2.2.1, Nat.le_trans hz g4, fun k hk hne => (key k hk).trans (t.2.2.2.2 k hk hne)⟩
end
/-- What selectors answers. -/
def BkEnd (l : List UInt8) (b : Nat) (W : World) (e : Ending) (w' : World) : Prop :=
  ∃ (v : Value) (ok : Bool) (xs : List Sel) (r : List UInt8), e = .returned (.tuple #[v, .bool ok]) ∧ Went W b r w' ∧ GRow selK w' W.heap.size v xs ∧ xs.length ≤ l.length + 1 ∧ match brkS l with
    | none => ok = false
    | some (xs', r') => ok = true ∧ xs = xs' ∧ r = r'
/-- Where selectors' loop is. -/
def RelSs (b : Nat) (l : List UInt8) (W : World) (vo : Value) (wr : World) : Prop :=
  ∃ (r : List UInt8) (acc : List Sel) (f : Nat) (V : Value), V = vo ∧ Went W b r wr ∧ GRow selK wr W.heap.size vo acc ∧ r.length ≤ l.length ∧ acc.length + r.length ≤ l.length ∧ r.length < f ∧ brkR f r acc = brkS l

set_option maxHeartbeats 8000000 in
set_option maxRecDepth 100000 in
theorem selectors_any (b : Nat) (l : List UInt8) (W : World) (h : RdR W b l) (hl : l.length ≤ 1000000) :
    Calls Try.prog 27 #[.pointer (some ⟨b, 0, none⟩)] W (BkEnd l b W) := by
  have HB := Lib.hid h.inside
  have HR0 := Lib.hid (show RelSs b l W (.slice none 0 0) W from ⟨l, [], l.length + 2, _, rfl, h.same, GRow.nil W _, Nat.le_refl _, by simp, by omega, rfl⟩)
  clear h
  go_enter Try.func27, Try.ntmps27
  go_wp2
  go_loopw [4] (fun vo wr => RelSs b l W vo wr) (fun _ wr => muR b wr)
  case atStart => exact HR0.out
  case round =>
    obtain ⟨r, acc, f, V, rfl, hw, hrow, hrl, hal, hf, hgo⟩ := hrel
    obtain ⟨f, rfl⟩ : ∃ g, f = g + 1 := ⟨f - 1, by omega⟩
    have HM0 := Lib.hid (muR_is hw.1)
    have h9 : r.length ≤ 1000000 := by omega
    have hs9 : (skB r).length ≤ 1000000 := Nat.le_trans (skB_le r) h9
    have hsr := skB_le r
    have HW0 := Lib.hid hw
    have HROW := Lib.hid hrow
    rw [brkR_on] at hgo
    unfold nxR at hgo
    clear hw
    cases hx : selR (skB r) with
    | none =>
      rw [hx] at hgo
      have HN := Lib.hid (show brkS l = none from hgo.symm)
      have HX := Lib.hid hx
      clear hgo hx hrow
      go_wp2_with (first
        | (go_at_call 26; with_reducible refine (Went.skip HW0.out h9).mono ?_
           go_must (
             rintro e w1 ⟨rfl, t1, i1⟩
             have H1 := Lib.hid i1
             clear i1 t1))
        | (go_at_call 40; with_reducible refine (Went.selNo H1.out hs9 HX.out).mono ?_
           go_must (
             rintro e w2 ⟨x, r2, rfl, i2⟩
             have H2 := Lib.hid (i2.alloc (.cells #[.int .i64 x.kind, .string x.name, .int .i64 x.index, .int .i64 x.start, .int .i64 x.en, .bool x.hs, .bool x.he, .int .i64 x.stride] 35))
             clear i2)))
      go_ret2
      exact ⟨_, false, [], r2, rfl, H2.out, GRow.nil _ _, by simp, by rw [HN.out]⟩
    | some p =>
      obtain ⟨x, r1⟩ := p
      rw [hx] at hgo
      have hr1 := selR_le hx
      have ht1 := skB_le r1
      have HX := Lib.hid hx
      have h19 : r1.length ≤ 1000000 := by omega
      have hal9 : acc.length ≤ 1000000 := by omega
      have HLOW := Lib.hid (fun g' hg' => (hrow.low (g := g') hg').1)
      have hgo : (match endP (x, r1) with
        | none => none
        | some (x, t) => if t.head? = some 44 then brkR f t.tail (acc ++ [x]) else some (acc ++ [x], t.tail)) = brkS l := hgo
      have hep : endP (x, r1) = if EndS (skB r1) then some (x, skB r1) else none := rfl
      generalize ht : skB r1 = t at *
      have HT := Lib.hid ht
      clear hx ht hrow
      by_cases h44 : t.head? = some 44
      · have hgo : brkR f t.tail (acc ++ [x]) = brkS l := by
          rw [← hgo, hep, if_pos (.inr h44)]
          exact (if_pos h44).symm
        have hlt : t.tail.length < t.length := by
          cases t with
          | nil => cases h44
          | cons a u => simp
        have HGO := Lib.hid hgo
        have HLT := Lib.hid hlt
        have HBD := Lib.hid (show r.length ≤ l.length ∧ acc.length + r.length ≤ l.length ∧ r.length < f + 1 ∧ t.length ≤ r.length from ⟨hrl, hal, hf, by omega⟩)
        clear hgo hep hlt hrl hal hf hsr hr1 ht1
        go_wp2_with (first
        | (go_at_call 26; with_reducible refine (Went.skip HW0.out h9).mono ?_
           go_must (
             rintro e w1 ⟨rfl, t1, i1⟩
             have T1 := Lib.hid t1.2
             have H1 := Lib.hid i1
             clear i1 t1))
        | (go_at_call 40; with_reducible refine (Went.selYes H1.out hs9 HX.out).mono ?_
           go_must (
             rintro e w2 ⟨rfl, t2, i2⟩
             have o2 := Own.fresh w2 35 #[.int .i64 x.kind, .string x.name, .int .i64 x.index, .int .i64 x.start, .int .i64 x.en, .bool x.hs, .bool x.he, .int .i64 x.stride]
             have a0 := o2.at 0
             have a1 := o2.at 1
             have a2 := o2.at 2
             have a3 := o2.at 3
             have a4 := o2.at 4
             have a5 := o2.at 5
             have a6 := o2.at 6
             have a7 := o2.at 7
             simp at a0 a1 a2 a3 a4 a5 a6 a7
             have HROW2 := Lib.hid (fun o => (((HROW.out.turned T1.out HB.out).turned t2.2 HB.out).keep (below1 w2 (.cells #[.int .i64 x.kind, .string x.name, .int .i64 x.index, .int .i64 x.start, .int .i64 x.en, .bool x.hs, .bool x.he, .int .i64 x.stride] 35)) (Nat.le_refl _)).keep (below1 _ o) (Nat.le_refl _))
             have HW2 := Lib.hid (fun o => (i2.alloc (.cells #[.int .i64 x.kind, .string x.name, .int .i64 x.index, .int .i64 x.start, .int .i64 x.en, .bool x.hs, .bool x.he, .int .i64 x.stride] 35)).alloc o)
             have hnew := new_sel (w2.alloc (.cells #[.int .i64 x.kind, .string x.name, .int .i64 x.index, .int .i64 x.start, .int .i64 x.en, .bool x.hs, .bool x.he, .int .i64 x.stride] 35)) x
             have hz2 : (w2.alloc (.cells #[.int .i64 x.kind, .string x.name, .int .i64 x.index, .int .i64 x.start, .int .i64 x.en, .bool x.hs, .bool x.he, .int .i64 x.stride] 35)).heap.size = w2.heap.size + 1 := by simp
             rw [hz2] at hnew
             have HNEW := Lib.hid hnew
             have HZ := Lib.hid (fun o => (HW2.out o).2.2.2.2.1)
             clear t2 i2 o2 hnew hz2))
        | (at_builtin
           go_must (
             refine row_append (K := selK) _ rfl (.tmp 16) (.tmp 18) rfl W.heap.size _ acc rfl (HROW2.out _) _ 1 1 [x] rfl HNEW.out (by show _ + 1 ≤ _; omega) (HZ.out _) ?_
             intro v4 w4 row4 grown4 at4
             have i4 := (HW2.out _).grown HB.out grown4 HLOW.out
             have R4 := Lib.hid row4
             have H4 := Lib.hid i4
             clear row4 grown4 at4 i4))
        | (go_at_call 26; with_reducible refine (Went.skip H4.out h19).mono ?_
           go_must (
             rintro e w5 ⟨rfl, t5, i5⟩
             rw [HT.out] at t5 i5
             have R5 := Lib.hid (R4.out.turned t5.2 HB.out)
             have H5 := Lib.hid i5
             clear i5 t5))
        | (go_at_call 14; with_reducible refine (Went.yes H5.out h44).mono ?_
           go_must (
             rintro e w6 ⟨rfl, t6, i6⟩
             have R6 := Lib.hid (R5.out.turned t6.2 HB.out)
             have H6 := Lib.hid i6
             clear i6 t6)))
        go_roundw
        case rel => exact ⟨t.tail, acc ++ [x], f, _, rfl, H6.out, R6.out, by have := HBD.out; have := HLT.out; omega, by have := HBD.out; have := HLT.out; rw [List.length_append]; show acc.length + 1 + _ ≤ _; omega, by have := HBD.out; have := HLT.out; omega, HGO.out⟩
        case measure => rw [muR_is H6.out.1, HM0.out]; have := HBD.out; have := HLT.out; omega
      have HA := Lib.hid (show (acc ++ [x]).length ≤ l.length + 1 by rw [List.length_append]; show acc.length + 1 ≤ _; omega)
      by_cases h93 : t.head? = some 93
      · have HG := Lib.hid (show brkS l = some (acc ++ [x], t.tail) by
          rw [← hgo, hep, if_pos (.inl h93)]
          exact if_neg h44)
        clear hgo hep hrl hal hf hsr hr1 ht1
        go_wp2_with (first
        | (go_at_call 26; with_reducible refine (Went.skip HW0.out h9).mono ?_
           go_must (
             rintro e w1 ⟨rfl, t1, i1⟩
             have T1 := Lib.hid t1.2
             have H1 := Lib.hid i1
             clear i1 t1))
        | (go_at_call 40; with_reducible refine (Went.selYes H1.out hs9 HX.out).mono ?_
           go_must (
             rintro e w2 ⟨rfl, t2, i2⟩
             have o2 := Own.fresh w2 35 #[.int .i64 x.kind, .string x.name, .int .i64 x.index, .int .i64 x.start, .int .i64 x.en, .bool x.hs, .bool x.he, .int .i64 x.stride]
             have a0 := o2.at 0
             have a1 := o2.at 1
             have a2 := o2.at 2
             have a3 := o2.at 3
             have a4 := o2.at 4
             have a5 := o2.at 5
             have a6 := o2.at 6
             have a7 := o2.at 7
             simp at a0 a1 a2 a3 a4 a5 a6 a7
             have HROW2 := Lib.hid (fun o => (((HROW.out.turned T1.out HB.out).turned t2.2 HB.out).keep (below1 w2 (.cells #[.int .i64 x.kind, .string x.name, .int .i64 x.index, .int .i64 x.start, .int .i64 x.en, .bool x.hs, .bool x.he, .int .i64 x.stride] 35)) (Nat.le_refl _)).keep (below1 _ o) (Nat.le_refl _))
             have HW2 := Lib.hid (fun o => (i2.alloc (.cells #[.int .i64 x.kind, .string x.name, .int .i64 x.index, .int .i64 x.start, .int .i64 x.en, .bool x.hs, .bool x.he, .int .i64 x.stride] 35)).alloc o)
             have hnew := new_sel (w2.alloc (.cells #[.int .i64 x.kind, .string x.name, .int .i64 x.index, .int .i64 x.start, .int .i64 x.en, .bool x.hs, .bool x.he, .int .i64 x.stride] 35)) x
             have hz2 : (w2.alloc (.cells #[.int .i64 x.kind, .string x.name, .int .i64 x.index, .int .i64 x.start, .int .i64 x.en, .bool x.hs, .bool x.he, .int .i64 x.stride] 35)).heap.size = w2.heap.size + 1 := by simp
             rw [hz2] at hnew
             have HNEW := Lib.hid hnew
             have HZ := Lib.hid (fun o => (HW2.out o).2.2.2.2.1)
             clear t2 i2 o2 hnew hz2))
        | (at_builtin
           go_must (
             refine row_append (K := selK) _ rfl (.tmp 16) (.tmp 18) rfl W.heap.size _ acc rfl (HROW2.out _) _ 1 1 [x] rfl HNEW.out (by show _ + 1 ≤ _; omega) (HZ.out _) ?_
             intro v4 w4 row4 grown4 at4
             have i4 := (HW2.out _).grown HB.out grown4 HLOW.out
             have R4 := Lib.hid row4
             have H4 := Lib.hid i4
             clear row4 grown4 at4 i4))
        | (go_at_call 26; with_reducible refine (Went.skip H4.out h19).mono ?_
           go_must (
             rintro e w5 ⟨rfl, t5, i5⟩
             rw [HT.out] at t5 i5
             have R5 := Lib.hid (R4.out.turned t5.2 HB.out)
             have H5 := Lib.hid i5
             clear i5 t5))
        | (go_at_call 14; with_reducible refine (Went.no H5.out h44).mono ?_
           go_must (
             rintro e w6 ⟨rfl, t6, i6⟩
             have R6 := Lib.hid (R5.out.turned t6.2 HB.out)
             have H6 := Lib.hid i6
             clear i6 t6))
        | (go_at_call 14; with_reducible refine (Went.yes H6.out h93).mono ?_
           go_must (
             rintro e w7 ⟨rfl, t7, i7⟩
             have R7 := Lib.hid (R6.out.turned t7.2 HB.out)
             have H7 := Lib.hid i7
             clear i7 t7)))
        go_ret2
        exact ⟨_, true, _, _, rfl, H7.out, R7.out, HA.out, by rw [HG.out]; exact ⟨rfl, rfl, rfl⟩⟩
      · have HG := Lib.hid (show brkS l = none by
          rw [← hgo, hep, if_neg (fun e => e.elim h93 h44)])
        clear hgo hep hrl hal hf hsr hr1 ht1
        go_wp2_with (first
        | (go_at_call 26; with_reducible refine (Went.skip HW0.out h9).mono ?_
           go_must (
             rintro e w1 ⟨rfl, t1, i1⟩
             have T1 := Lib.hid t1.2
             have H1 := Lib.hid i1
             clear i1 t1))
        | (go_at_call 40; with_reducible refine (Went.selYes H1.out hs9 HX.out).mono ?_
           go_must (
             rintro e w2 ⟨rfl, t2, i2⟩
             have o2 := Own.fresh w2 35 #[.int .i64 x.kind, .string x.name, .int .i64 x.index, .int .i64 x.start, .int .i64 x.en, .bool x.hs, .bool x.he, .int .i64 x.stride]
             have a0 := o2.at 0
             have a1 := o2.at 1
             have a2 := o2.at 2
             have a3 := o2.at 3
             have a4 := o2.at 4
             have a5 := o2.at 5
             have a6 := o2.at 6
             have a7 := o2.at 7
             simp at a0 a1 a2 a3 a4 a5 a6 a7
             have HROW2 := Lib.hid (fun o => (((HROW.out.turned T1.out HB.out).turned t2.2 HB.out).keep (below1 w2 (.cells #[.int .i64 x.kind, .string x.name, .int .i64 x.index, .int .i64 x.start, .int .i64 x.en, .bool x.hs, .bool x.he, .int .i64 x.stride] 35)) (Nat.le_refl _)).keep (below1 _ o) (Nat.le_refl _))
             have HW2 := Lib.hid (fun o => (i2.alloc (.cells #[.int .i64 x.kind, .string x.name, .int .i64 x.index, .int .i64 x.start, .int .i64 x.en, .bool x.hs, .bool x.he, .int .i64 x.stride] 35)).alloc o)
             have hnew := new_sel (w2.alloc (.cells #[.int .i64 x.kind, .string x.name, .int .i64 x.index, .int .i64 x.start, .int .i64 x.en, .bool x.hs, .bool x.he, .int .i64 x.stride] 35)) x
             have hz2 : (w2.alloc (.cells #[.int .i64 x.kind, .string x.name, .int .i64 x.index, .int .i64 x.start, .int .i64 x.en, .bool x.hs, .bool x.he, .int .i64 x.stride] 35)).heap.size = w2.heap.size + 1 := by simp
             rw [hz2] at hnew
             have HNEW := Lib.hid hnew
             have HZ := Lib.hid (fun o => (HW2.out o).2.2.2.2.1)
             clear t2 i2 o2 hnew hz2))
        | (at_builtin
           go_must (
             refine row_append (K := selK) _ rfl (.tmp 16) (.tmp 18) rfl W.heap.size _ acc rfl (HROW2.out _) _ 1 1 [x] rfl HNEW.out (by show _ + 1 ≤ _; omega) (HZ.out _) ?_
             intro v4 w4 row4 grown4 at4
             have i4 := (HW2.out _).grown HB.out grown4 HLOW.out
             have R4 := Lib.hid row4
             have H4 := Lib.hid i4
             clear row4 grown4 at4 i4))
        | (go_at_call 26; with_reducible refine (Went.skip H4.out h19).mono ?_
           go_must (
             rintro e w5 ⟨rfl, t5, i5⟩
             rw [HT.out] at t5 i5
             have R5 := Lib.hid (R4.out.turned t5.2 HB.out)
             have H5 := Lib.hid i5
             clear i5 t5))
        | (go_at_call 14; with_reducible refine (Went.no H5.out h44).mono ?_
           go_must (
             rintro e w6 ⟨rfl, t6, i6⟩
             have R6 := Lib.hid (R5.out.turned t6.2 HB.out)
             have H6 := Lib.hid i6
             clear i6 t6))
        | (go_at_call 14; with_reducible refine (Went.no H6.out h93).mono ?_
           go_must (
             rintro e w7 ⟨rfl, t7, i7⟩
             have R7 := Lib.hid (R6.out.turned t7.2 HB.out)
             have H7 := Lib.hid i7
             clear i7 t7)))
        go_ret2
        exact ⟨_, false, _, _, rfl, H7.out, R7.out, HA.out, by rw [HG.out]⟩

end Go.Proofs.Ytclcjngdpicjjaa

namespace Go.Proofs.Ytclcjngdpicjjaa
open Go.RowKit
set_option linter.unusedVariables false
set_option linter.unusedSimpArgs false

theorem Went.rd {W w : World} {b : Nat} {l : List UInt8} (h : Went W b l w) : RdR w b l := h.1
/-- What reading a segment's selectors answers. -/
def SlE (o : Option (List Sel × List UInt8)) (n : Nat) (b : Nat) (W : World) (e : Ending) (w' : World) : Prop :=
  ∃ (A : Option Addr) (c : Nat) (ok : Bool) (xs : List Sel) (r : List UInt8), e = .returned (.tuple #[.slice A xs.length c, .bool ok]) ∧ Went W b r w' ∧ GRow selK w' W.heap.size (.slice A xs.length c) xs ∧ xs.length ≤ n ∧ match o with
    | none => ok = false
    | some (xs', r') => ok = true ∧ xs = xs' ∧ r = r'
theorem slE_of {l : List UInt8} {b : Nat} {W w' : World} {e : Ending} (h : BkEnd l b W e w') : SlE (brkS l) (l.length + 1) b W e w' := by
  obtain ⟨v, ok, xs, r, rfl, hw, hr, hl, hm⟩ := h
  obtain ⟨A, c, rfl, _⟩ := hr.form
  exact ⟨A, c, ok, xs, r, rfl, hw, hr, hl, hm⟩
theorem pln_small (l : List UInt8) : (⟨(l.take (plnN false l)).toArray⟩ : ByteArray).size = plnN false l := by
  show (l.take (plnN false l)).length = _
  rw [List.length_take]
  exact Nat.min_eq_left (pln_le false l)

set_option maxHeartbeats 4000000 in
set_option maxRecDepth 100000 in
theorem short_any (b : Nat) (l : List UInt8) (W : World) (h : RdR W b l) (hl : l.length ≤ 1000000) :
    Calls Try.prog 28 #[.pointer (some ⟨b, 0, none⟩)] W (SlE (shtR l) (l.length + 1) b W) := by
  have HB := Lib.hid h.inside
  have HW := Lib.hid h
  by_cases h42 : l.head? = some 42
  · have HS := Lib.hid (show shtR l = some ([sqA], l.tail) from if_pos h42)
    clear h
    go_enter Try.func28, Try.ntmps28
    go_wp2_with (first
      | (go_at_call 14; with_reducible refine (Went.yes HW.out.same h42).mono ?_
         go_must (
           rintro e w1 ⟨rfl, t1, i1⟩
           have H1 := Lib.hid i1
           clear i1 t1)))
    go_ret2
    have hr := GRow.made (K := selK) (base := W.heap.size) (l := [sqA]) w1 _ rfl (show 1 ≤ maxLen by decide) H1.out.2.2.2.2.1
    exact ⟨_, 1, true, [sqA], _, rfl, H1.out.alloc _, hr, by simp, by rw [HS.out]; exact ⟨rfl, rfl, rfl⟩⟩
  · have hps := pln_small l
    by_cases h0 : plnN false l = 0
    · have HS := Lib.hid (show shtR l = none by unfold shtR; rw [if_neg h42, if_pos h0])
      have hnm : (⟨(l.take (plnN false l)).toArray⟩ : ByteArray) = ⟨#[]⟩ := by rw [h0]; rfl
      have KP := Lib.hid (fun w (h : RdR w b l) => plain_any b l w h hl)
      rw [hnm] at KP
      generalize l.drop (plnN false l) = r9 at *
      clear h h0 hps hnm
      go_enter Try.func28, Try.ntmps28
      go_wp2_with (first
        | (go_at_call 14; with_reducible refine (Went.no HW.out.same h42).mono ?_
           go_must (
             rintro e w1 ⟨rfl, t1, i1⟩
             have H1 := Lib.hid i1
             clear i1 t1))
        | (go_at_call 41; with_reducible refine (KP.out _ (Went.rd H1.out)).mono ?_
           go_must (
             rintro e w2 ⟨rfl, t2⟩
             have H2 := Lib.hid (H1.out.trans t2)
             clear t2)))
      go_ret2
      have hr := GRow.made (K := selK) (base := W.heap.size) (l := [sqN []]) w2 _ rfl (show 1 ≤ maxLen by decide) H2.out.2.2.2.2.1
      exact ⟨_, 1, false, [sqN []], _, rfl, H2.out.alloc _, hr, by simp, by rw [HS.out]⟩
    · have HS := Lib.hid (show shtR l = some ([sqN (l.take (plnN false l))], l.drop (plnN false l)) by unfold shtR; rw [if_neg h42, if_neg h0])
      have KP := Lib.hid (fun w (h : RdR w b l) => plain_any b l w h hl)
      have hne := isEmpty_no (⟨(l.take (plnN false l)).toArray⟩ : ByteArray) (by rw [hps]; exact h0)
      generalize hnm : (⟨(l.take (plnN false l)).toArray⟩ : ByteArray) = nm at *
      have HNM := Lib.hid hnm
      generalize hr9 : l.drop (plnN false l) = r9 at *
      clear h h0 hps hnm hr9
      go_enter Try.func28, Try.ntmps28
      go_wp2_with (first
        | (go_at_call 14; with_reducible refine (Went.no HW.out.same h42).mono ?_
           go_must (
             rintro e w1 ⟨rfl, t1, i1⟩
             have H1 := Lib.hid i1
             clear i1 t1))
        | (go_at_call 41; with_reducible refine (KP.out _ (Went.rd H1.out)).mono ?_
           go_must (
             rintro e w2 ⟨rfl, t2⟩
             have H2 := Lib.hid (H1.out.trans t2)
             clear t2)))
      go_ret2
      have hr := GRow.made (K := selK) (base := W.heap.size) (l := [sqN (l.take (plnN false l))]) w2 #[.int .i64 0, .string nm, .int .i64 0, .int .i64 0, .int .i64 0, .bool false, .bool false, .int .i64 0] (by rw [← HNM.out]; rfl) (show 1 ≤ maxLen by decide) H2.out.2.2.2.2.1
      exact ⟨_, 1, true, [sqN (l.take (plnN false l))], _, rfl, H2.out.alloc _, hr, by simp, by rw [HS.out]; exact ⟨rfl, rfl, rfl⟩⟩

/-- The reader, and the segment that is made. -/
def SgI (W : World) (b : Nat) (r : List UInt8) (d : Bool) (v : Value) (w : World) : Prop :=
  b < W.heap.size ∧ r.length ≤ 1000000 ∧ Went W b r w ∧ Own w W.heap.size 33 #[.bool d, v]
section
variable {W w w' : World} {b : Nat} {r r' : List UInt8} {d : Bool} {v : Value}
theorem SgI.went (h : SgI W b r d v w) (hw : Went w b r' w') (hl : r'.length ≤ r.length) : SgI W b r' d v w' :=
  ⟨h.1, Nat.le_trans hl h.2.1, h.2.2.1.trans hw, Own.turned h.2.2.2 hw.2 (by have := h.1; omega)⟩
theorem SgI.skip (h : SgI W b r d v w) : Calls Try.prog 26 #[.pointer (some ⟨b, 0, none⟩)] w fun e w' => e = .returned (.tuple #[]) ∧ SgI W b (skB r) d v w' := by
  refine (skip_any b r w h.2.2.1.1 h.2.1).mono ?_
  rintro e w' ⟨rfl, hw⟩
  exact ⟨rfl, h.went hw (skB_le r)⟩
theorem SgI.yes {c : UInt8} (h : SgI W b r d v w) (hc : r.head? = some c) : Calls Try.prog 14 #[.pointer (some ⟨b, 0, none⟩), .string ⟨#[c]⟩] w fun e w' => e = .returned (.bool true) ∧ SgI W b r.tail d v w' := by
  refine (Went.yes h.2.2.1.1.same hc).mono ?_
  rintro e w' ⟨rfl, hw, _⟩
  exact ⟨rfl, h.went hw (by simp)⟩
theorem SgI.no {c : UInt8} (h : SgI W b r d v w) (hc : r.head? ≠ some c) : Calls Try.prog 14 #[.pointer (some ⟨b, 0, none⟩), .string ⟨#[c]⟩] w fun e w' => e = .returned (.bool false) ∧ SgI W b r d v w' := by
  refine (Went.no h.2.2.1.1.same hc).mono ?_
  rintro e w' ⟨rfl, hw, _⟩
  exact ⟨rfl, h.went hw (Nat.le_refl _)⟩
theorem SgI.yes2 {t : List UInt8} {c e : UInt8} (h : SgI W b (c :: e :: t) d v w) : Calls Try.prog 14 #[.pointer (some ⟨b, 0, none⟩), .string ⟨#[c, e]⟩] w fun e w' => e = .returned (.bool true) ∧ SgI W b t d v w' := by
  refine (take_two_yes b c e t w h.2.2.1.1).mono ?_
  rintro e w' ⟨rfl, hw⟩
  exact ⟨rfl, h.went hw (by simp <;> omega)⟩
theorem SgI.no2 {c e : UInt8} (h : SgI W b r d v w) (hc : r.take 2 ≠ [c, e]) : Calls Try.prog 14 #[.pointer (some ⟨b, 0, none⟩), .string ⟨#[c, e]⟩] w fun e w' => e = .returned (.bool false) ∧ SgI W b r d v w' := by
  refine (take_two_no b c e r w h.2.2.1.1 hc).mono ?_
  rintro e w' ⟨rfl, hw⟩
  exact ⟨rfl, h.went hw (Nat.le_refl _)⟩
theorem setwq {W w : World} {b : Nat} {r : List UInt8} (h : Went W b r w) (hb : b < W.heap.size) (i : Nat) (u : Value) : Went W b r (w.setCell ⟨W.heap.size, i, none⟩ u) :=
  ⟨h.1.past (by show b ≠ W.heap.size; omega) u, by
    have t := h.2
    refine ⟨t.1, t.2.1, t.2.2.1, by simpa [World.setCell] using t.2.2.2.1, fun k hk hne => (Below.heap_setCell w ⟨W.heap.size, i, none⟩ u k (by show k ≠ W.heap.size; omega)).trans (t.2.2.2.2 k hk hne)⟩⟩
theorem SgI.deep (h : SgI W b r d v w) (e : Bool) : SgI W b r e v (w.setCell ⟨W.heap.size, 0, none⟩ (.bool e)) :=
  ⟨h.1, h.2.1, setwq h.2.2.1 h.1 0 _, by simpa using Own.put h.2.2.2 0 (.bool e)⟩
/-- The segment, its selectors in memory of their own. -/
def SgS (W : World) (b : Nat) (o : Option (List Sel × List UInt8)) (n : Nat) (d : Bool) (v : Value) (A : Option Addr) (c : Nat) (ok : Bool) (xs : List Sel) (w : World) : Prop :=
  ∃ r, b < W.heap.size ∧ Went W b r w ∧ Own w W.heap.size 33 #[.bool d, v] ∧ GRow selK w (W.heap.size + 1) (.slice A xs.length c) xs ∧ xs.length ≤ n ∧ match o with
    | none => ok = false
    | some (xs', r') => ok = true ∧ xs = xs' ∧ r = r'
theorem SgI.made {e : Ending} {o : Option (List Sel × List UInt8)} {n : Nat} (h : SgI W b r d v w) (hs : SlE o n b w e w') : ∃ A c ok xs, e = .returned (.tuple #[.slice A (List.length xs) c, .bool ok]) ∧ SgS W b o n d v A c ok xs w' := by
  obtain ⟨A, c, ok, xs, r', rfl, hw, hr, hl, hm⟩ := hs
  have hi := h.2.2.2.inside
  exact ⟨A, c, ok, xs, rfl, r', h.1, h.2.2.1.trans hw, Own.turned h.2.2.2 hw.2 (by have := h.1; omega), hr.mono (by omega), hl, hm⟩
theorem SgI.selectors (h : SgI W b r d v w) : Calls Try.prog 27 #[.pointer (some ⟨b, 0, none⟩)] w fun e w' => ∃ A c ok xs, e = .returned (.tuple #[.slice A (List.length xs) c, .bool ok]) ∧ SgS W b (brkS r) (r.length + 1) d v A c ok xs w' :=
  (selectors_any b r w h.2.2.1.1 h.2.1).mono fun e w' hs => h.made (slE_of hs)
theorem SgI.short (h : SgI W b r d v w) : Calls Try.prog 28 #[.pointer (some ⟨b, 0, none⟩)] w fun e w' => ∃ A c ok xs, e = .returned (.tuple #[.slice A (List.length xs) c, .bool ok]) ∧ SgS W b (shtR r) (r.length + 1) d v A c ok xs w' :=
  (short_any b r w h.2.2.1.1 h.2.1).mono fun e w' hs => h.made hs
end
theorem SgI.start {W : World} {b : Nat} {r : List UInt8} (h : RdR W b r) (hl : r.length ≤ 1000000) : SgI W b r false (.slice none 0 0) (W.alloc (.cells #[.bool false, .slice none 0 0] 33)) :=
  ⟨h.inside, hl, Went.new h (below1 W _), Own.fresh W 33 _⟩
/-- What segment answers. -/
def SmE (l : List UInt8) (b : Nat) (W : World) (e : Ending) (w' : World) : Prop :=
  ∃ (d : Bool) (A : Option Addr) (c : Nat) (ok : Bool) (xs : List Sel) (r : List UInt8), e = .returned (.tuple #[.agg #[.bool d, .slice A xs.length c], .bool ok]) ∧ Went W b r w' ∧ GRow selK w' W.heap.size (.slice A xs.length c) xs ∧ xs.length ≤ l.length + 1 ∧ match sgmP (skB l) with
    | none => ok = false
    | some (x, r') => ok = true ∧ x = ⟨d, xs⟩ ∧ r = r'
theorem SmE.of {l : List UInt8} {b n : Nat} {W w w' : World} {e : Ending} {o : Option (List Sel × List UInt8)} {d : Bool} {v : Value} {A : Option Addr} {c : Nat} {ok : Bool} {xs : List Sel} (h : SgS W b o n d v A c ok xs w) (hn : n ≤ l.length + 1)
    (ho : sgmP (skB l) = o.map fun p => (⟨d, p.1⟩, p.2)) (he : e = .returned (.tuple #[.agg #[.bool d, .slice A xs.length c], .bool ok])) (hw' : ∀ r, Went W b r w → Went W b r w') (hr' : GRow selK w (W.heap.size + 1) (.slice A xs.length c) xs → GRow selK w' (W.heap.size + 1) (.slice A xs.length c) xs) : SmE l b W e w' := by
  obtain ⟨r, hb, hw, hown, hr, hl, hm⟩ := h
  refine ⟨d, A, c, ok, xs, r, he, hw' r hw, (hr' hr).mono (by omega), by omega, ?_⟩
  rw [ho]
  cases o with
  | none => exact hm
  | some p => obtain ⟨h1, h2, h3⟩ := hm; exact ⟨h1, by rw [h2], h3⟩
theorem row_set {w : World} {B : Nat} {v u : Value} {xs : List Sel} (h : GRow selK w (B + 1) v xs) (i : Nat) : GRow selK (w.setCell ⟨B, i, none⟩ u) (B + 1) v xs :=
  h.stay fun g hg => Below.heap_setCell w ⟨B, i, none⟩ u g (by have := (h.low hg).1; show g ≠ B; omega)

set_option maxHeartbeats 4000000 in
set_option maxRecDepth 100000 in
theorem seg_deep_brk (b : Nat) (l : List UInt8) (W : World) (h : RdR W b l) (hl : l.length ≤ 1000000) (r : List UInt8) (hdd : skB l = 46 :: 46 :: r) (h91 : r.head? = some 91) :
    Calls Try.prog 15 #[.pointer (some ⟨b, 0, none⟩)] W (SmE l b W) := by
  have H0 := Lib.hid (SgI.start h hl)
  have hsl := skB_le l
  have HB := Lib.hid h.inside
  have HS := Lib.hid (show sgmP (skB l) = (brkS r.tail).map fun p => (⟨true, p.1⟩, p.2) by rw [hdd]; unfold sgmP; rw [if_pos (show (46 :: 46 :: r).take 2 = [46, 46] from rfl), if_pos (show ((46 :: 46 :: r).drop 2).head? = some 91 from h91)]; rfl)
  have HN := Lib.hid (show r.tail.length + 1 ≤ l.length + 1 by rw [hdd] at hsl; simp at hsl ⊢; omega)
  clear hsl
  clear h hl
  go_enter Try.func15, Try.ntmps15
  go_wp2_with (first
    | (go_at_call 26; with_reducible refine (SgI.skip H0.out).mono ?_
       go_must (
         rintro e w1 ⟨rfl, i1⟩
         rw [hdd] at i1
         have H1 := Lib.hid i1
         clear i1))
    | (go_at_call 14; with_reducible refine (SgI.yes2 H1.out).mono ?_
       go_must (
         rintro e w2 ⟨rfl, i2⟩
         have c0 : w2.cell? ⟨W.heap.size, 0, none⟩ = some (.bool false) := i2.2.2.2.at 0
         have f0 := i2.2.2.2.free 0
         have H2 := Lib.hid (i2.deep true)
         clear i2))
    | (go_at_call 14; with_reducible refine (SgI.yes H2.out h91).mono ?_
       go_must (
         rintro e w3 ⟨rfl, i3⟩
         have H3 := Lib.hid i3
         clear i3))
    | (go_at_call 27; with_reducible refine (SgI.selectors H3.out).mono ?_
       go_must (
         rintro e w4 ⟨A, c, ok, xs, rfl, i4⟩
         have ho := i4.elim fun _ h => h.2.2.1
         have a0 : w4.cell? ⟨W.heap.size, 0, none⟩ = some (.bool true) := ho.at 0
         have a1 : w4.cell? ⟨W.heap.size, 1, none⟩ = some (.slice none 0 0) := ho.at 1
         have g0 := ho.free 0
         have g1 := ho.free 1
         have HO := Lib.hid ho
         have H4 := Lib.hid i4
         clear i4 ho)))
  have ho := ((HO.out.put 1 (.slice A xs.length c)).put 0 (.bool true)).put 1 (.slice A xs.length c)
  simp at ho
  have z0 := ho.at 0
  have z1 := ho.at 1
  simp at z0 z1
  refine bodyPost_ret (by simp [results, Try.results15, go_sem, z0, z1]; try rfl) rfl ?_
  exact SmE.of H4.out HN.out HS.out rfl (fun r hw => setwq (setwq (setwq hw HB.out 1 _) HB.out 0 _) HB.out 1 _) (fun hr => row_set (row_set (row_set hr 1) 0) 1)

set_option maxHeartbeats 4000000 in
set_option maxRecDepth 100000 in
theorem seg_deep_short (b : Nat) (l : List UInt8) (W : World) (h : RdR W b l) (hl : l.length ≤ 1000000) (r : List UInt8) (hdd : skB l = 46 :: 46 :: r) (h91 : r.head? ≠ some 91) :
    Calls Try.prog 15 #[.pointer (some ⟨b, 0, none⟩)] W (SmE l b W) := by
  have H0 := Lib.hid (SgI.start h hl)
  have hsl := skB_le l
  have HB := Lib.hid h.inside
  have HS := Lib.hid (show sgmP (skB l) = (shtR r).map fun p => (⟨true, p.1⟩, p.2) by rw [hdd]; unfold sgmP; rw [if_pos (show (46 :: 46 :: r).take 2 = [46, 46] from rfl), if_neg (show ¬ ((46 :: 46 :: r).drop 2).head? = some 91 from h91)]; rfl)
  have HN := Lib.hid (show r.length + 1 ≤ l.length + 1 by rw [hdd] at hsl; simp at hsl ⊢; omega)
  clear hsl
  clear h hl
  go_enter Try.func15, Try.ntmps15
  go_wp2_with (first
    | (go_at_call 26; with_reducible refine (SgI.skip H0.out).mono ?_
       go_must (
         rintro e w1 ⟨rfl, i1⟩
         rw [hdd] at i1
         have H1 := Lib.hid i1
         clear i1))
    | (go_at_call 14; with_reducible refine (SgI.yes2 H1.out).mono ?_
       go_must (
         rintro e w2 ⟨rfl, i2⟩
         have c0 : w2.cell? ⟨W.heap.size, 0, none⟩ = some (.bool false) := i2.2.2.2.at 0
         have f0 := i2.2.2.2.free 0
         have H2 := Lib.hid (i2.deep true)
         clear i2))
    | (go_at_call 14; with_reducible refine (SgI.no H2.out h91).mono ?_
       go_must (
         rintro e w3 ⟨rfl, i3⟩
         have k0 : w3.cell? ⟨W.heap.size, 0, none⟩ = some (.bool true) := i3.2.2.2.at 0
         have H3 := Lib.hid i3
         clear i3))
    | (go_at_call 28; with_reducible refine (SgI.short H3.out).mono ?_
       go_must (
         rintro e w4 ⟨A, c, ok, xs, rfl, i4⟩
         have ho := i4.elim fun _ h => h.2.2.1
         have a0 : w4.cell? ⟨W.heap.size, 0, none⟩ = some (.bool true) := ho.at 0
         have a1 : w4.cell? ⟨W.heap.size, 1, none⟩ = some (.slice none 0 0) := ho.at 1
         have g0 := ho.free 0
         have g1 := ho.free 1
         have HO := Lib.hid ho
         have H4 := Lib.hid i4
         clear i4 ho)))
  have ho := ((HO.out.put 1 (.slice A xs.length c)).put 0 (.bool true)).put 1 (.slice A xs.length c)
  simp at ho
  have z0 := ho.at 0
  have z1 := ho.at 1
  simp at z0 z1
  refine bodyPost_ret (by simp [results, Try.results15, go_sem, z0, z1]; try rfl) rfl ?_
  exact SmE.of H4.out HN.out HS.out rfl (fun r hw => setwq (setwq (setwq hw HB.out 1 _) HB.out 0 _) HB.out 1 _) (fun hr => row_set (row_set (row_set hr 1) 0) 1)

set_option maxHeartbeats 4000000 in
set_option maxRecDepth 100000 in
theorem seg_brk (b : Nat) (l : List UInt8) (W : World) (h : RdR W b l) (hl : l.length ≤ 1000000) (hdd : (skB l).take 2 ≠ [46, 46]) (h91 : (skB l).head? = some 91) :
    Calls Try.prog 15 #[.pointer (some ⟨b, 0, none⟩)] W (SmE l b W) := by
  have H0 := Lib.hid (SgI.start h hl)
  have hsl := skB_le l
  have HB := Lib.hid h.inside
  have HS := Lib.hid (show sgmP (skB l) = (brkS (skB l).tail).map fun p => (⟨false, p.1⟩, p.2) by unfold sgmP; rw [if_neg hdd, if_pos h91])
  have HN := Lib.hid (show (skB l).tail.length + 1 ≤ l.length + 1 by simp; omega)
  clear hsl
  clear h hl
  go_enter Try.func15, Try.ntmps15
  go_wp2_with (first
    | (go_at_call 26; with_reducible refine (SgI.skip H0.out).mono ?_
       go_must (
         rintro e w1 ⟨rfl, i1⟩
         have H1 := Lib.hid i1
         clear i1))
    | (go_at_call 14; with_reducible refine (SgI.no2 H1.out hdd).mono ?_
       go_must (
         rintro e w2 ⟨rfl, i2⟩
         have c0 : w2.cell? ⟨W.heap.size, 0, none⟩ = some (.bool false) := i2.2.2.2.at 0
         have f0 := i2.2.2.2.free 0
         have H2 := Lib.hid (i2.deep false)
         clear i2))
    | (go_at_call 14; with_reducible refine (SgI.yes H2.out h91).mono ?_
       go_must (
         rintro e w3 ⟨rfl, i3⟩
         have H3 := Lib.hid i3
         clear i3))
    | (go_at_call 27; with_reducible refine (SgI.selectors H3.out).mono ?_
       go_must (
         rintro e w4 ⟨A, c, ok, xs, rfl, i4⟩
         have ho := i4.elim fun _ h => h.2.2.1
         have a0 : w4.cell? ⟨W.heap.size, 0, none⟩ = some (.bool false) := ho.at 0
         have a1 : w4.cell? ⟨W.heap.size, 1, none⟩ = some (.slice none 0 0) := ho.at 1
         have g0 := ho.free 0
         have g1 := ho.free 1
         have HO := Lib.hid ho
         have H4 := Lib.hid i4
         clear i4 ho)))
  have ho := ((HO.out.put 1 (.slice A xs.length c)).put 0 (.bool false)).put 1 (.slice A xs.length c)
  simp at ho
  have z0 := ho.at 0
  have z1 := ho.at 1
  simp at z0 z1
  refine bodyPost_ret (by simp [results, Try.results15, go_sem, z0, z1]; try rfl) rfl ?_
  exact SmE.of H4.out HN.out HS.out rfl (fun r hw => setwq (setwq (setwq hw HB.out 1 _) HB.out 0 _) HB.out 1 _) (fun hr => row_set (row_set (row_set hr 1) 0) 1)

set_option maxHeartbeats 4000000 in
set_option maxRecDepth 100000 in
theorem seg_short (b : Nat) (l : List UInt8) (W : World) (h : RdR W b l) (hl : l.length ≤ 1000000) (hdd : (skB l).take 2 ≠ [46, 46]) (h91 : (skB l).head? ≠ some 91) (h46 : (skB l).head? = some 46) :
    Calls Try.prog 15 #[.pointer (some ⟨b, 0, none⟩)] W (SmE l b W) := by
  have H0 := Lib.hid (SgI.start h hl)
  have hsl := skB_le l
  have HB := Lib.hid h.inside
  have HS := Lib.hid (show sgmP (skB l) = (shtR (skB l).tail).map fun p => (⟨false, p.1⟩, p.2) by unfold sgmP; rw [if_neg hdd, if_neg h91, if_pos h46])
  have HN := Lib.hid (show (skB l).tail.length + 1 ≤ l.length + 1 by simp; omega)
  clear hsl
  clear h hl
  go_enter Try.func15, Try.ntmps15
  go_wp2_with (first
    | (go_at_call 26; with_reducible refine (SgI.skip H0.out).mono ?_
       go_must (
         rintro e w1 ⟨rfl, i1⟩
         have H1 := Lib.hid i1
         clear i1))
    | (go_at_call 14; with_reducible refine (SgI.no2 H1.out hdd).mono ?_
       go_must (
         rintro e w2 ⟨rfl, i2⟩
         have c0 : w2.cell? ⟨W.heap.size, 0, none⟩ = some (.bool false) := i2.2.2.2.at 0
         have f0 := i2.2.2.2.free 0
         have H2 := Lib.hid (i2.deep false)
         clear i2))
    | (go_at_call 14; with_reducible refine (SgI.no H2.out h91).mono ?_
       go_must (
         rintro e w3 ⟨rfl, i3⟩
         have k0 : w3.cell? ⟨W.heap.size, 0, none⟩ = some (.bool false) := i3.2.2.2.at 0
         have H3 := Lib.hid i3
         clear i3))
    | (go_at_call 14; with_reducible refine (SgI.yes H3.out h46).mono ?_
       go_must (
         rintro e w4 ⟨rfl, i4⟩
         have H4 := Lib.hid i4
         clear i4))
    | (go_at_call 28; with_reducible refine (SgI.short H4.out).mono ?_
       go_must (
         rintro e w5 ⟨A, c, ok, xs, rfl, i5⟩
         have ho := i5.elim fun _ h => h.2.2.1
         have a0 : w5.cell? ⟨W.heap.size, 0, none⟩ = some (.bool false) := ho.at 0
         have a1 : w5.cell? ⟨W.heap.size, 1, none⟩ = some (.slice none 0 0) := ho.at 1
         have g0 := ho.free 0
         have g1 := ho.free 1
         have HO := Lib.hid ho
         have H5 := Lib.hid i5
         clear i5 ho)))
  have ho := ((HO.out.put 1 (.slice A xs.length c)).put 0 (.bool false)).put 1 (.slice A xs.length c)
  simp at ho
  have z0 := ho.at 0
  have z1 := ho.at 1
  simp at z0 z1
  refine bodyPost_ret (by simp [results, Try.results15, go_sem, z0, z1]; try rfl) rfl ?_
  exact SmE.of H5.out HN.out HS.out rfl (fun r hw => setwq (setwq (setwq hw HB.out 1 _) HB.out 0 _) HB.out 1 _) (fun hr => row_set (row_set (row_set hr 1) 0) 1)

set_option maxHeartbeats 4000000 in
set_option maxRecDepth 100000 in
theorem seg_none (b : Nat) (l : List UInt8) (W : World) (h : RdR W b l) (hl : l.length ≤ 1000000) (hdd : (skB l).take 2 ≠ [46, 46]) (h91 : (skB l).head? ≠ some 91) (h46 : (skB l).head? ≠ some 46) :
    Calls Try.prog 15 #[.pointer (some ⟨b, 0, none⟩)] W (SmE l b W) := by
  have H0 := Lib.hid (SgI.start h hl)
  have hsl := skB_le l
  have HB := Lib.hid h.inside
  have HS := Lib.hid (show sgmP (skB l) = none by unfold sgmP; rw [if_neg hdd, if_neg h91, if_neg h46])
  clear hsl
  clear h hl
  go_enter Try.func15, Try.ntmps15
  go_wp2_with (first
    | (go_at_call 26; with_reducible refine (SgI.skip H0.out).mono ?_
       go_must (
         rintro e w1 ⟨rfl, i1⟩
         have H1 := Lib.hid i1
         clear i1))
    | (go_at_call 14; with_reducible refine (SgI.no2 H1.out hdd).mono ?_
       go_must (
         rintro e w2 ⟨rfl, i2⟩
         have c0 : w2.cell? ⟨W.heap.size, 0, none⟩ = some (.bool false) := i2.2.2.2.at 0
         have f0 := i2.2.2.2.free 0
         have H2 := Lib.hid (i2.deep false)
         clear i2))
    | (go_at_call 14; with_reducible refine (SgI.no H2.out h91).mono ?_
       go_must (
         rintro e w3 ⟨rfl, i3⟩
         have k0 : w3.cell? ⟨W.heap.size, 0, none⟩ = some (.bool false) := i3.2.2.2.at 0
         have H3 := Lib.hid i3
         clear i3))
    | (go_at_call 14; with_reducible refine (SgI.no H3.out h46).mono ?_
       go_must (
         rintro e w4 ⟨rfl, i4⟩
         have a0 : w4.cell? ⟨W.heap.size, 0, none⟩ = some (.bool false) := i4.2.2.2.at 0
         have a1 : w4.cell? ⟨W.heap.size, 1, none⟩ = some (.slice none 0 0) := i4.2.2.2.at 1
         have g0 := i4.2.2.2.free 0
         have g1 := i4.2.2.2.free 1
         have HO := Lib.hid i4.2.2.2
         have H4 := Lib.hid i4
         clear i4)))
  have ho := (HO.out.put 0 (.bool false)).put 1 (.slice none 0 0)
  simp at ho
  have z0 := ho.at 0
  have z1 := ho.at 1
  simp at z0 z1
  refine bodyPost_ret (by simp [results, Try.results15, go_sem, z0, z1]; try rfl) rfl ?_
  exact ⟨false, none, 0, false, [], _, rfl, setwq (setwq H4.out.2.2.1 HB.out 0 _) HB.out 1 _, GRow.nil _ _, by simp, by rw [HS.out]⟩

theorem segment_any (b : Nat) (l : List UInt8) (W : World) (h : RdR W b l) (hl : l.length ≤ 1000000) :
    Calls Try.prog 15 #[.pointer (some ⟨b, 0, none⟩)] W (SmE l b W) := by
  by_cases hdd : (skB l).take 2 = [46, 46]
  · obtain ⟨r, hr⟩ := two_dots hdd
    by_cases h91 : r.head? = some 91
    · exact seg_deep_brk b l W h hl r hr h91
    · exact seg_deep_short b l W h hl r hr h91
  by_cases h91 : (skB l).head? = some 91
  · exact seg_brk b l W h hl hdd h91
  by_cases h46 : (skB l).head? = some 46
  · exact seg_short b l W h hl hdd h91 h46
  · exact seg_none b l W h hl hdd h91 h46

end Go.Proofs.Ytclcjngdpicjjaa
