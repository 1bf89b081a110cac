/- The walk of TreeLeast where a byte has a fault. -/
import Derived.Test.YthpkcapooeedeaaDoorJ35
namespace Go.Proofs.YthpkcapooeedeaaDoor
open Go.RowKit
set_option linter.unusedVariables false

set_option maxRecDepth 100000 in
set_option maxHeartbeats 4000000 in
/-- A fault at a byte. -/
theorem least_fault {T : World → Prop} (C : TreeD T) (hV : ∀ w, T w → Calls Tryd.prog 5 #[] w fun e w' => e = .returned (.bool true) ∧ Below w.heap.size w w') (A : Option Addr) (len cap : Nat) (A' : Option Addr) (len' cap' : Nat) (l l' : List UInt8) (W : World) (hT : T W) (hc : len ≤ cap) (h1 : (len : Int) ≤ 500) (h2 : (len' : Int) ≤ 100) (hx : Rd W W.heap.size A len (byteCells l)) (hx' : Rd W W.heap.size A' len' (byteCells l')) (k : Int) (p : Nat) (hk : (parseP l 50).2.1 = k ∧ (parseP l 50).2.2 = p) (hf : FK k) (hp : p < len)
    (hm : ∀ more, (parseP (l.take (p + 1) ++ more) 50).2 = (parseP l 50).2) (k2 : Int) (hk2 : (parseP (l.take p) 50).2.1 = k2) (he2 : EK k2) :
    Calls Tryd.prog 3 #[.slice A len cap, .slice A' len' cap'] W fun e w' => e = .returned (.bool true) ∧ Below W.heap.size W w' := by
  have hlen : l.length = len := by have := hx.1; rwa [byteCells_length] at this
  have hlen' : l'.length = len' := by have := hx'.1; rwa [byteCells_length] at this
  have KV := Lib.hid (hV W hT)
  have KP1 := Lib.hid (fun w (hb : Below W.heap.size W w) => C.parse' A len cap l w k p ((hx.stay hb).more hb.size) (by omega) (C.lasts _ _ hT hb) hk)
  obtain ⟨e1, r1⟩ := slice_high 22 under_ok elem_ok A len cap (p + 1) (by omega) hc
  obtain ⟨e2, r2⟩ := slice_high 22 under_ok elem_ok A len cap p (by omega) hc
  rw [show ((p + 1 : Nat) : Int) = (p : Int) + 1 by omega] at e1
  have ht1 : (byteCells l).take (p + 1) = byteCells (l.take (p + 1)) := by unfold byteCells; rw [List.map_take]
  have ht2 : (byteCells l).take p = byteCells (l.take p) := by unfold byteCells; rw [List.map_take]
  have R1 := Lib.hid (fun w (hb : Below W.heap.size W w) => (show Rd w w.heap.size A (p + 1) (byteCells (l.take (p + 1))) from ht1 ▸ ((r1 W _ _ hx).stay hb).more hb.size))
  have R2 := Lib.hid (fun w (hb : Below W.heap.size W w) => ((hx'.stay hb).more hb.size))
  have hpp : (parseP (l.take p) 50).2.2 = p := by
    rcases parseP_least (l.take p) 50 with ⟨_, h⟩ | ⟨h, _⟩
    · rw [h, List.length_take]; omega
    · rw [hk2] at h
      rcases he2 with e | e | e <;> rw [e] at h
      · exact absurd rfl h.2.1
      · exact absurd rfl h.2.2.1
      · exact absurd rfl h.2.2.2
  have KP3 := Lib.hid (fun w (hb : Below W.heap.size W w) => C.parse' A p cap (l.take p) w k2 p (ht2 ▸ ((r2 W _ _ hx).stay hb).more hb.size) (by omega) (C.lasts _ _ hT hb) ⟨hk2, hpp⟩)
  have hl1 : (l.take (p + 1)).length = p + 1 := by rw [List.length_take]; omega
  have KP2 := Lib.hid (fun w (hb : Below W.heap.size W w) (g c : Nat) (hr : Rd w w.heap.size (some ⟨g, 0, none⟩) ((l.take (p + 1)).length + l'.length) (byteCells (l.take (p + 1) ++ l'))) => C.parse' (some ⟨g, 0, none⟩) ((l.take (p + 1)).length + l'.length) c (l.take (p + 1) ++ l') w k p hr (by simp; omega) (C.lasts _ _ hT hb) (by rw [hm l']; exact hk))
  have HL6 := Lib.hid (show (l.take (p + 1)).length = p + 1 from hl1)
  have HL7 := Lib.hid hlen'
  obtain ⟨f0, f1, f10, f11⟩ := hf
  have g1 : (k == 1) = false := beq_eq_false_iff_ne.2 f1
  have g2 : (k == 11) = false := beq_eq_false_iff_ne.2 f11
  have g3 : (k == 10) = false := beq_eq_false_iff_ne.2 f10
  have hp0 : ¬ (p : Int) < 0 := by omega
  have hpI : (p : Int) < len := by omega
  have hp9 : (p : Int) ≤ 500 := by omega
  generalize hl6 : l.take (p + 1) = l6 at *
  generalize hl5 : l.take p = l5 at *
  clear hV hx hx' hk hm hk2 hpp r1 r2 ht1 ht2 hl1 hlen hlen' hl6 hl5 f0 f1 f10 f11
  have tok1 : True := trivial
  have tok2 : True := trivial
  have tok3 : True := trivial
  have tokA : True := trivial
  have cases3 : (k2 == 11) = true ∨ ((k2 == 11) = false ∧ (k2 == 10) = true) ∨ ((k2 == 11) = false ∧ (k2 == 10) = false ∧ (k2 == 1) = true) := by
    rcases he2 with rfl | rfl | rfl
    · exact .inr (.inr ⟨rfl, rfl, rfl⟩)
    · exact .inr (.inl ⟨rfl, rfl⟩)
    · exact .inl rfl
  clear he2
  rcases cases3 with z1 | ⟨z1, z2⟩ | ⟨z1, z2, z3⟩
  all_goals
    go_enter Tryd.func3, Tryd.ntmps3
    go_wp2_with (first
      | (go_at_call 5; refine KV.out.mono ?_; rintro e w1 ⟨rfl, hb1⟩)
      | (have _t := tok1; go_at_call 6; go_must (
         refine (KP1.out _ hb1).mono ?_
         rintro e w2 ⟨kd2, fr2, to2, tx2, A2, n2, c2, B2, m2, d2, rfl, hb2⟩
         clear tok1 _t
         have hB2 := hb1.trans (hb2.mono hb1.size)
         have HB2 := Lib.hid (bel_alloc2 hB2 (.cells #[.int .i64 kd2, .int .i64 fr2, .int .i64 to2, .string tx2, .slice A2 n2 c2, .slice B2 m2 d2] 27) (.cells #[.int .i64 k, .int .i64 p] 29) hB2.size)
         have HO2 := Lib.hid (own_after (Below.refl _ ((w2.alloc (.cells #[.int .i64 kd2, .int .i64 fr2, .int .i64 to2, .string tx2, .slice A2 n2 c2, .slice B2 m2 d2] 27)).alloc (.cells #[.int .i64 k, .int .i64 p] 29))))
         have hbuf0 : Buf (((w2.alloc (.cells #[.int .i64 kd2, .int .i64 fr2, .int .i64 to2, .string tx2, .slice A2 n2 c2, .slice B2 m2 d2] 27)).alloc (.cells #[.int .i64 k, .int .i64 p] 29)).alloc (.cells #[] 5)) (w2.heap.size + 1 + 1) (.slice (some ⟨w2.heap.size + 1 + 1, 0, none⟩) 0 0) [] := by
           have := Buf.made (base := w2.heap.size + 1 + 1) ((w2.alloc (.cells #[.int .i64 kd2, .int .i64 fr2, .int .i64 to2, .string tx2, .slice A2 n2 c2, .slice B2 m2 d2] 27)).alloc (.cells #[.int .i64 k, .int .i64 p] 29)) #[] [] rfl (by decide) (by simp)
           rw [show ((w2.alloc (.cells #[.int .i64 kd2, .int .i64 fr2, .int .i64 to2, .string tx2, .slice A2 n2 c2, .slice B2 m2 d2] 27)).alloc (.cells #[.int .i64 k, .int .i64 p] 29)).heap.size = w2.heap.size + 1 + 1 by simp] at this
           exact this
         have HBUF := Lib.hid hbuf0
         clear hbuf0 hb2 hB2))
      | (have _t := tokA; at_builtin; go_must (
         clear tokA _t
         refine buf_append _ rfl (.tmp 55) (.tmp 60) rfl (w2.heap.size + 1 + 1) _ [] rfl HBUF.out _ _ (p + 1) _ l6 rfl (R1.out _ (HB2.out.alloc HB2.out.size _)) (by simp; omega) (by simp) ?_
         intro v5 w5 hbuf5 hb5
         have HB5 := Lib.hid ((HB2.out.alloc HB2.out.size (.cells #[] 5)).trans (hb5.mono (by have := HB2.out.size; simp at this ⊢; omega)))
         have HO5 := Lib.hid ((HO2.out.over (.cells #[] 5)).stay hb5 (by omega))
         have hz5 := hb5.size
         have HBUF5 := Lib.hid (show Buf w5 (w2.heap.size + 1 + 1) v5 l6 from hbuf5)
         obtain ⟨g5, c5, rfl, hg5, _⟩ := hbuf5.form
         clear hbuf5 hb5))
      | (at_builtin; go_must (
         refine buf_append _ rfl (.tmp 61) (.tmp 62) rfl (w2.heap.size + 1 + 1) _ l6 rfl HBUF5.out _ _ len' _ l' rfl (R2.out _ HB5.out) (by have := HL6.out; omega) (by simp at hz5; omega) ?_
         intro v6 w6 hbuf6 hb6
         have HB6 := Lib.hid (HB5.out.trans (hb6.mono (by have := HB2.out.size; simp at this; omega)))
         have HO6 := Lib.hid (HO5.out.stay hb6 (by omega))
         have hz6 := hb6.size
         have HBUF6 := Lib.hid hbuf6
         obtain ⟨g6, c6, rfl, hg6, _⟩ := hbuf6.form
         clear hbuf6 hb6))
      | (have _t := tok2; go_at_call 6; go_must (
         have hr6 := HBUF6.out.rd rfl
         rw [List.length_append] at hr6
         refine (KP2.out _ HB6.out g6 c6 hr6).mono ?_
         rintro e w7 ⟨kd7, fr7, to7, tx7, A7, n7, c7, B7, m7, d7, rfl, hb7⟩
         clear tok2 _t
         have HB7 := Lib.hid (HB6.out.trans (hb7.mono HB6.out.size))
         have HO7 := Lib.hid (HO6.out.stay hb7 HO6.out.inside)
         have ob := HO7.out.over2 (.cells #[.int .i64 kd7, .int .i64 fr7, .int .i64 to7, .string tx7, .slice A7 n7 c7, .slice B7 m7 d7] 27) (.cells #[.int .i64 k, .int .i64 p] 29)
         have b1 := ob.at 1
         simp at b1
         clear hb7 ob))
      | (have _t := tok3; go_at_call 6; go_must (
         refine (KP3.out _ (bel_alloc2 HB7.out (.cells #[.int .i64 kd7, .int .i64 fr7, .int .i64 to7, .string tx7, .slice A7 n7 c7, .slice B7 m7 d7] 27) (.cells #[.int .i64 k, .int .i64 p] 29) HB7.out.size)).mono ?_
         rintro e w9 ⟨kd9, fr9, to9, tx9, A9, n9, c9, B9, m9, d9, rfl, hb9⟩
         clear tok3 _t
         have HB9 := Lib.hid ((bel_alloc2 HB7.out (.cells #[.int .i64 kd7, .int .i64 fr7, .int .i64 to7, .string tx7, .slice A7 n7 c7, .slice B7 m7 d7] 27) (.cells #[.int .i64 k, .int .i64 p] 29) HB7.out.size).trans (hb9.mono (bel_alloc2 HB7.out (.cells #[.int .i64 kd7, .int .i64 fr7, .int .i64 to7, .string tx7, .slice A7 n7 c7, .slice B7 m7 d7] 27) (.cells #[.int .i64 k, .int .i64 p] 29) HB7.out.size).size))
         have o1 := ((HO7.out.over2 (.cells #[.int .i64 kd7, .int .i64 fr7, .int .i64 to7, .string tx7, .slice A7 n7 c7, .slice B7 m7 d7] 27) (.cells #[.int .i64 k, .int .i64 p] 29)).stay hb9 (by simp; have := HO7.out.inside; omega)).over2 (.cells #[.int .i64 kd9, .int .i64 fr9, .int .i64 to9, .string tx9, .slice A9 n9 c9, .slice B9 m9 d9] 27) (.cells #[.int .i64 k2, .int .i64 p] 29)
         have o2 := (own_after hb9).over2 (.cells #[.int .i64 kd9, .int .i64 fr9, .int .i64 to9, .string tx9, .slice A9 n9 c9, .slice B9 m9 d9] 27) (.cells #[.int .i64 k2, .int .i64 p] 29)
         have a1 := o1.at 0
         have a2 := o1.at 1
         have a3 := o2.at 0
         have a4 := o2.at 1
         simp at a1 a2 a3 a4
         clear o1 o2 hb9)))
    go_ret
    exact ⟨rfl, bel_alloc2 HB9.out _ _ HB9.out.size⟩

/-- TreeLeast, over what package tree is to be proved to do. -/
theorem treeLeast_core {T : World → Prop} (C : TreeD T) (A : Option Addr) (len cap : Nat) (A' : Option Addr) (len' cap' : Nat) (l l' : List UInt8) (W : World) (hT : T W) (hc : len ≤ cap) (hx : Rd W W.heap.size A len (byteCells l)) (hx' : Rd W W.heap.size A' len' (byteCells l')) :
    Calls Tryd.prog 3 #[.slice A len cap, .slice A' len' cap'] W fun e w' => e = .returned (.bool true) ∧ Below W.heap.size W w' := by
  have hV : ∀ w, T w → Calls Tryd.prog 5 #[] w fun e w' => e = .returned (.bool true) ∧ Below w.heap.size w w' := fun w h => treeAlive_any C w h
  have hlen : l.length = len := by have := hx.1; rwa [byteCells_length] at this
  by_cases hl : 500 < (len : Int) ∨ 100 < (len' : Int)
  · exact least_long C hV A len cap A' len' cap' l l' W hT hl
  · have h1 : (len : Int) ≤ 500 := by omega
    have h2 : (len' : Int) ≤ 100 := by omega
    rcases parseP_least l 50 with ⟨he, hat⟩ | ⟨hf, hp, hm, he⟩
    · exact least_end C hV A len cap A' len' cap' l l' W hT h1 h2 hx _ ⟨rfl, hat.trans hlen⟩ he
    · exact least_fault C hV A len cap A' len' cap' l l' W hT hc h1 h2 hx hx' _ _ ⟨rfl, rfl⟩ hf (by omega) hm _ rfl he

end Go.Proofs.YthpkcapooeedeaaDoor
