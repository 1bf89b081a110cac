/- What package tree is to be proved to do, as layer 10's statements use it. -/
import Derived.Test.YthpkcapooeedeaaDoorRows
import Derived.Test.YthpkcapooeedeaaDoorJ18
import Derived.Deep.DeepMust
import Derived.Lib.SlBytesConst
namespace Go.Proofs.YthpkcapooeedeaaDoor
open Go.RowKit
set_option linter.unusedVariables false

/-- What package tree is to be proved to do, as these statements use it; T: what holds of a world at the start. -/
structure TreeD (T : World → Prop) where
  parse : ∀ (A : Option Addr) (len cap : Nat) (l : List UInt8) (d : Int) (w : World), Rd w w.heap.size A len (byteCells l) → len ≤ 2000 → 1 ≤ d → d ≤ 1000 → T w →
    Calls Tryd.prog 6 #[.slice A len cap, .int .i64 d] w fun e w' => ∃ x : V6, e = .returned (.tuple #[.agg (v6Cells x).toArray, .agg #[.int .i64 (parseP l d).2.1, .int .i64 (parseP l d).2.2]]) ∧ ((parseP l d).2.1 = 1 → VIs w' (treeP l d) x) ∧ Below w.heap.size w w'
  same : ∀ (t u : Tree) (x y : V6) (w : World), VIs w t x → VIs w u y → sizeT t ≤ 100000 → T w →
    Calls Tryd.prog 9 #[.agg (v6Cells x).toArray, .agg (v6Cells y).toArray] w fun e w' => e = .returned (.bool (sameT t u)) ∧ Below w.heap.size w w'
  small : ∀ (l : List UInt8) (d : Int), l.length ≤ 2000 → (parseP l d).2.1 = 1 → sizeT (treeP l d) ≤ 100000
  lasts : ∀ w w', T w → Below w.heap.size w w' → T w'

end Go.Proofs.YthpkcapooeedeaaDoor

namespace Go.Proofs.YthpkcapooeedeaaDoor
open Go.RowKit
set_option linter.unusedVariables false

theorem al1 : (parseP [91, 49, 44, 93] 3).2.1 = 8 ∧ (parseP [91, 49, 44, 93] 3).2.2 = 3 := by decide +kernel
theorem al2 : (parseP [91, 49] 3).2.1 = 10 ∧ (parseP [91, 49] 3).2.2 = 2 := by decide +kernel
theorem al3 : (parseP [49, 32, 49] 3).2.1 = 9 ∧ (parseP [49, 32, 49] 3).2.2 = 2 := by decide +kernel
theorem al4 : (parseP [91, 49, 93] 1).2.1 = 1 ∧ (parseP [91, 49, 93] 1).2.2 = 3 := by decide +kernel
theorem al5 : (treeP [91, 49, 93] 1).items.length = 1 := by decide +kernel

theorem rd_made (w : World) (l : List UInt8) (n : Nat) (fr : Nat × Nat) (hn : l.length = n) : Rd (w.alloc (.cells (byteCells l).toArray 5 fr)) (w.alloc (.cells (byteCells l).toArray 5 fr)).heap.size (some ⟨w.heap.size, 0, none⟩) n (byteCells l) := by
  refine ⟨by rw [byteCells_length, hn], fun h => ⟨_, rfl, by simp, fun j u hu => ?_⟩⟩
  rw [add_none, Nat.zero_add, cell_of_row (w.alloc (.cells (byteCells l).toArray 5 fr)) w.heap.size j _ _ _ (heap_alloc_new w _)]
  simpa using hu

theorem bel_alloc2 {B : Nat} {a w : World} (h : Below B a w) (o p : Obj) : B ≤ w.heap.size → Below B a ((w.alloc o).alloc p) := fun hB => (h.alloc hB o).alloc (by simp; omega) p
theorem Own.over2 {w : World} {b : Nat} {t : TypeId} {cs : Array Value} (h : Own w b t cs) (o p : Obj) : Own ((w.alloc o).alloc p) b t cs := (h.over o).over p
theorem own_after {w w' : World} {o : Obj} {T : TypeId} {cs : Array Value} (h : Below ((w.alloc o).alloc (.cells cs T)).heap.size ((w.alloc o).alloc (.cells cs T)) w') : Own w' (w.heap.size + 1) T cs := by
  have h1 := Own.fresh (w.alloc o) T cs
  rw [show (w.alloc o).heap.size = w.heap.size + 1 by simp] at h1
  exact h1.stay h (by simp)

set_option maxRecDepth 100000 in
set_option maxHeartbeats 4000000 in
theorem treeAlive_any {T : World → Prop} (C : TreeD T) (W : World) (hT : T W) :
    Calls Tryd.prog 5 #[] W fun e w' => e = .returned (.bool true) ∧ Below W.heap.size W w' := by
  have KP := Lib.hid (fun (l : List UInt8) (len : Nat) (d : Int) (k : Int) (p : Nat) (w : World) (hb : Below W.heap.size W w) (z : Nat) (hz : w.heap.size = z) (hl : l.length = len) (h2 : len ≤ 2000) (hd : 1 ≤ d ∧ d ≤ 1000) (hk : (parseP l d).2.1 = k ∧ (parseP l d).2.2 = p) =>
    (show Calls Tryd.prog 6 #[.slice (some ⟨z, 0, none⟩) len len, .int .i64 d] (w.alloc (.cells (byteCells l).toArray 5 (len, len + 1))) fun e w' => ∃ (kd : Int) (fr to : Nat) (tx : ByteArray) (A : Option Addr) (n c : Nat) (B : Option Addr) (m dd : Nat), e = .returned (.tuple #[.agg #[.int .i64 kd, .int .i64 fr, .int .i64 to, .string tx, .slice A n c, .slice B m dd], .agg #[.int .i64 k, .int .i64 p]]) ∧ (k = 1 → n = (treeP l d).items.length) ∧ Below w.heap.size w w' ∧ Below W.heap.size W w' from by
      subst hz
      have hb1 : Below W.heap.size W (w.alloc (.cells (byteCells l).toArray 5 (len, len + 1))) := hb.alloc hb.size _
      have := C.parse (some ⟨w.heap.size, 0, none⟩) len len l d _ (rd_made w l len _ hl) h2 hd.1 hd.2 (C.lasts _ _ hT hb1)
      rw [hk.1, hk.2] at this
      refine this.mono ?_
      rintro e w' ⟨x, he, hv, hb2⟩
      have hb3 : Below w.heap.size w w' := (below1 w _).trans (hb2.mono (by simp))
      exact ⟨x.kd, x.fr, x.to, ⟨x.tx.toArray⟩, x.A, x.n, x.c, x.B, x.m, x.d, he, fun h => by (have := hv h; cases ht : treeP l d; rw [ht] at this; exact this.many.1), hb3, hb.trans (hb3.mono hb.size)⟩))
  have kc := fun (w : World) (C : Array Value) (n c : Nat) => Lib.run_convert_bytes_const (P := Tryd.prog) w 22 5 C n c Tryd.underlying22 Tryd.underlying5
  have kc2 : ∀ (w : World) (o1 o2 : Obj) (C : Array Value) (n c : Nat), (convert 22 22 (.slice (some ⟨w.heap.size + 1 + 1, 0, none⟩) n c)).run Tryd.prog (((w.alloc o1).alloc o2).alloc (.cells C 5)) = .ok (.slice (some ⟨w.heap.size + 1 + 1, 0, none⟩) n c) (((w.alloc o1).alloc o2).alloc (.cells C 5 (C.size, C.size + 1))) := fun w o1 o2 C n c => by
    have := kc ((w.alloc o1).alloc o2) C n c
    rw [show ((w.alloc o1).alloc o2).heap.size = w.heap.size + 1 + 1 by simp] at this
    exact this
  have tok1 : True := trivial
  have tok2 : True := trivial
  have tok3 : True := trivial
  have tok4 : True := trivial
  go_enter Tryd.func5, Tryd.ntmps5
  go_wp2_with (first
    | (have _t := tok1; go_at_call 6; go_must (
       refine (KP.out [91, 49, 44, 93] 4 3 8 3 W (Below.refl _ _) W.heap.size rfl rfl (by decide) (by decide) al1).mono ?_
       rintro e w1 ⟨kd1, fr1, to1, tx1, A1, n1, c1, B1, m1, d1, rfl, hv1, hb1⟩
       clear tok1 _t hv1))
    | (have _t := tok2; go_at_call 6; go_must (
       refine (KP.out [91, 49] 2 3 10 2 ((w1.alloc (.cells #[.int .i64 kd1, .int .i64 fr1, .int .i64 to1, .string tx1, .slice A1 n1 c1, .slice B1 m1 d1] 27)).alloc (.cells #[.int .i64 8, .int .i64 3] 29)) (bel_alloc2 hb1.2 _ _ hb1.2.size) (w1.heap.size + 1 + 1) (by simp) rfl (by decide) (by decide) al2).mono ?_
       rintro e w2 ⟨kd2, fr2, to2, tx2, A2, n2, c2, B2, m2, d2, rfl, hv2, hb2⟩
       clear tok2 _t hv2
       have o1_2 := own_after hb2.1))
    | (have _t := tok3; go_at_call 6; go_must (
       refine (KP.out [49, 32, 49] 3 3 9 2 ((w2.alloc (.cells #[.int .i64 kd2, .int .i64 fr2, .int .i64 to2, .string tx2, .slice A2 n2 c2, .slice B2 m2 d2] 27)).alloc (.cells #[.int .i64 10, .int .i64 2] 29)) (bel_alloc2 hb2.2 _ _ hb2.2.size) (w2.heap.size + 1 + 1) (by simp) rfl (by decide) (by decide) al3).mono ?_
       rintro e w3 ⟨kd3, fr3, to3, tx3, A3, n3, c3, B3, m3, d3, rfl, hv3, hb3⟩
       clear tok3 _t hv3
       have o1_3 := (o1_2.over2 _ _).stay hb3.1 (by simp; have := o1_2.inside; omega)
       have o2_3 := own_after hb3.1))
    | (have _t := tok4; go_at_call 6; go_must (
       refine (KP.out [91, 49, 93] 3 1 1 3 ((w3.alloc (.cells #[.int .i64 kd3, .int .i64 fr3, .int .i64 to3, .string tx3, .slice A3 n3 c3, .slice B3 m3 d3] 27)).alloc (.cells #[.int .i64 9, .int .i64 2] 29)) (bel_alloc2 hb3.2 _ _ hb3.2.size) (w3.heap.size + 1 + 1) (by simp) rfl (by decide) (by decide) al4).mono ?_
       rintro e w4 ⟨kd4, fr4, to4, tx4, A4, n4, c4, B4, m4, d4, rfl, hv4, hb4⟩
       clear tok4 _t
       have o1_4 := (o1_3.over2 _ _).stay hb4.1 (by simp; have := o1_3.inside; omega)
       have o2_4 := (o2_3.over2 _ _).stay hb4.1 (by simp; have := o2_3.inside; omega)
       have o3_4 := own_after hb4.1
       have p1 := o1_4.over2 (.cells #[.int .i64 kd4, .int .i64 fr4, .int .i64 to4, .string tx4, .slice A4 n4 c4, .slice B4 m4 d4] 27) (.cells #[.int .i64 1, .int .i64 3] 29)
       have q1 := p1.at 0
       have r1 := p1.at 1
       simp at q1 r1
       clear p1
       have p2 := o2_4.over2 (.cells #[.int .i64 kd4, .int .i64 fr4, .int .i64 to4, .string tx4, .slice A4 n4 c4, .slice B4 m4 d4] 27) (.cells #[.int .i64 1, .int .i64 3] 29)
       have q2 := p2.at 0
       have r2 := p2.at 1
       simp at q2 r2
       clear p2
       have p3 := o3_4.over2 (.cells #[.int .i64 kd4, .int .i64 fr4, .int .i64 to4, .string tx4, .slice A4 n4 c4, .slice B4 m4 d4] 27) (.cells #[.int .i64 1, .int .i64 3] 29)
       have q3 := p3.at 0
       have r3 := p3.at 1
       simp at q3 r3
       clear p3
       have hn4 := hv4 rfl
       rw [al5] at hn4
       clear hv4
       subst hn4)))
  go_ret
  exact ⟨rfl, bel_alloc2 hb4.2 _ _ hb4.2.size⟩

/-- Parse, the value's cells written out. -/
theorem TreeD.parse' {T : World → Prop} (C : TreeD T) (A : Option Addr) (len cap : Nat) (l : List UInt8) (w : World) (k : Int) (p : Nat) (hr : Rd w w.heap.size A len (byteCells l)) (h2 : len ≤ 2000) (hT : T w) (hk : (parseP l 50).2.1 = k ∧ (parseP l 50).2.2 = p) :
    Calls Tryd.prog 6 #[.slice A len cap, .int .i64 50] w fun e w' => ∃ (kd : Int) (fr to : Nat) (tx : ByteArray) (A : Option Addr) (n c : Nat) (B : Option Addr) (m dd : Nat), e = .returned (.tuple #[.agg #[.int .i64 kd, .int .i64 fr, .int .i64 to, .string tx, .slice A n c, .slice B m dd], .agg #[.int .i64 k, .int .i64 p]]) ∧ Below w.heap.size w w' := by
  have := C.parse A len cap l 50 w hr h2 (by decide) (by decide) hT
  rw [hk.1, hk.2] at this
  refine this.mono ?_
  rintro e w' ⟨x, he, hv, hb2⟩
  exact ⟨x.kd, x.fr, x.to, ⟨x.tx.toArray⟩, x.A, x.n, x.c, x.B, x.m, x.d, he, hb2⟩

theorem least_long {T : World → Prop} (C : TreeD T) (hV : ∀ w, T w → Calls Tryd.prog 5 #[] w fun e w' => e = .returned (.bool true) ∧ Below w.heap.size w w') (A : Option Addr) (len cap : Nat) (A' : Option Addr) (len' cap' : Nat) (l l' : List UInt8) (W : World) (hT : T W) (hl : 500 < (len : Int) ∨ 100 < (len' : Int)) :
    Calls Tryd.prog 3 #[.slice A len cap, .slice A' len' cap'] W fun e w' => e = .returned (.bool true) ∧ Below W.heap.size W w' := by
  have KV := Lib.hid (hV W hT)
  clear hV
  by_cases h1 : 500 < (len : Int)
  · clear hl
    go_enter Tryd.func3, Tryd.ntmps3
    go_wp2_with (go_at_call 5; refine KV.out.mono ?_; rintro e w1 ⟨rfl, hb1⟩)
    go_ret
    exact ⟨rfl, hb1⟩
  · have h2 : 100 < (len' : Int) := by rcases hl with h | h; · exact absurd h h1
                                       · exact h
    have h1' : (len : Int) ≤ 500 := by omega
    clear hl h1
    go_enter Tryd.func3, Tryd.ntmps3
    go_wp2_with (go_at_call 5; refine KV.out.mono ?_; rintro e w1 ⟨rfl, hb1⟩)
    go_ret
    exact ⟨rfl, hb1⟩

set_option maxRecDepth 100000 in
set_option maxHeartbeats 4000000 in
/-- No fault but at the end. -/
theorem least_end {T : World → Prop} (C : TreeD T) (hV : ∀ w, T w → Calls Tryd.prog 5 #[] w fun e w' => e = .returned (.bool true) ∧ Below w.heap.size w w') (A : Option Addr) (len cap : Nat) (A' : Option Addr) (len' cap' : Nat) (l l' : List UInt8) (W : World) (hT : T W) (h1 : (len : Int) ≤ 500) (h2 : (len' : Int) ≤ 100) (hx : Rd W W.heap.size A len (byteCells l)) (k : Int) (hk : (parseP l 50).2.1 = k ∧ (parseP l 50).2.2 = len) (he : EK k) :
    Calls Tryd.prog 3 #[.slice A len cap, .slice A' len' cap'] W fun e w' => e = .returned (.bool true) ∧ Below W.heap.size W w' := by
  have KV := Lib.hid (hV W hT)
  have KP := Lib.hid (fun w (hb : Below W.heap.size W w) => C.parse' A len cap l w k len ((hx.stay hb).more hb.size) (by omega) (C.lasts _ _ hT hb) hk)
  clear hV hx hk
  rcases he with rfl | rfl | rfl
  all_goals
    go_enter Tryd.func3, Tryd.ntmps3
    go_wp2_with (first
      | (go_at_call 5; refine KV.out.mono ?_; rintro e w1 ⟨rfl, hb1⟩)
      | (go_at_call 6; refine (KP.out _ hb1).mono ?_; rintro e w2 ⟨kd2, fr2, to2, tx2, A2, n2, c2, B2, m2, d2, rfl, hb2⟩; have hB := hb1.trans (hb2.mono hb1.size)))
    go_ret
    exact ⟨rfl, bel_alloc2 hB _ _ hB.size⟩

end Go.Proofs.YthpkcapooeedeaaDoor
