/- Package nest: which token goes where; Take. -/
import Derived.Test.YthpkcapooeedeaaDoorJ14
namespace Go.Proofs.YthpkcapooeedeaaDoor
open Go.RowKit
set_option linter.unusedVariables false

set_option maxRecDepth 100000 in
set_option maxHeartbeats 1000000 in
theorem take_end (b : Nat) (wi kd fr to : Int) (bg : Bool) (tx : ByteArray) (w : World) (c2 : w.cell? ⟨b, 2, none⟩ = some (.int .i64 wi)) (h0 : (wi != 0) = true) (hb : b < w.heap.size) (Q : Value → Int → World → Prop)
    (HS : Calls Tryd.prog 31 #[.pointer (some ⟨b, 0, none⟩), .agg #[.int .i64 kd, .bool bg, .int .i64 fr, .int .i64 to, .string tx]] (w.alloc (.cells #[.int .i64 kd, .bool bg, .int .i64 fr, .int .i64 to, .string tx] 48)) fun e w' => ∃ v k, e = .returned (.tuple #[v, .int .i64 k]) ∧ Q v k w') :
    Calls Tryd.prog 22 #[.pointer (some ⟨b, 0, none⟩), .agg #[.int .i64 kd, .bool bg, .int .i64 fr, .int .i64 to, .string tx]] w fun e w' => ∃ v k, e = .returned (.tuple #[v, .int .i64 k]) ∧ Q v k w' := by
  have KS := Lib.hid HS
  have hbN : b ≠ w.heap.size := by omega
  clear HS
  go_enter Tryd.func22, Tryd.ntmps22
  go_wp2_with (go_at_call 31; refine KS.out.mono ?_; rintro e w' ⟨v, k, rfl, hq⟩; have HQ := Lib.hid hq; clear hq)
  go_ret2
  exact ⟨_, _, rfl, HQ.out⟩
set_option maxRecDepth 100000 in
set_option maxHeartbeats 1000000 in
theorem take_begin (b : Nat) (wi kd fr to : Int) (bg : Bool) (tx : ByteArray) (w : World) (c2 : w.cell? ⟨b, 2, none⟩ = some (.int .i64 wi)) (h0 : (wi != 0) = false) (h1 : bg = true) (hb : b < w.heap.size) (Q : Value → Int → World → Prop)
    (HS : Calls Tryd.prog 32 #[.pointer (some ⟨b, 0, none⟩), .agg #[.int .i64 kd, .bool bg, .int .i64 fr, .int .i64 to, .string tx]] (w.alloc (.cells #[.int .i64 kd, .bool bg, .int .i64 fr, .int .i64 to, .string tx] 48)) fun e w' => ∃ v k, e = .returned (.tuple #[v, .int .i64 k]) ∧ Q v k w') :
    Calls Tryd.prog 22 #[.pointer (some ⟨b, 0, none⟩), .agg #[.int .i64 kd, .bool bg, .int .i64 fr, .int .i64 to, .string tx]] w fun e w' => ∃ v k, e = .returned (.tuple #[v, .int .i64 k]) ∧ Q v k w' := by
  subst h1
  have KS := Lib.hid HS
  have hbN : b ≠ w.heap.size := by omega
  clear HS
  go_enter Tryd.func22, Tryd.ntmps22
  go_wp2_with (go_at_call 32; refine KS.out.mono ?_; rintro e w' ⟨v, k, rfl, hq⟩; have HQ := Lib.hid hq; clear hq)
  go_ret2
  exact ⟨_, _, rfl, HQ.out⟩
set_option maxRecDepth 100000 in
set_option maxHeartbeats 1000000 in
theorem take_open2 (b : Nat) (wi kd fr to : Int) (bg : Bool) (tx : ByteArray) (w : World) (c2 : w.cell? ⟨b, 2, none⟩ = some (.int .i64 wi)) (h0 : (wi != 0) = false) (h1 : bg = false) (h2 : (kd == 2) = true) (hb : b < w.heap.size) (Q : Value → Int → World → Prop)
    (HS : Calls Tryd.prog 33 #[.pointer (some ⟨b, 0, none⟩), .agg #[.int .i64 kd, .bool bg, .int .i64 fr, .int .i64 to, .string tx]] (w.alloc (.cells #[.int .i64 kd, .bool bg, .int .i64 fr, .int .i64 to, .string tx] 48)) fun e w' => ∃ v k, e = .returned (.tuple #[v, .int .i64 k]) ∧ Q v k w') :
    Calls Tryd.prog 22 #[.pointer (some ⟨b, 0, none⟩), .agg #[.int .i64 kd, .bool bg, .int .i64 fr, .int .i64 to, .string tx]] w fun e w' => ∃ v k, e = .returned (.tuple #[v, .int .i64 k]) ∧ Q v k w' := by
  subst h1
  have KS := Lib.hid HS
  have hbN : b ≠ w.heap.size := by omega
  clear HS
  go_enter Tryd.func22, Tryd.ntmps22
  go_wp2_with (go_at_call 33; refine KS.out.mono ?_; rintro e w' ⟨v, k, rfl, hq⟩; have HQ := Lib.hid hq; clear hq)
  go_ret2
  exact ⟨_, _, rfl, HQ.out⟩
set_option maxRecDepth 100000 in
set_option maxHeartbeats 1000000 in
theorem take_open4 (b : Nat) (wi kd fr to : Int) (bg : Bool) (tx : ByteArray) (w : World) (c2 : w.cell? ⟨b, 2, none⟩ = some (.int .i64 wi)) (h0 : (wi != 0) = false) (h1 : bg = false) (h2 : (kd == 2) = false) (h4 : (kd == 4) = true) (hb : b < w.heap.size) (Q : Value → Int → World → Prop)
    (HS : Calls Tryd.prog 33 #[.pointer (some ⟨b, 0, none⟩), .agg #[.int .i64 kd, .bool bg, .int .i64 fr, .int .i64 to, .string tx]] (w.alloc (.cells #[.int .i64 kd, .bool bg, .int .i64 fr, .int .i64 to, .string tx] 48)) fun e w' => ∃ v k, e = .returned (.tuple #[v, .int .i64 k]) ∧ Q v k w') :
    Calls Tryd.prog 22 #[.pointer (some ⟨b, 0, none⟩), .agg #[.int .i64 kd, .bool bg, .int .i64 fr, .int .i64 to, .string tx]] w fun e w' => ∃ v k, e = .returned (.tuple #[v, .int .i64 k]) ∧ Q v k w' := by
  subst h1
  have KS := Lib.hid HS
  have hbN : b ≠ w.heap.size := by omega
  clear HS
  go_enter Tryd.func22, Tryd.ntmps22
  go_wp2_with (go_at_call 33; refine KS.out.mono ?_; rintro e w' ⟨v, k, rfl, hq⟩; have HQ := Lib.hid hq; clear hq)
  go_ret2
  exact ⟨_, _, rfl, HQ.out⟩
set_option maxRecDepth 100000 in
set_option maxHeartbeats 1000000 in
theorem take_close3 (b : Nat) (wi kd fr to : Int) (bg : Bool) (tx : ByteArray) (w : World) (c2 : w.cell? ⟨b, 2, none⟩ = some (.int .i64 wi)) (h0 : (wi != 0) = false) (h1 : bg = false) (h2 : (kd == 2) = false) (h4 : (kd == 4) = false) (h3 : (kd == 3) = true) (hb : b < w.heap.size) (Q : Value → Int → World → Prop)
    (HS : Calls Tryd.prog 34 #[.pointer (some ⟨b, 0, none⟩), .agg #[.int .i64 kd, .bool bg, .int .i64 fr, .int .i64 to, .string tx]] (w.alloc (.cells #[.int .i64 kd, .bool bg, .int .i64 fr, .int .i64 to, .string tx] 48)) fun e w' => ∃ v k, e = .returned (.tuple #[v, .int .i64 k]) ∧ Q v k w') :
    Calls Tryd.prog 22 #[.pointer (some ⟨b, 0, none⟩), .agg #[.int .i64 kd, .bool bg, .int .i64 fr, .int .i64 to, .string tx]] w fun e w' => ∃ v k, e = .returned (.tuple #[v, .int .i64 k]) ∧ Q v k w' := by
  subst h1
  have KS := Lib.hid HS
  have hbN : b ≠ w.heap.size := by omega
  clear HS
  go_enter Tryd.func22, Tryd.ntmps22
  go_wp2_with (go_at_call 34; refine KS.out.mono ?_; rintro e w' ⟨v, k, rfl, hq⟩; have HQ := Lib.hid hq; clear hq)
  go_ret2
  exact ⟨_, _, rfl, HQ.out⟩
set_option maxRecDepth 100000 in
set_option maxHeartbeats 1000000 in
theorem take_close5 (b : Nat) (wi kd fr to : Int) (bg : Bool) (tx : ByteArray) (w : World) (c2 : w.cell? ⟨b, 2, none⟩ = some (.int .i64 wi)) (h0 : (wi != 0) = false) (h1 : bg = false) (h2 : (kd == 2) = false) (h4 : (kd == 4) = false) (h3 : (kd == 3) = false) (h5 : (kd == 5) = true) (hb : b < w.heap.size) (Q : Value → Int → World → Prop)
    (HS : Calls Tryd.prog 34 #[.pointer (some ⟨b, 0, none⟩), .agg #[.int .i64 kd, .bool bg, .int .i64 fr, .int .i64 to, .string tx]] (w.alloc (.cells #[.int .i64 kd, .bool bg, .int .i64 fr, .int .i64 to, .string tx] 48)) fun e w' => ∃ v k, e = .returned (.tuple #[v, .int .i64 k]) ∧ Q v k w') :
    Calls Tryd.prog 22 #[.pointer (some ⟨b, 0, none⟩), .agg #[.int .i64 kd, .bool bg, .int .i64 fr, .int .i64 to, .string tx]] w fun e w' => ∃ v k, e = .returned (.tuple #[v, .int .i64 k]) ∧ Q v k w' := by
  subst h1
  have KS := Lib.hid HS
  have hbN : b ≠ w.heap.size := by omega
  clear HS
  go_enter Tryd.func22, Tryd.ntmps22
  go_wp2_with (go_at_call 34; refine KS.out.mono ?_; rintro e w' ⟨v, k, rfl, hq⟩; have HQ := Lib.hid hq; clear hq)
  go_ret2
  exact ⟨_, _, rfl, HQ.out⟩
set_option maxRecDepth 100000 in
set_option maxHeartbeats 1000000 in
theorem take_comma (b : Nat) (wi kd fr to : Int) (bg : Bool) (tx : ByteArray) (w : World) (c2 : w.cell? ⟨b, 2, none⟩ = some (.int .i64 wi)) (h0 : (wi != 0) = false) (h1 : bg = false) (h2 : (kd == 2) = false) (h4 : (kd == 4) = false) (h3 : (kd == 3) = false) (h5 : (kd == 5) = false) (h6 : (kd == 6) = true) (hb : b < w.heap.size) (Q : Value → Int → World → Prop)
    (HS : Calls Tryd.prog 35 #[.pointer (some ⟨b, 0, none⟩)] (w.alloc (.cells #[.int .i64 kd, .bool bg, .int .i64 fr, .int .i64 to, .string tx] 48)) fun e w' => ∃ v k, e = .returned (.tuple #[v, .int .i64 k]) ∧ Q v k w') :
    Calls Tryd.prog 22 #[.pointer (some ⟨b, 0, none⟩), .agg #[.int .i64 kd, .bool bg, .int .i64 fr, .int .i64 to, .string tx]] w fun e w' => ∃ v k, e = .returned (.tuple #[v, .int .i64 k]) ∧ Q v k w' := by
  subst h1
  have KS := Lib.hid HS
  have hbN : b ≠ w.heap.size := by omega
  clear HS
  go_enter Tryd.func22, Tryd.ntmps22
  go_wp2_with (go_at_call 35; refine KS.out.mono ?_; rintro e w' ⟨v, k, rfl, hq⟩; have HQ := Lib.hid hq; clear hq)
  go_ret2
  exact ⟨_, _, rfl, HQ.out⟩
set_option maxRecDepth 100000 in
set_option maxHeartbeats 1000000 in
theorem take_colon (b : Nat) (wi kd fr to : Int) (bg : Bool) (tx : ByteArray) (w : World) (c2 : w.cell? ⟨b, 2, none⟩ = some (.int .i64 wi)) (h0 : (wi != 0) = false) (h1 : bg = false) (h2 : (kd == 2) = false) (h4 : (kd == 4) = false) (h3 : (kd == 3) = false) (h5 : (kd == 5) = false) (h6 : (kd == 6) = false) (h7 : (kd == 7) = true) (hb : b < w.heap.size) (Q : Value → Int → World → Prop)
    (HS : Calls Tryd.prog 36 #[.pointer (some ⟨b, 0, none⟩)] (w.alloc (.cells #[.int .i64 kd, .bool bg, .int .i64 fr, .int .i64 to, .string tx] 48)) fun e w' => ∃ v k, e = .returned (.tuple #[v, .int .i64 k]) ∧ Q v k w') :
    Calls Tryd.prog 22 #[.pointer (some ⟨b, 0, none⟩), .agg #[.int .i64 kd, .bool bg, .int .i64 fr, .int .i64 to, .string tx]] w fun e w' => ∃ v k, e = .returned (.tuple #[v, .int .i64 k]) ∧ Q v k w' := by
  subst h1
  have KS := Lib.hid HS
  have hbN : b ≠ w.heap.size := by omega
  clear HS
  go_enter Tryd.func22, Tryd.ntmps22
  go_wp2_with (go_at_call 36; refine KS.out.mono ?_; rintro e w' ⟨v, k, rfl, hq⟩; have HQ := Lib.hid hq; clear hq)
  go_ret2
  exact ⟨_, _, rfl, HQ.out⟩

end Go.Proofs.YthpkcapooeedeaaDoor

namespace Go.Proofs.YthpkcapooeedeaaDoor
open Go.RowKit
set_option linter.unusedVariables false

section
variable {w w' : World} {b : Nat} {F G : Nat → Prop} {m y wi : Int} {l : List Bool} {lv : List Lvl} {v : Value}
theorem Take_over (h : NR w b F m 8 wi l lv) (kd fr to : Int) (bg : Bool) (tx : ByteArray) :
    Calls Tryd.prog 13 #[.pointer (some ⟨b, 0, none⟩), .agg #[.int .i64 kd, .bool bg, .int .i64 fr, .int .i64 to, .string tx]] w fun e w' => e = .returned (.tuple #[.slice none 0 0, .int .i64 14]) ∧ Below w.heap.size w w' := by
  have c1 := h.c1
  have hb := h.has.2
  have hbN : b ≠ w.heap.size := by omega
  clear h
  go_enter Tryd.func13, Tryd.ntmps13
  go_wp2
  go_ret2
  exact ⟨rfl, bel1 w _⟩
theorem Take_ok (h : NR w b F m y wi l lv) (hy : (y == 8) = false) (kd fr to : Int) (bg : Bool) (tx : ByteArray) (Q : Value → World → Prop)
    (HS : Calls Tryd.prog 22 #[.pointer (some ⟨b, 0, none⟩), .agg #[.int .i64 kd, .bool bg, .int .i64 fr, .int .i64 to, .string tx]] (w.alloc (.cells #[.int .i64 kd, .bool bg, .int .i64 fr, .int .i64 to, .string tx] 48)) fun e w' => ∃ v, e = .returned (.tuple #[v, .int .i64 0]) ∧ Q v w') :
    Calls Tryd.prog 13 #[.pointer (some ⟨b, 0, none⟩), .agg #[.int .i64 kd, .bool bg, .int .i64 fr, .int .i64 to, .string tx]] w fun e w' => ∃ v, e = .returned (.tuple #[v, .int .i64 0]) ∧ Q v w' := by
  have c1 := h.c1
  have hb := h.has.2
  have hbN : b ≠ w.heap.size := by omega
  have KS := Lib.hid HS
  clear h HS
  go_enter Tryd.func13, Tryd.ntmps13
  go_wp2_with (go_at_call 22; refine KS.out.mono ?_; rintro e w' ⟨v, rfl, hq⟩; have HQ := Lib.hid hq; clear hq)
  go_ret2
  exact ⟨_, rfl, HQ.out⟩

/-- The cells of a Nest, with the stack's. -/
theorem StP.six {x0 x1 x2 x5 : Value} (h : KB.StP ⟨x0, x1, x2, x5⟩ w b G l) : ∃ v, w.cell? ⟨b, 0, none⟩ = some x0 ∧ w.cell? ⟨b, 1, none⟩ = some x1 ∧ w.cell? ⟨b, 2, none⟩ = some x2 ∧ w.cell? ⟨b, 3, none⟩ = some v ∧ w.cell? ⟨b, 4, none⟩ = some (.int .i64 l.length) ∧ w.cell? ⟨b, 5, none⟩ = some x5 ∧ (∃ A n c, v = .slice A n c) ∧
    ∀ y0 y1 y2 y5 : Value, KB.StP ⟨y0, y1, y2, y5⟩ ((((((w.setCell ⟨b, 0, none⟩ y0).setCell ⟨b, 1, none⟩ y1).setCell ⟨b, 2, none⟩ y2).setCell ⟨b, 3, none⟩ v).setCell ⟨b, 4, none⟩ (.int .i64 l.length)).setCell ⟨b, 5, none⟩ y5) b G l := by
  obtain ⟨ws, v, h⟩ := h
  have h0 := h.own.at 0
  have h1 := h.own.at 1
  have h2 := h.own.at 2
  have h3 := h.own.at 3
  have h4 := h.own.at 4
  have h5 := h.own.at 5
  simp at h0 h1 h2 h3 h4 h5
  refine ⟨v, h0, h1, h2, h3, h4, h5, KB.row_slice h.row, fun y0 y1 y2 y5 => ?_⟩
  refine ⟨ws, v, ⟨?_, ?_, h.foot, h.apart, h.many, h.bit, h.small⟩⟩
  · have := (((((h.own.put 0 y0).put 1 y1).put 2 y2).put 3 v).put 4 (.int .i64 l.length)).put 5 y5
    simpa using this
  · have ht : Touch (fun j => j = b) w ((((((w.setCell ⟨b, 0, none⟩ y0).setCell ⟨b, 1, none⟩ y1).setCell ⟨b, 2, none⟩ y2).setCell ⟨b, 3, none⟩ v).setCell ⟨b, 4, none⟩ (.int .i64 l.length)).setCell ⟨b, 5, none⟩ y5) :=
      (((((((Touch.refl (fun j => j = b) w).setCell (p := ⟨b, 0, none⟩) (.inl rfl) _).setCell (p := ⟨b, 1, none⟩) (.inl rfl) _).setCell (p := ⟨b, 2, none⟩) (.inl rfl) _).setCell (p := ⟨b, 3, none⟩) (.inl rfl) _).setCell (p := ⟨b, 4, none⟩) (.inl rfl) _).setCell (p := ⟨b, 5, none⟩) (.inl rfl) _)
    exact h.row.keep ht (fun g hg e => (h.blocks hg).2.1 e)

set_option maxHeartbeats 2000000 in
theorem Take_bad (h : NR w b F m y wi l lv) (hy : (y == 8) = false) (kd fr to : Int) (bg : Bool) (tx : ByteArray) (r : Int) (hr : (r != 0) = true)
    (HS : Calls Tryd.prog 22 #[.pointer (some ⟨b, 0, none⟩), .agg #[.int .i64 kd, .bool bg, .int .i64 fr, .int .i64 to, .string tx]] (w.alloc (.cells #[.int .i64 kd, .bool bg, .int .i64 fr, .int .i64 to, .string tx] 48)) fun e w' => e = .returned (.tuple #[.slice none 0 0, .int .i64 r]) ∧ Below w.heap.size w w') :
    Calls Tryd.prog 13 #[.pointer (some ⟨b, 0, none⟩), .agg #[.int .i64 kd, .bool bg, .int .i64 fr, .int .i64 to, .string tx]] w fun e w' => e = .returned (.tuple #[.slice none 0 0, .int .i64 r]) ∧ Touch F w w' ∧ NR w' b F 0 8 0 l [] := by
  have c1 := h.c1
  have hb := h.has
  have hbN : b ≠ w.heap.size := by omega
  have KS := Lib.hid HS
  have HM := Lib.hid (fun w' (hb : Below w.heap.size w w') => h.below hb)
  clear h HS
  go_enter Tryd.func13, Tryd.ntmps13
  go_wp2_with (
    go_at_call 22; refine KS.out.mono ?_; rintro e w1 ⟨rfl, hb1⟩
    have HB := Lib.hid hb1
    obtain ⟨v, G, h, hG1, hG2⟩ := HM.out w1 hb1
    have HG1 := Lib.hid hG1
    obtain ⟨vs, k0, k1, k2, k3, k4, k5, ⟨A, n, c, rfl⟩, hput⟩ := StP.six h.stk
    have f0 := StP.free h.stk 0
    have f1 := StP.free h.stk 1
    have f2 := StP.free h.stk 2
    have f3 := StP.free h.stk 3
    have f4 := StP.free h.stk 4
    have f5 := StP.free h.stk 5
    have HP := Lib.hid hput
    clear hput hb1 h hG1 hG2)
  go_ret2
  have hT1 : Touch F w w1 := Touch.of_new HB.out
  exact ⟨rfl, (((((hT1.setCell (p := ⟨b, 0, none⟩) (.inl hb.1) _).setCell (p := ⟨b, 1, none⟩) (.inl hb.1) _).setCell (p := ⟨b, 2, none⟩) (.inl hb.1) _).setCell (p := ⟨b, 3, none⟩) (.inl hb.1) _).setCell (p := ⟨b, 4, none⟩) (.inl hb.1) _).setCell (p := ⟨b, 5, none⟩) (.inl hb.1) _,
    ⟨.slice none 0 0, G, ⟨HP.out _ _ _ _, GRow.nil _ _, fun g hg => by cases hg⟩, HG1.out, fun g hg => by cases hg⟩⟩

theorem New_nest (d : Int) (w : World) (h1 : -1000000 ≤ d) (h2 : d ≤ 1000000) :
    Calls Tryd.prog 11 #[.int .i64 d] w fun e w' => ∃ b, e = .returned (.pointer (some ⟨b, 0, none⟩)) ∧ NR w' b (fun j => w.heap.size ≤ j) (max d 1) 0 0 [] [] ∧ Below w.heap.size w w' := by
  obtain ⟨m1, hm1, hm2⟩ : ∃ m1 : Int, max d 1 = m1 ∧ m1 = if d < 1 then 1 else d := ⟨_, rfl, by split <;> omega⟩
  rw [hm1]
  have HM := Lib.hid hm2
  clear hm1 hm2
  by_cases hd : d < 1
  all_goals
    have hm := HM.out
    first
      | rw [if_pos hd] at hm
      | rw [if_neg hd] at hm
    subst hm
    clear HM
    go_enter Tryd.func11, Tryd.ntmps11
    go_wp2
    go_ret
    first
      | exact ⟨_, rfl, ⟨.slice none 0 0, fun k => k = w.heap.size, ⟨⟨[], .slice none 0 0, ⟨Own.fresh w 85 #[.int .i64 1, .int .i64 0, .int .i64 0, .slice none 0 0, .int .i64 0, .slice none 0 0], GRow.nil _ _, fun k => ⟨fun h => .inl h, fun h => h.elim id (fun h => by cases h)⟩, (fun h => by cases h), rfl, (fun i hi => by simp at hi), (fun x hx => by cases hx)⟩⟩, GRow.nil _ _, fun g hg => by cases hg⟩, (fun k hk => by rw [hk]; exact Nat.le_refl _), fun g hg => by cases hg⟩, bel1 w _⟩
      | exact ⟨_, rfl, ⟨.slice none 0 0, fun k => k = w.heap.size, ⟨⟨[], .slice none 0 0, ⟨Own.fresh w 85 #[.int .i64 _, .int .i64 0, .int .i64 0, .slice none 0 0, .int .i64 0, .slice none 0 0], GRow.nil _ _, fun k => ⟨fun h => .inl h, fun h => h.elim id (fun h => by cases h)⟩, (fun h => by cases h), rfl, (fun i hi => by simp at hi), (fun x hx => by cases hx)⟩⟩, GRow.nil _ _, fun g hg => by cases hg⟩, (fun k hk => by rw [hk]; exact Nat.le_refl _), fun g hg => by cases hg⟩, bel1 w _⟩
end

end Go.Proofs.YthpkcapooeedeaaDoor

namespace Go.Proofs.YthpkcapooeedeaaDoor
open Go.RowKit
set_option linter.unusedVariables false

def codeM (m : May) (none : Bool) : Int := match m with
  | .value => if none then 0 else 1
  | .item => 2
  | .name => 3
  | .member => 4
  | .colon => 5
  | .next => 6
  | .nothing => 7
  | .broken => 8
/-- Does the name of what is open matter still? -/
def May.named : May → Bool
  | .value => true
  | .colon => true
  | _ => false
def LvR : Bool → List Opn → List Lvl → Prop
  | _, [], [] => True
  | nm, o :: r, x :: s => (x.fr = o.fr ∧ x.many = o.many ∧ (nm = true → o.obj = true → x.name = o.name)) ∧ o.step = stepO r ∧ LvR true r s
  | _, _, _ => False
def May.isBroken : May → Bool
  | .broken => true
  | _ => false
/-- What is open, by what may come. -/
def Shp (m : May) (op : List Opn) : Prop := match m with
  | .item => isArr op = true
  | .member => isObj op = true
  | .name => isObj op = true
  | .colon => isObj op = true
  | .next => op ≠ []
  | .nothing => op = []
  | _ => True

theorem LvR.len : ∀ {nm : Bool} {op : List Opn} {lo : List Lvl}, LvR nm op lo → op.length = lo.length
  | _, [], [], _ => rfl
  | _, o :: r, x :: s, h => by simp [h.2.2.len]
  | _, [], _ :: _, h => h.elim
  | _, _ :: _, [], h => h.elim
theorem LvR.weak {nm : Bool} {op : List Opn} {lo : List Lvl} (h : LvR true op lo) : LvR nm op lo := by
  cases op with
  | nil => cases lo with
    | nil => trivial
    | cons x s => exact h.elim
  | cons o r => cases lo with
    | nil => exact h.elim
    | cons x s => exact ⟨⟨h.1.1, h.1.2.1, fun _ => h.1.2.2 rfl⟩, h.2⟩
theorem LvR.step {nm : Bool} {op : List Opn} {lo : List Lvl} (h : LvR nm op lo) (hn : nm = true ∨ isObj op = false) : stR (op.map Opn.obj) lo = stepO op := by
  cases op with
  | nil => cases lo with
    | nil => rfl
    | cons x s => exact h.elim
  | cons o r => cases lo with
    | nil => exact h.elim
    | cons x s =>
      obtain ⟨⟨h1, h2, h3⟩, _⟩ := h
      show (if o.obj then (⟨true, x.name, 0⟩ : Stp) else ⟨false, [], x.many⟩) = if o.obj then ⟨true, o.name, 0⟩ else ⟨false, [], o.many⟩
      cases ho : o.obj
      · simp [h2]
      · have : nm = true := by
          rcases hn with h | h
          · exact h
          · have : o.obj = false := h
            rw [ho] at this; cases this
        rw [h3 this ho]
        rfl
theorem LvR.ended {nm : Bool} {op : List Opn} {lo : List Lvl} (h : LvR nm op lo) : LvR false (moreO op) (endL lo) := by
  cases op with
  | nil => cases lo with
    | nil => trivial
    | cons x s => exact h.elim
  | cons o r => cases lo with
    | nil => exact h.elim
    | cons x s => exact ⟨⟨h.1.1, by show x.many + 1 = o.many + 1; rw [h.1.2.1], fun h => by cases h⟩, h.2.1, h.2.2⟩
theorem LvR.many {k : Nat} : ∀ {nm : Bool} {op : List Opn} {lo : List Lvl}, LvR nm op lo → (∀ o ∈ op, o.many ≤ k) → ∀ x ∈ lo, x.many ≤ k
  | _, [], [], _, _, x, hx => by cases hx
  | _, o :: r, y :: s, h, hm, x, hx => by
    rcases List.mem_cons.1 hx with rfl | hx
    · rw [h.1.2.1]; exact hm o (by simp)
    · exact h.2.2.many (fun q hq => hm q (by simp [hq])) x hx
  | _, [], _ :: _, h, _, _, _ => h.elim
  | _, _ :: _, [], h, _, _, _ => h.elim
theorem map_more (op : List Opn) : (moreO op).map Opn.obj = op.map Opn.obj := by cases op <;> rfl
theorem map_name (s : List UInt8) (op : List Opn) : (nameO s op).map Opn.obj = op.map Opn.obj := by cases op <;> rfl

/-- The Nest in block b, in the blocks of F, where no fault was. -/
def NOk (w : World) (b : Nat) (F : Nat → Prop) (n : Nst) : Prop :=
  ∃ lo, LvR n.may.named n.op lo ∧ Shp n.may n.op ∧ NR w b F n.most (codeM n.may n.op.isEmpty) n.begun (n.op.map Opn.obj).reverse lo.reverse
/-- The Nest in block b, in the blocks of F. -/
def NIs (w : World) (b : Nat) (F : Nat → Prop) (n : Nst) : Prop :=
  (n.may.isBroken = true ∧ NR w b F 0 8 0 (n.op.map Opn.obj).reverse []) ∨ (n.may.isBroken = false ∧ NOk w b F n)

/-- What take leaves. -/
def TkP (w : World) (b : Nat) (F : Nat → Prop) (r : Nst × List Evt × Int) (v : Value) (k : Int) (w' : World) : Prop :=
  k = r.2.2 ∧ ((r.2.2 = 0 ∧ GRow evK w' w.heap.size v r.2.1 ∧ Touch F w w' ∧ NOk w' b (fun j => F j ∨ w.heap.size ≤ j) r.1) ∨ (r.2.2 ≠ 0 ∧ r.2.1 = [] ∧ v = .slice none 0 0 ∧ Below w.heap.size w w'))

section
variable {w w' w1 : World} {b : Nat} {F : Nat → Prop} {n : Nst} {t : Tok} {y : Int} {l : List Bool} {lv : List Lvl}
theorem TkP.bad {k : Int} (hk : k ≠ 0) {n' : Nst} (hb : Below w.heap.size w w') : TkP w b F (n', [], k) (.slice none 0 0) k w' := ⟨rfl, .inr ⟨hk, rfl, rfl, hb⟩⟩
/-- A call of a world that has one block more. -/
theorem TkP.box {r : Nst × List Evt × Int} {v : Value} {k : Int} {o : Obj} (h : TkP (w.alloc o) b F r v k w') : TkP w b F r v k w' := by
  have hz : (w.alloc o).heap.size = w.heap.size + 1 := by simp
  obtain ⟨h1, h | h⟩ := h
  · obtain ⟨h2, h3, h4, lo, h5, h6, h7⟩ := h
    refine ⟨h1, .inl ⟨h2, h3.mono (by omega), (Touch.of_new (F := F) (bel1 w o)).trans h4 (fun _ _ h => h), lo, h5, h6, h7.mono (fun k _ hk => ?_)⟩⟩
    rcases hk with hk | hk
    · exact .inl hk
    · exact .inr (by omega)
  · obtain ⟨h2, h3, h4, h5⟩ := h
    exact ⟨h1, .inr ⟨h2, h3, h4, (bel1 w o).trans (h5.mono (by omega))⟩⟩
end

end Go.Proofs.YthpkcapooeedeaaDoor

namespace Go.Proofs.YthpkcapooeedeaaDoor
open Go.RowKit
set_option linter.unusedVariables false

def May.ends : May → Bool
  | .item => true
  | .member => true
  | .next => true
  | _ => false
theorem code_val (m : May) (z : Bool) : (codeM m z == 0 || codeM m z == 1 || codeM m z == 2) = m.val := by cases m <;> cases z <;> rfl
theorem code_nam (m : May) (z : Bool) : (codeM m z == 3 || codeM m z == 4) = m.nam := by cases m <;> cases z <;> rfl
theorem code_end (m : May) (z : Bool) : (codeM m z == 2 || codeM m z == 4 || codeM m z == 6) = m.ends := by cases m <;> cases z <;> rfl
theorem code_not (m : May) (z : Bool) : (codeM m z == 7) = m.isNothing := by cases m <;> cases z <;> rfl
theorem code_six (m : May) (z : Bool) : codeM m z = 6 ↔ m = .next := by cases m <;> cases z <;> simp [codeM]
theorem code_five (m : May) (z : Bool) : codeM m z = 5 ↔ m = .colon := by cases m <;> cases z <;> simp [codeM]
theorem code_eight (m : May) (z : Bool) (h : m.isBroken = false) : (codeM m z == 8) = false := by cases m <;> cases z <;> first | rfl | cases h

section
variable (n : Nst) (t : Tok)
theorem tk_begin_name (h0 : n.begun = 0) (hb : t.begun = true) (hk : t.kind = 8) (hn : n.may.nam = true) : takeN n t = ({ n with begun := 8, came := true }, [], 0) := by
  unfold takeN
  rw [if_pos h0]
  obtain ⟨most, op, may, begun, came⟩ := n
  obtain ⟨kd, bg, fr, to, tx⟩ := t
  have hb : bg = true := hb
  have hk : kd = 8 := hk
  subst hb hk
  cases may <;> first | (cases hn; done) | (unfold takeO; simp [May.nam])
theorem tk_begin_value (h0 : n.begun = 0) (hb : t.begun = true) (hv : n.may.val = true) : takeN n t = ({ n with begun := t.kind, came := true }, [⟨1, beginK t.kind, t.fr, 0, stepO n.op, []⟩], 0) := by
  unfold takeN
  rw [if_pos h0]
  obtain ⟨most, op, may, begun, came⟩ := n
  obtain ⟨kd, bg, fr, to, tx⟩ := t
  have hb : bg = true := hb
  subst hb
  cases may <;> first | (cases hv; done) | (unfold takeO; simp [May.nam, May.val])
theorem tk_begin_no (h0 : n.begun = 0) (hx : n.may.isBroken = false) (hb : t.begun = true) (hn : (n.may.nam && t.kind == 8) = false) (hv : n.may.val = false) : (takeN n t).2.1 = [] ∧ (takeN n t).2.2 = if n.may.isNothing then 9 else 8 := by
  unfold takeN
  rw [if_pos h0]
  obtain ⟨most, op, may, begun, came⟩ := n
  obtain ⟨kd, bg, fr, to, tx⟩ := t
  have hb : bg = true := hb
  subst hb
  cases may <;> first | (cases hv; done) | (cases hx; done) | (unfold takeO; simp_all [May.nam, May.val, badN, May.isNothing])
theorem tk_open_no (h0 : n.begun = 0) (hx : n.may.isBroken = false) (hb : t.begun = false) (hk : t.kind = 2 ∨ t.kind = 4) (hv : n.may.val = false) : (takeN n t).2.1 = [] ∧ (takeN n t).2.2 = if n.may.isNothing then 9 else 8 := by
  unfold takeN
  rw [if_pos h0]
  obtain ⟨most, op, may, begun, came⟩ := n
  obtain ⟨kd, bg, fr, to, tx⟩ := t
  have hb : bg = false := hb
  have hk : kd = 2 ∨ kd = 4 := hk
  subst hb
  rcases hk with rfl | rfl <;> cases may <;> first | (cases hv; done) | (cases hx; done) | (cases op <;> unfold takeO <;> simp [May.val, badN, May.isNothing] <;> (repeat' split) <;> first | trivial | (split <;> simp_all) | simp_all)
theorem tk_open_deep (h0 : n.begun = 0) (hb : t.begun = false) (hk : t.kind = 2 ∨ t.kind = 4) (hv : n.may.val = true) (hm : n.most ≤ n.op.length) : (takeN n t).2.1 = [] ∧ (takeN n t).2.2 = 12 := by
  unfold takeN
  rw [if_pos h0]
  obtain ⟨most, op, may, begun, came⟩ := n
  obtain ⟨kd, bg, fr, to, tx⟩ := t
  have hb : bg = false := hb
  have hk : kd = 2 ∨ kd = 4 := hk
  have hm : most ≤ op.length := hm
  subst hb
  rcases hk with rfl | rfl <;> cases may <;> first | (cases hv; done) | (unfold takeO; simp [May.val, badN, hm])
theorem tk_open (h0 : n.begun = 0) (hb : t.begun = false) (hk : t.kind = 2 ∨ t.kind = 4) (hv : n.may.val = true) (hm : n.op.length < n.most) :
    takeN n t = ({ n with op := ⟨decide (t.kind = 4), t.fr, stepO n.op, 0, []⟩ :: n.op, may := if t.kind = 4 then .member else .item, came := true }, [⟨1, t.kind / 4 + 4, t.fr, 0, stepO n.op, []⟩], 0) := by
  unfold takeN
  rw [if_pos h0]
  obtain ⟨most, op, may, begun, came⟩ := n
  obtain ⟨kd, bg, fr, to, tx⟩ := t
  have hb : bg = false := hb
  have hk : kd = 2 ∨ kd = 4 := hk
  have hm2 : ¬ most ≤ op.length := Nat.not_le.2 hm
  subst hb
  rcases hk with rfl | rfl <;> cases may <;> first | (cases hv; done) | (unfold takeO; simp [May.val]; intro h; exact absurd h hm2)
theorem tk_close_no (h0 : n.begun = 0) (hx : n.may.isBroken = false) (hb : t.begun = false) (hk : t.kind = 3 ∨ t.kind = 5) (he : n.may.ends = false) : (takeN n t).2.1 = [] ∧ (takeN n t).2.2 = if n.may.isNothing then 9 else 8 := by
  unfold takeN
  rw [if_pos h0]
  obtain ⟨most, op, may, begun, came⟩ := n
  obtain ⟨kd, bg, fr, to, tx⟩ := t
  have hb : bg = false := hb
  have hk : kd = 3 ∨ kd = 5 := hk
  subst hb
  rcases hk with rfl | rfl <;> cases may <;> first | (cases he; done) | (cases hx; done) | (cases op <;> unfold takeO <;> simp [May.val, badN, May.isNothing])
theorem tk_close_else (o : Opn) (r : List Opn) (h0 : n.begun = 0) (hb : t.begun = false) (hk : t.kind = 3 ∨ t.kind = 5) (he : n.may.ends = true) (hop : n.op = o :: r) (hs : Shp n.may n.op) (ho : o.obj ≠ (t.kind == 5)) : (takeN n t).2.1 = [] ∧ (takeN n t).2.2 = 8 := by
  unfold takeN
  rw [if_pos h0]
  obtain ⟨most, op, may, begun, came⟩ := n
  obtain ⟨kd, bg, fr, to, tx⟩ := t
  have hb : bg = false := hb
  have hk : kd = 3 ∨ kd = 5 := hk
  have hop : op = o :: r := hop
  have ho : o.obj ≠ (kd == 5) := ho
  subst hb hop
  rcases hk with rfl | rfl <;> cases may <;> first | (cases he; done) | (cases hobj : o.obj <;> rw [hobj] at ho <;> unfold takeO <;> simp_all [May.val, badN, Shp, isArr, isObj])
theorem tk_close (o : Opn) (r : List Opn) (h0 : n.begun = 0) (hb : t.begun = false) (hk : t.kind = 3 ∨ t.kind = 5) (he : n.may.ends = true) (hop : n.op = o :: r) (hs : Shp n.may n.op) (ho : (t.kind == 5) = o.obj) :
    takeN n t = ({ endedN { n with op := r } with came := true }, [⟨2, o.kd, o.fr, t.to, o.step, []⟩], 0) := by
  unfold takeN
  rw [if_pos h0]
  obtain ⟨most, op, may, begun, came⟩ := n
  obtain ⟨kd, bg, fr, to, tx⟩ := t
  have hb : bg = false := hb
  have hk : kd = 3 ∨ kd = 5 := hk
  have hop : op = o :: r := hop
  have ho : (kd == 5) = o.obj := ho
  subst hb hop
  rcases hk with rfl | rfl <;> cases may <;> first | (cases he; done) | (cases hobj : o.obj <;> rw [hobj] at ho <;> unfold takeO <;> simp_all [May.val, Shp, isArr, isObj, endedN])
theorem tk_comma_no (h0 : n.begun = 0) (hx : n.may.isBroken = false) (hb : t.begun = false) (hk : t.kind = 6) (he : n.may ≠ .next) : (takeN n t).2.1 = [] ∧ (takeN n t).2.2 = if n.may.isNothing then 9 else 8 := by
  unfold takeN
  rw [if_pos h0]
  obtain ⟨most, op, may, begun, came⟩ := n
  obtain ⟨kd, bg, fr, to, tx⟩ := t
  have hb : bg = false := hb
  have hk : kd = 6 := hk
  subst hb hk
  cases may <;> first | (cases hx; done) | exact absurd rfl he | (cases op <;> unfold takeO <;> simp [May.val, badN, May.isNothing])
theorem tk_comma (o : Opn) (r : List Opn) (h0 : n.begun = 0) (hb : t.begun = false) (hk : t.kind = 6) (he : n.may = .next) (hop : n.op = o :: r) : takeN n t = ({ n with may := if o.obj then .name else .value, came := true }, [], 0) := by
  unfold takeN
  rw [if_pos h0]
  obtain ⟨most, op, may, begun, came⟩ := n
  obtain ⟨kd, bg, fr, to, tx⟩ := t
  have hb : bg = false := hb
  have hk : kd = 6 := hk
  have he : may = .next := he
  have hop : op = o :: r := hop
  subst hb hk he hop
  have : (6 : Int) ≠ if o.obj = true then 5 else 3 := by split <;> decide
  unfold takeO
  simp [May.val, this]
theorem tk_colon_no (h0 : n.begun = 0) (hx : n.may.isBroken = false) (hb : t.begun = false) (hk : t.kind = 7) (he : n.may ≠ .colon) : (takeN n t).2.1 = [] ∧ (takeN n t).2.2 = if n.may.isNothing then 9 else 8 := by
  unfold takeN
  rw [if_pos h0]
  obtain ⟨most, op, may, begun, came⟩ := n
  obtain ⟨kd, bg, fr, to, tx⟩ := t
  have hb : bg = false := hb
  have hk : kd = 7 := hk
  subst hb hk
  cases may <;> first | (cases hx; done) | exact absurd rfl he | (cases op <;> unfold takeO <;> simp [May.val, badN, May.isNothing] <;> (try (split <;> simp_all)))
theorem tk_colon (h0 : n.begun = 0) (hb : t.begun = false) (hk : t.kind = 7) (he : n.may = .colon) : takeN n t = ({ n with may := .value, came := true }, [], 0) := by
  unfold takeN
  rw [if_pos h0]
  obtain ⟨most, op, may, begun, came⟩ := n
  obtain ⟨kd, bg, fr, to, tx⟩ := t
  have hb : bg = false := hb
  have hk : kd = 7 := hk
  have he : may = .colon := he
  subst hb hk he
  unfold takeO
  simp [May.val]
end

end Go.Proofs.YthpkcapooeedeaaDoor

namespace Go.Proofs.YthpkcapooeedeaaDoor
open Go.RowKit
set_option linter.unusedVariables false

section
variable {w w' w1 : World} {b : Nat} {F : Nat → Prop} {n : Nst} {t : Tok}
theorem tk_of_bad {k : Int} {w1 : World} (h : (takeN n t).2.1 = [] ∧ (takeN n t).2.2 = k) (hk : k ≠ 0) (hb : Below w1.heap.size w1 w') : TkP w1 b F (takeN n t) (.slice none 0 0) k w' := by
  obtain ⟨h1, h2⟩ := h
  exact ⟨h2.symm, .inr ⟨by rw [h2]; exact hk, h1, rfl, hb⟩⟩
theorem nine_ne (z : Bool) : (if z = true then (9 : Int) else 8) ≠ 0 := by cases z <;> decide
theorem below_self (w : World) : Below w.heap.size w w := Below.refl _ _

/-- The contract of what take calls. -/
def Sub (f : Nat) (args : Array Value) (w1 : World) (b : Nat) (F : Nat → Prop) (n : Nst) (t : Tok) : Prop :=
  Calls Tryd.prog f args w1 fun e w' => ∃ v k, e = .returned (.tuple #[v, .int .i64 k]) ∧ TkP w1 b F (takeN n t) v k w'
abbrev tokArgs (b : Nat) (t : Tok) : Array Value := #[.pointer (some ⟨b, 0, none⟩), .agg (tokCells t).toArray]

theorem sub_begin (h : NOk w b F n) (hF : ∀ k, F k → k < w.heap.size) (hx : n.may.isBroken = false) (h0 : n.begun = 0) (h5 : n.op.length ≤ 4990) (hb : t.begun = true) (hk : t.kind = 8 ∨ t.kind = 9 ∨ t.kind = 10) :
    Sub 32 (tokArgs b t) w b F n t := by
  obtain ⟨lo, hr, hs, h⟩ := h
  have hlen := hr.len
  by_cases hn : n.may.nam = true ∧ t.kind = 8
  · refine (begin_name h t hn.2 (by rw [code_nam]; exact hn.1)).mono ?_
    rintro e w' ⟨rfl, ha⟩
    refine ⟨_, 0, rfl, ?_⟩
    rw [tk_begin_name n t h0 hb hn.2 hn.1]
    exact ⟨rfl, .inl ⟨rfl, GRow.nil _ _, ha.t, lo, hr, hs, ha.st⟩⟩
  · by_cases hv : n.may.val = true
    · have hnm : n.may.nam = false := by cases hm : n.may <;> rw [hm] at hv <;> first | rfl | cases hv
      refine (begin_value h hF t hk (by simp [hlen]) (by simp; omega) (by rw [code_nam]; exact hnm) (by rw [code_val]; exact hv)).mono ?_
      rintro e w' ⟨v, rfl, hg, ha⟩
      refine ⟨v, 0, rfl, ?_⟩
      rw [tk_begin_value n t h0 hb hv]
      rw [stL_rev, hr.step (by
        cases hm : n.may <;> rw [hm] at hv hs <;> first | (cases hv; done) | exact .inl rfl | skip
        right
        cases ho : n.op with
        | nil => rfl
        | cons o r => rw [ho] at hs; show o.obj = false; simpa [Shp, isArr] using hs)] at hg
      exact ⟨rfl, .inl ⟨rfl, hg, ha.t, lo, hr, hs, ha.st⟩⟩
    · have hv : n.may.val = false := by simpa using hv
      have hnk : (n.may.nam && t.kind == 8) = false := by
        cases hm : n.may.nam
        · rfl
        · have : t.kind ≠ 8 := fun e => hn ⟨hm, e⟩
          simp [this]
      refine (beginN_no h t hk (by rw [code_nam]; exact hnk) (by rw [code_val]; exact hv)).mono ?_
      rintro e w' ⟨rfl, hbw⟩
      rw [code_not]
      exact ⟨_, _, rfl, tk_of_bad (tk_begin_no n t h0 hx hb hnk hv) (nine_ne _) hbw⟩

theorem sub_open (h : NOk w b F n) (hF : ∀ k, F k → k < w.heap.size) (hx : n.may.isBroken = false) (h0 : n.begun = 0) (h5 : n.op.length ≤ 4990) (hd : n.op.length ≤ n.most) (hb : t.begun = false) (hk : t.kind = 2 ∨ t.kind = 4) :
    Sub 33 (tokArgs b t) w b F n t := by
  obtain ⟨lo, hr, hs, h⟩ := h
  have hlen := hr.len
  by_cases hv : n.may.val = true
  · by_cases hm : n.most ≤ n.op.length
    · refine (open_deep h t (by rw [code_val]; exact hv) (by simp; omega)).mono ?_
      rintro e w' ⟨rfl, hbw⟩
      exact ⟨_, _, rfl, tk_of_bad (tk_open_deep n t h0 hb hk hv hm) (by decide) hbw⟩
    · refine (open_yes h hF t (t.kind == 4) rfl (by rw [code_val]; exact hv) (by simp; omega) (by simp [hlen]) (by simp; omega)).mono ?_
      rintro e w' ⟨v, rfl, hg, ha⟩
      refine ⟨v, 0, rfl, ?_⟩
      rw [tk_open n t h0 hb hk hv (by omega)]
      rw [stL_rev, hr.step (by
        cases hm : n.may <;> rw [hm] at hv hs <;> first | (cases hv; done) | exact .inl rfl | skip
        right
        cases ho : n.op with
        | nil => rfl
        | cons o r => rw [ho] at hs; show o.obj = false; simpa [Shp, isArr] using hs)] at hg
      have hnr : LvR true n.op lo := by
        cases hm : n.may <;> rw [hm] at hv hs hr <;> first | (cases hv; done) | exact hr | skip
        cases ho : n.op with
        | nil => rw [ho] at hr; cases lo with
          | nil => trivial
          | cons x s => exact hr.elim
        | cons o r =>
          rw [ho] at hr hs
          cases lo with
          | nil => exact hr.elim
          | cons x s =>
            have hobj : o.obj = false := by simpa [Shp, isArr] using hs
            exact ⟨⟨hr.1.1, hr.1.2.1, fun _ h => by rw [hobj] at h; cases h⟩, hr.2⟩
      have ev : (⟨1, if (t.kind == 4) = true then 5 else 4, t.fr, 0, stepO n.op, []⟩ : Evt) = ⟨1, t.kind / 4 + 4, t.fr, 0, stepO n.op, []⟩ := by
        rcases hk with hk | hk <;> rw [hk] <;> rfl
      rw [ev] at hg
      refine ⟨rfl, .inl ⟨rfl, hg, ha.t, ⟨t.fr, 0, []⟩ :: lo, ?_, ?_, ?_⟩⟩
      · exact ⟨⟨rfl, rfl, fun _ _ => rfl⟩, rfl, hnr⟩
      · show Shp (if t.kind = 4 then May.member else May.item) (⟨decide (t.kind = 4), t.fr, stepO n.op, 0, []⟩ :: n.op)
        rcases hk with hk | hk <;> rw [hk] <;> rfl
      · have hst := ha.st
        have e1 : codeM (if t.kind = 4 then May.member else May.item) (⟨decide (t.kind = 4), t.fr, stepO n.op, 0, []⟩ :: n.op).isEmpty = if (t.kind == 4) = true then 4 else 2 := by
          rcases hk with hk | hk <;> rw [hk] <;> rfl
        have e2 : ((⟨decide (t.kind = 4), t.fr, stepO n.op, 0, []⟩ :: n.op : List Opn).map Opn.obj).reverse = (n.op.map Opn.obj).reverse ++ [t.kind == 4] := by
          simp
          rcases hk with hk | hk <;> rw [hk] <;> rfl
        have e3 : ((⟨t.fr, 0, []⟩ : Lvl) :: lo).reverse = lo.reverse ++ [⟨t.fr, 0, []⟩] := by simp
        show NR w' b _ n.most (codeM (if t.kind = 4 then May.member else May.item) (⟨decide (t.kind = 4), t.fr, stepO n.op, 0, []⟩ :: n.op).isEmpty) n.begun ((⟨decide (t.kind = 4), t.fr, stepO n.op, 0, []⟩ :: n.op : List Opn).map Opn.obj).reverse _
        rw [e1, e2, e3]
        exact hst
  · have hv : n.may.val = false := by simpa using hv
    refine (open_no h t (by rw [code_val]; exact hv)).mono ?_
    rintro e w' ⟨rfl, hbw⟩
    rw [code_not]
    exact ⟨_, _, rfl, tk_of_bad (tk_open_no n t h0 hx hb hk hv) (nine_ne _) hbw⟩

theorem sub_close (h : NOk w b F n) (hF : ∀ k, F k → k < w.heap.size) (hx : n.may.isBroken = false) (h0 : n.begun = 0) (h5 : n.op.length ≤ 4990) (hm : ∀ o ∈ n.op, o.many ≤ 1000000) (hb : t.begun = false) (hk : t.kind = 3 ∨ t.kind = 5) :
    Sub 34 (tokArgs b t) w b F n t := by
  obtain ⟨lo, hr, hs, h⟩ := h
  have hlen := hr.len
  by_cases he : n.may.ends = true
  · obtain ⟨o, r, ho⟩ : ∃ o r, n.op = o :: r := by
      cases hop : n.op with
      | nil => rw [hop] at hs; cases hm : n.may <;> rw [hm] at hs he <;> first | (cases he; done) | (cases hs; done) | exact absurd rfl hs
      | cons o r => exact ⟨o, r, rfl⟩
    obtain ⟨x, s, rfl⟩ : ∃ x s, lo = x :: s := by
      cases lo with
      | nil => rw [ho] at hlen; simp at hlen
      | cons x s => exact ⟨x, s, rfl⟩
    rw [ho] at hr h hlen
    obtain ⟨⟨r1, r2, r3⟩, r4, r5⟩ := hr
    by_cases hob : (t.kind == 5) = o.obj
    · have hmany : ∀ x ∈ s, x.many ≤ 2000000 := fun y hy => Nat.le_trans (r5.many (k := 1000000) (fun q hq => hm q (by rw [ho]; simp [hq])) y hy) (by decide)
      refine (close_yes (op := r.map Opn.obj) (lo := s) (o := o.obj) (x := x) h hF t (by simp at hlen ⊢; exact hlen) (by rw [ho] at h5; simp at h5 ⊢; omega) hmany (by rw [code_end]; exact he) hob).mono ?_
      rintro e w' ⟨v, rfl, hg, ha⟩
      refine ⟨v, 0, rfl, ?_⟩
      rw [tk_close n t o r h0 hb hk he ho hs hob]
      rw [r5.step (.inl rfl), ← r4] at hg
      have ev : (⟨2, if o.obj = true then 5 else 4, x.fr, t.to, o.step, []⟩ : Evt) = ⟨2, o.kd, o.fr, t.to, o.step, []⟩ := by rw [r1]; rfl
      rw [ev] at hg
      refine ⟨rfl, .inl ⟨rfl, hg, ha.t, endL s, ?_, ?_, ?_⟩⟩
      · show LvR (if r.isEmpty then May.nothing else May.next).named (moreO r) (endL s)
        have : (if r.isEmpty then May.nothing else May.next).named = false := by split <;> rfl
        rw [this]
        exact r5.ended
      · show Shp (if r.isEmpty then May.nothing else May.next) (moreO r)
        cases r with
        | nil => exact rfl
        | cons q r => exact List.cons_ne_nil _ _
      · have hst := ha.st
        show NR w' b _ n.most (codeM (if r.isEmpty then May.nothing else May.next) (moreO r).isEmpty) n.begun ((moreO r).map Opn.obj).reverse (endL s).reverse
        have e1 : codeM (if r.isEmpty then May.nothing else May.next) (moreO r).isEmpty = if (r.map Opn.obj).isEmpty then 7 else 6 := by cases r <;> rfl
        rw [e1, map_more]
        exact hst
    · refine (close_no h t (by simp at h5 ⊢; rw [ho] at h5; simp at h5; omega) (.inr ?_)).mono ?_
      · have e1 : ((o :: r).map Opn.obj).reverse.getLast?.getD false = o.obj := by simp
        rw [e1]
        rw [bne_iff_ne]
        exact fun e => hob e.symm
      · rintro e w' ⟨rfl, hbw⟩
        rw [code_not]
        have hnn : n.may.isNothing = false := by cases hm : n.may <;> rw [hm] at he <;> first | rfl | cases he
        rw [hnn]
        exact ⟨_, _, rfl, tk_of_bad (tk_close_else n t o r h0 hb hk he ho hs (fun e => hob e.symm)) (by decide) hbw⟩
  · have he : n.may.ends = false := by simpa using he
    refine (close_no h t (by simp; omega) (.inl (by rw [code_end]; exact he))).mono ?_
    rintro e w' ⟨rfl, hbw⟩
    rw [code_not]
    exact ⟨_, _, rfl, tk_of_bad (tk_close_no n t h0 hx hb hk he) (nine_ne _) hbw⟩

theorem sub_comma (h : NOk w b F n) (hx : n.may.isBroken = false) (h0 : n.begun = 0) (h5 : n.op.length ≤ 4990) (hb : t.begun = false) (hk : t.kind = 6) :
    Sub 35 #[.pointer (some ⟨b, 0, none⟩)] w b F n t := by
  obtain ⟨lo, hr, hs, h⟩ := h
  have hlen := hr.len
  by_cases he : n.may = .next
  · obtain ⟨o, r, ho⟩ : ∃ o r, n.op = o :: r := by
      cases hop : n.op with
      | nil => rw [hop, he] at hs; exact absurd rfl hs
      | cons o r => exact ⟨o, r, rfl⟩
    have h6 : codeM n.may n.op.isEmpty = 6 := by rw [he]; rfl
    rw [h6] at h
    have hlast : (n.op.map Opn.obj).reverse.getLast?.getD false = o.obj := by rw [ho]; simp
    refine (comma_yes h o.obj hlast (by simp; omega)).mono ?_
    rintro e w' ⟨rfl, ha⟩
    refine ⟨_, 0, rfl, ?_⟩
    rw [tk_comma n t o r h0 hb hk he ho]
    refine ⟨rfl, .inl ⟨rfl, GRow.nil _ _, ha.t, lo, ?_, ?_, ?_⟩⟩
    · show LvR (if o.obj then May.name else May.value).named n.op lo
      rw [he] at hr
      rw [ho] at hr ⊢
      cases lo with
      | nil => exact hr.elim
      | cons x s =>
        refine ⟨⟨hr.1.1, hr.1.2.1, fun hnm hobj => ?_⟩, hr.2⟩
        rw [hobj] at hnm
        cases hnm
    · show Shp (if o.obj then May.name else May.value) n.op
      rw [ho]
      cases hobj : o.obj
      · trivial
      · exact hobj
    · have hst := ha.st
      show NR w' b _ n.most (codeM (if o.obj then May.name else May.value) n.op.isEmpty) n.begun (n.op.map Opn.obj).reverse lo.reverse
      have e1 : codeM (if o.obj then May.name else May.value) n.op.isEmpty = if o.obj then 3 else 1 := by rw [ho]; cases o.obj <;> rfl
      rw [e1]
      exact hst
  · refine (comma_no h (fun e => he ((code_six _ _).1 e))).mono ?_
    rintro e w' ⟨rfl, rfl⟩
    rw [code_not]
    exact ⟨_, _, rfl, tk_of_bad (tk_comma_no n t h0 hx hb hk he) (nine_ne _) (below_self _)⟩

theorem sub_colon (h : NOk w b F n) (hx : n.may.isBroken = false) (h0 : n.begun = 0) (hb : t.begun = false) (hk : t.kind = 7) :
    Sub 36 #[.pointer (some ⟨b, 0, none⟩)] w b F n t := by
  obtain ⟨lo, hr, hs, h⟩ := h
  by_cases he : n.may = .colon
  · have h6 : codeM n.may n.op.isEmpty = 5 := by rw [he]; rfl
    rw [h6] at h
    refine (colon_yes h).mono ?_
    rintro e w' ⟨rfl, ha⟩
    refine ⟨_, 0, rfl, ?_⟩
    rw [tk_colon n t h0 hb hk he]
    have hne : n.op.isEmpty = false := by
      rw [he] at hs
      cases hop : n.op with
      | nil => rw [hop] at hs; cases hs
      | cons o r => rfl
    refine ⟨rfl, .inl ⟨rfl, GRow.nil _ _, ha.t, lo, ?_, trivial, ?_⟩⟩
    · rw [he] at hr; exact hr
    · have hst := ha.st
      show NR w' b _ n.most (codeM May.value n.op.isEmpty) n.begun (n.op.map Opn.obj).reverse lo.reverse
      rw [hne]
      exact hst
  · refine (colon_no h (fun e => he ((code_five _ _).1 e))).mono ?_
    rintro e w' ⟨rfl, rfl⟩
    rw [code_not]
    exact ⟨_, _, rfl, tk_of_bad (tk_colon_no n t h0 hx hb hk he) (nine_ne _) (below_self _)⟩

theorem sub_end (h : NOk w b F n) (hF : ∀ k, F k → k < w.heap.size) (hT : Tab w) (s : Nat × Option Nat) (k : Int) (f : Nat) (hi : InvN n s (some (k, f))) (hw : okW (some (k, f)) t) (h5 : n.op.length ≤ 4990) (hm : ∀ o ∈ n.op, o.many ≤ 1000000) :
    Sub 31 (tokArgs b t) w b F n t := by
  obtain ⟨lo, hr, hs, h⟩ := h
  have hlen := hr.len
  obtain ⟨g1, g2, g3, g4, g5⟩ := hi.some k f rfl
  obtain ⟨w1, w2, w3, w4⟩ := hw
  have hb0 : ¬ n.begun = 0 := by omega
  have hkk : t.kind = 8 ∨ t.kind = 9 ∨ t.kind = 10 := by omega
  have htx : t.kind = 10 → t.text = lT ∨ t.text = lF ∨ t.text = lN := fun e => w4 (by omega)
  have hmany : ∀ x ∈ lo, x.many ≤ 2000000 := fun y hy => Nat.le_trans (hr.many (k := 1000000) hm y hy) (by decide)
  by_cases hn : n.may.nam = true
  · obtain ⟨o, r, ho, hobj⟩ : ∃ o r, n.op = o :: r ∧ o.obj = true := by
      cases hop : n.op with
      | nil => rw [hop] at hs; cases hm : n.may <;> rw [hm] at hs hn <;> first | (cases hn; done) | (cases hs; done)
      | cons o r => rw [hop] at hs; exact ⟨o, r, rfl, by cases hm : n.may <;> rw [hm] at hs hn <;> first | (cases hn; done) | exact hs⟩
    obtain ⟨x, s', rfl⟩ : ∃ x s, lo = x :: s := by
      cases lo with
      | nil => rw [ho] at hlen; simp at hlen
      | cons x s => exact ⟨x, s, rfl⟩
    have h' := h
    rw [ho] at h'
    have e : takeN n t = ({ n with begun := 0, op := nameO t.text n.op, may := .colon }, [], 0) := by unfold takeN; rw [if_neg hb0, if_pos hn]
    refine (end_name (op := r.map Opn.obj) (lo := s') (o := o.obj) (x := x) h' hF hT t w1 (w2.trans g1.symm) hkk htx (by rw [ho] at hlen; simp at hlen ⊢; exact hlen) (by rw [ho] at h5; simp at h5 ⊢; omega) (by rw [code_nam]; exact hn)).mono ?_
    rintro e' w' ⟨rfl, ha⟩
    refine ⟨_, 0, rfl, ?_⟩
    rw [e]
    rw [ho] at hr
    obtain ⟨⟨r1, r2, r3⟩, r4, r5⟩ := hr
    refine ⟨rfl, .inl ⟨rfl, GRow.nil _ _, ha.t, ⟨x.fr, x.many, t.text⟩ :: s', ?_, ?_, ?_⟩⟩
    · show LvR true (nameO t.text n.op) _
      rw [ho]
      exact ⟨⟨r1, r2, fun _ _ => rfl⟩, r4, r5⟩
    · show Shp .colon (nameO t.text n.op)
      rw [ho]
      exact hobj
    · have hst := ha.st
      show NR w' b _ n.most 5 0 ((nameO t.text n.op).map Opn.obj).reverse _
      rw [map_name, ho]
      exact hst
  · have hn' : n.may.nam = false := by simpa using hn
    have hv : n.may.val = true := by rcases g5 with g | g
                                     · exact g
                                     · exact absurd g hn
    have e : takeN n t = ({ endedN n with begun := 0 }, [⟨2, scalarK t, t.fr, t.to, stepO n.op, t.text⟩], 0) := by unfold takeN; rw [if_neg hb0, if_neg hn]
    refine (end_value h hF hT t w1 (w2.trans g1.symm) hkk htx (by simp [hlen]) (by simp; omega) hmany (by rw [code_nam]; exact hn')).mono ?_
    rintro e' w' ⟨v, rfl, hg, ha⟩
    refine ⟨v, 0, rfl, ?_⟩
    rw [e]
    rw [hr.step (by
      cases hm : n.may <;> rw [hm] at hv hs <;> first | (cases hv; done) | exact .inl rfl | skip
      right
      cases ho : n.op with
      | nil => rfl
      | cons o r => rw [ho] at hs; show o.obj = false; simpa [Shp, isArr] using hs)] at hg
    refine ⟨rfl, .inl ⟨rfl, hg, ha.t, endL lo, ?_, ?_, ?_⟩⟩
    · show LvR (if n.op.isEmpty then May.nothing else May.next).named (moreO n.op) (endL lo)
      have : (if n.op.isEmpty then May.nothing else May.next).named = false := by split <;> rfl
      rw [this]
      exact hr.ended
    · show Shp (if n.op.isEmpty then May.nothing else May.next) (moreO n.op)
      cases hop : n.op with
      | nil => exact rfl
      | cons q r => exact List.cons_ne_nil _ _
    · have hst := ha.st
      show NR w' b _ n.most (codeM (if n.op.isEmpty then May.nothing else May.next) (moreO n.op).isEmpty) 0 ((moreO n.op).map Opn.obj).reverse (endL lo).reverse
      have e1 : codeM (if n.op.isEmpty then May.nothing else May.next) (moreO n.op).isEmpty = if (n.op.map Opn.obj).isEmpty then 7 else 6 := by cases n.op <;> rfl
      rw [e1, map_more]
      exact hst
end

end Go.Proofs.YthpkcapooeedeaaDoor

namespace Go.Proofs.YthpkcapooeedeaaDoor
open Go.RowKit
set_option linter.unusedVariables false

/-- Behind a fault nothing goes on, and what was open is told still; behind none all goes on. -/
theorem takeN_fault (n : Nst) (t : Tok) (hx : n.may.isBroken = false) : ((takeN n t).2.2 ≠ 0 → (takeN n t).1.may.isBroken = true ∧ (takeN n t).1.op = n.op) ∧ ((takeN n t).2.2 = 0 → (takeN n t).1.may.isBroken = false) := by
  obtain ⟨most, op, may, begun, came⟩ := n
  have hb : ∀ (x : Nst) (k : Int), x.op = op → ((badN x k).1.may.isBroken = true ∧ (badN x k).1.op = op) := fun x k h => ⟨rfl, h⟩
  unfold takeN
  split
  · cases may <;> first
      | (cases hx; done)
      | (cases op <;> unfold takeO <;> simp only [] <;> (repeat' split) <;> first
          | exact ⟨fun _ => hb _ _ rfl, fun h => absurd h (by simp [badN])⟩
          | exact ⟨fun h => absurd rfl h, fun _ => rfl⟩
          | (refine ⟨fun h => absurd rfl h, fun _ => ?_⟩; simp only [endedN]; (repeat' split) <;> rfl))
  · split
    · exact ⟨fun h => absurd rfl h, fun _ => rfl⟩
    · refine ⟨fun h => absurd rfl h, fun _ => ?_⟩
      simp only [endedN]
      split <;> rfl

section
variable {w w' w1 : World} {b : Nat} {F : Nat → Prop} {n : Nst} {t : Tok} {s : Nat × Option Nat} {p : Option (Int × Nat)}
theorem NOk.below (h : NOk w b F n) (hb : Below w.heap.size w w') : NOk w' b F n := by
  obtain ⟨lo, h1, h2, h3⟩ := h
  exact ⟨lo, h1, h2, h3.below hb⟩
theorem bne_false {a c : Int} (h : a = c) : (a != c) = false := by simp [h]

theorem takeNst_any (h : NOk w b F n) (hF : ∀ k, F k → k < w.heap.size) (hx : n.may.isBroken = false) (hi : InvN n s p) (hw : okW p t) (hT : Tab w) (hm : ∀ o ∈ n.op, o.many ≤ 1000000) (h5 : n.op.length ≤ 4990) :
    Calls Tryd.prog 22 (tokArgs b t) w fun e w' => ∃ v k, e = .returned (.tuple #[v, .int .i64 k]) ∧ TkP w b F (takeN n t) v k w' := by
  have hsz : (w.alloc (.cells (tokCells t).toArray 48)).heap.size = w.heap.size + 1 := by simp
  have hb1 := bel1 w (.cells (tokCells t).toArray 48)
  have h1 := h.below hb1
  have hF1 : ∀ k, F k → k < (w.alloc (.cells (tokCells t).toArray 48)).heap.size := fun k hk => by have := hF k hk; omega
  have hT1 : Tab (w.alloc (.cells (tokCells t).toArray 48)) := hT.stay hb1 (hT.elim fun _ h => h.inside)
  obtain ⟨lo, _, _, hn⟩ := h
  have c2 := hn.c2
  have hbw := hn.has.2
  have box : ∀ {f : Nat} {args : Array Value}, Sub f args (w.alloc (.cells (tokCells t).toArray 48)) b F n t → Calls Tryd.prog f args (w.alloc (.cells (tokCells t).toArray 48)) fun e w' => ∃ v k, e = .returned (.tuple #[v, .int .i64 k]) ∧ TkP w b F (takeN n t) v k w' := fun hs => hs.mono (by
    rintro e w' ⟨v, k, rfl, hp⟩
    exact ⟨v, k, rfl, hp.box⟩)
  cases p with
  | some kf =>
    obtain ⟨k, f⟩ := kf
    have hs := box (sub_end h1 hF1 hT1 s k f hi hw h5 hm)
    obtain ⟨g1, g2, g3, _⟩ := hi.some k f rfl
    exact take_end b n.begun t.kind t.fr t.to t.begun ⟨t.text.toArray⟩ w c2 (bne_iff_ne.2 (by omega)) hbw _ hs
  | none =>
    have h0 := (hi.none rfl).1
    have hz := bne_false h0
    cases hbg : t.begun with
    | true =>
      have hk : t.kind = 8 ∨ t.kind = 9 ∨ t.kind = 10 := by
        unfold okW at hw
        rw [hbg] at hw
        obtain ⟨w1, w2⟩ : 8 ≤ t.kind ∧ t.kind ≤ 10 := hw
        omega
      exact take_begin b n.begun t.kind t.fr t.to t.begun ⟨t.text.toArray⟩ w c2 hz hbg hbw _ (box (sub_begin h1 hF1 hx h0 h5 hbg hk))
    | false =>
      have hk : t.kind = 2 ∨ t.kind = 3 ∨ t.kind = 4 ∨ t.kind = 5 ∨ t.kind = 6 ∨ t.kind = 7 := by
        unfold okW at hw
        rw [hbg] at hw
        obtain ⟨w1, w2⟩ : 2 ≤ t.kind ∧ t.kind ≤ 7 := hw
        omega
      have ne : ∀ a c : Int, a ≠ c → (a == c) = false := fun a c h => beq_eq_false_iff_ne.2 h
      rcases hk with hk | hk | hk | hk | hk | hk
      · exact take_open2 b n.begun t.kind t.fr t.to t.begun ⟨t.text.toArray⟩ w c2 hz hbg (beq_iff_eq.2 hk) hbw _ (box (sub_open h1 hF1 hx h0 h5 hi.deep hbg (.inl hk)))
      · exact take_close3 b n.begun t.kind t.fr t.to t.begun ⟨t.text.toArray⟩ w c2 hz hbg (ne _ _ (by omega)) (ne _ _ (by omega)) (beq_iff_eq.2 hk) hbw _ (box (sub_close h1 hF1 hx h0 h5 hm hbg (.inl hk)))
      · exact take_open4 b n.begun t.kind t.fr t.to t.begun ⟨t.text.toArray⟩ w c2 hz hbg (ne _ _ (by omega)) (beq_iff_eq.2 hk) hbw _ (box (sub_open h1 hF1 hx h0 h5 hi.deep hbg (.inr hk)))
      · exact take_close5 b n.begun t.kind t.fr t.to t.begun ⟨t.text.toArray⟩ w c2 hz hbg (ne _ _ (by omega)) (ne _ _ (by omega)) (ne _ _ (by omega)) (beq_iff_eq.2 hk) hbw _ (box (sub_close h1 hF1 hx h0 h5 hm hbg (.inr hk)))
      · exact take_comma b n.begun t.kind t.fr t.to t.begun ⟨t.text.toArray⟩ w c2 hz hbg (ne _ _ (by omega)) (ne _ _ (by omega)) (ne _ _ (by omega)) (ne _ _ (by omega)) (beq_iff_eq.2 hk) hbw _ (box (sub_comma h1 hx h0 h5 hbg hk))
      · exact take_colon b n.begun t.kind t.fr t.to t.begun ⟨t.text.toArray⟩ w c2 hz hbg (ne _ _ (by omega)) (ne _ _ (by omega)) (ne _ _ (by omega)) (ne _ _ (by omega)) (ne _ _ (by omega)) (beq_iff_eq.2 hk) hbw _ (box (sub_colon h1 hx h0 hbg hk))

theorem Take_nest (h : NIs w b F n) (hF : ∀ k, F k → k < w.heap.size) (hi : InvN n s p) (hw : okW p t) (hT : Tab w) (hm : ∀ o ∈ n.op, o.many ≤ 1000000) (h5 : n.op.length ≤ 4990) :
    Calls Tryd.prog 13 (tokArgs b t) w fun e w' => ∃ v, e = .returned (.tuple #[v, .int .i64 (takeN n t).2.2]) ∧ GRow evK w' w.heap.size v (takeN n t).2.1 ∧ Touch F w w' ∧ NIs w' b (fun j => F j ∨ w.heap.size ≤ j) (takeN n t).1 := by
  rcases h with ⟨hx, h⟩ | ⟨hx, h⟩
  · have hp : p = none := by
      cases p with
      | none => rfl
      | some kf =>
        obtain ⟨k, f⟩ := kf
        have := (hi.some k f rfl).2.2.2.2
        cases hm : n.may <;> rw [hm] at hx this <;> first | (cases hx; done) | simp [May.val, May.nam] at this
    subst hp
    have h0 := (hi.none rfl).1
    have e : takeN n t = (n, [], 14) := by
      unfold takeN takeO
      rw [if_pos h0]
      cases hm : n.may <;> rw [hm] at hx <;> first | (cases hx; done) | rfl
    rw [e]
    refine (Take_over h t.kind t.fr t.to t.begun ⟨t.text.toArray⟩).mono ?_
    rintro e' w' ⟨rfl, hb⟩
    exact ⟨_, rfl, GRow.nil _ _, Touch.of_new hb, .inl ⟨hx, (h.below hb).mono (fun k _ hk => .inl hk)⟩⟩
  · have hsz : (w.alloc (.cells (tokCells t).toArray 48)).heap.size = w.heap.size + 1 := by simp
    have hb1 := bel1 w (.cells (tokCells t).toArray 48)
    have hs := takeNst_any (h.below hb1) (fun k hk => by have := hF k hk; omega) hx hi hw (hT.stay hb1 (hT.elim fun _ h => h.inside)) hm h5
    obtain ⟨lo, h1, h2, hn⟩ := h
    obtain ⟨hf1, hf2⟩ := takeN_fault n t hx
    by_cases hr : (takeN n t).2.2 = 0
    · rw [hr]
      refine (Take_ok hn (code_eight _ _ hx) t.kind t.fr t.to t.begun ⟨t.text.toArray⟩ (fun v w' => TkP w b F (takeN n t) v 0 w') (hs.mono ?_)).mono ?_
      · rintro e w' ⟨v, k, rfl, hp⟩
        have hk : k = 0 := hp.1.trans hr
        subst hk
        exact ⟨v, rfl, hp.box⟩
      · rintro e w' ⟨v, rfl, _, hp | hp⟩
        · exact ⟨v, rfl, hp.2.1, hp.2.2.1, .inr ⟨hf2 hr, hp.2.2.2⟩⟩
        · exact absurd hr hp.1
    · refine (Take_bad hn (code_eight _ _ hx) t.kind t.fr t.to t.begun ⟨t.text.toArray⟩ (takeN n t).2.2 (bne_iff_ne.2 hr) (hs.mono ?_)).mono ?_
      · rintro e w' ⟨v, k, rfl, hk, hp | hp⟩
        · exact absurd hp.1 hr
        · obtain ⟨_, _, rfl, hb⟩ := hp
          exact ⟨by rw [hk], hb1.trans (hb.mono (by omega))⟩
      · rintro e w' ⟨rfl, ht, hn'⟩
        have he := (takeN_one n t).1 hr
        rw [he]
        refine ⟨_, rfl, GRow.nil _ _, ht, .inl ⟨(hf1 hr).1, ?_⟩⟩
        rw [(hf1 hr).2]
        exact hn'.mono (fun k _ hk => .inl hk)

theorem NIs.mono {G : Nat → Prop} (h : NIs w b F n) (hs : ∀ j, j < w.heap.size → F j → G j) : NIs w b G n := by
  rcases h with ⟨hx, h⟩ | ⟨hx, lo, h1, h2, h⟩
  · exact .inl ⟨hx, h.mono hs⟩
  · exact .inr ⟨hx, lo, h1, h2, h.mono hs⟩
theorem NIs.move {G : Nat → Prop} (h : NIs w b F n) (ht : Touch G w w') (hd : ∀ j, j < w.heap.size → F j → ¬ G j) : NIs w' b F n := by
  rcases h with ⟨hx, h⟩ | ⟨hx, lo, h1, h2, h⟩
  · exact .inl ⟨hx, h.move ht hd⟩
  · exact .inr ⟨hx, lo, h1, h2, h.move ht hd⟩
theorem NIs.has (h : NIs w b F n) : F b ∧ b < w.heap.size := by
  rcases h with ⟨hx, h⟩ | ⟨hx, lo, h1, h2, h⟩
  · exact h.has
  · exact h.has
theorem NIs.depth (h : NIs w b F n) : Calls Tryd.prog 51 #[.pointer (some ⟨b, 0, none⟩)] w fun e w' => e = .returned (.int .i64 n.op.length) ∧ Below w.heap.size w w' := by
  have hl : ((n.op.map Opn.obj).reverse.length : Int) = n.op.length := by simp
  rcases h with ⟨hx, h⟩ | ⟨hx, lo, h1, h2, h⟩
  all_goals
    have := depth_any h
    rw [hl] at this
    refine this.mono ?_
    rintro e w' ⟨rfl, rfl⟩
    exact ⟨rfl, Below.refl _ _⟩
theorem NIs.done (h : NIs w b F n) : Calls Tryd.prog 15 #[.pointer (some ⟨b, 0, none⟩)] w fun e w' => e = .returned (.bool n.may.isNothing) ∧ Below w.heap.size w w' := by
  rcases h with ⟨hx, h⟩ | ⟨hx, lo, h1, h2, h⟩
  · refine (done_any b 8 w h.c1).mono ?_
    rintro e w' ⟨rfl, rfl⟩
    exact ⟨by cases hm : n.may <;> rw [hm] at hx <;> first | (cases hx; done) | rfl, Below.refl _ _⟩
  · refine (done_any b _ w h.c1).mono ?_
    rintro e w' ⟨rfl, rfl⟩
    rw [code_not]
    exact ⟨rfl, Below.refl _ _⟩
theorem NIs.new (d : Int) (w : World) (h1 : -1000000 ≤ d) (h2 : d ≤ 1000000) :
    Calls Tryd.prog 11 #[.int .i64 d] w fun e w' => ∃ b, e = .returned (.pointer (some ⟨b, 0, none⟩)) ∧ NIs w' b (fun j => w.heap.size ≤ j) (newN d) ∧ Below w.heap.size w w' := by
  refine (New_nest d w h1 h2).mono ?_
  rintro e w' ⟨b, rfl, hn, hb⟩
  refine ⟨b, rfl, .inr ⟨rfl, [], trivial, trivial, ?_⟩, hb⟩
  have e : ((newN d).most : Int) = max d 1 := by
    show (((if d < 1 then 1 else d.toNat : Nat)) : Int) = max d 1
    split <;> omega
  rw [e]
  exact hn
end

end Go.Proofs.YthpkcapooeedeaaDoor
