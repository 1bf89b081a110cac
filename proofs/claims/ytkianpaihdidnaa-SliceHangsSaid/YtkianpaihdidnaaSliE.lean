/- What package slice does, and the walk of sliceAlive. -/
import Derived.Test.YtkianpaihdidnaaRows
import Derived.Test.YtkianpaihdidnaaRef12E
import Derived.Test.YtkianpaihdidnaaSliB
import Derived.Test.YtkianpaihdidnaaSliD
import Derived.Deep.RegionHeld3
namespace Go.Proofs.Ytkianpaihdidnaa
open Go.RowKit
set_option linter.unusedVariables false

theorem sliceC : SliceC where
  place := fun i m w hi hm => (pplace_any i m w hi hm).mono fun e w' h => ⟨h.1, h.2 ▸ Below.refl _ _⟩
  bounds := fun s m w hs h0 h9 => pbounds_any s m w hs h0 h9
  has := fun s i m w hs h0 h9 => phas_any s i m w hs h0 h9
  hangs := fun s w _ => phangs_any s w
  all := fun s n w hs hn => pall_any s n w hs hn

theorem rd_two {w : World} {B : Nat} {A : Option Addr} {u v : Value} (h : Rd w B A 2 [u, v]) : ∃ g, A = some g ∧ w.cell? g = some u ∧ w.cell? ⟨g.block, g.off + 1, none⟩ = some v := by
  obtain ⟨g, e, h1, h2⟩ := h.2 (by omega)
  have c0 := h2 0 u rfl
  have c1 := h2 1 v rfl
  exact ⟨g, e, by simpa [Addr.add] using c0, by simpa [Addr.add] using c1⟩

def selA : Sel := ⟨3, ⟨#[]⟩, 0, -2, 0, true, false, 1⟩
def selB : Sel := ⟨3, ⟨#[]⟩, 0, 3, 0, true, true, -2⟩
theorem all_a : allI selA 5 = [3, 4] := by decide
theorem all_b : allI selB 5 = [1, 3] := by decide

/-- Two selectors' cells, and what is older, stay. -/
def TwoAt (W : World) (b1 b2 : Nat) (a0 a1 a2 a3 a4 a5 a6 a7 c0 c1 c2 c3 c4 c5 c6 c7 : Value) (w : World) : Prop :=
  w.cell? ⟨b1, 0, none⟩ = some (a0) ∧ w.cell? ⟨b1, 1, none⟩ = some (a1) ∧ w.cell? ⟨b1, 2, none⟩ = some (a2) ∧ w.cell? ⟨b1, 3, none⟩ = some (a3) ∧ w.cell? ⟨b1, 4, none⟩ = some (a4) ∧ w.cell? ⟨b1, 5, none⟩ = some (a5) ∧ w.cell? ⟨b1, 6, none⟩ = some (a6) ∧ w.cell? ⟨b1, 7, none⟩ = some (a7) ∧ w.cell? ⟨b2, 0, none⟩ = some (c0) ∧ w.cell? ⟨b2, 1, none⟩ = some (c1) ∧ w.cell? ⟨b2, 2, none⟩ = some (c2) ∧ w.cell? ⟨b2, 3, none⟩ = some (c3) ∧ w.cell? ⟨b2, 4, none⟩ = some (c4) ∧ w.cell? ⟨b2, 5, none⟩ = some (c5) ∧ w.cell? ⟨b2, 6, none⟩ = some (c6) ∧ w.cell? ⟨b2, 7, none⟩ = some (c7) ∧ Below W.heap.size W w ∧ b1 < w.heap.size ∧ b2 < w.heap.size ∧ W.heap.size ≤ w.heap.size
theorem TwoAt.on {W w w' : World} {b1 b2 : Nat} {a0 a1 a2 a3 a4 a5 a6 a7 c0 c1 c2 c3 c4 c5 c6 c7 : Value} (h : TwoAt W b1 b2 a0 a1 a2 a3 a4 a5 a6 a7 c0 c1 c2 c3 c4 c5 c6 c7 w) (hb : Below w.heap.size w w') : TwoAt W b1 b2 a0 a1 a2 a3 a4 a5 a6 a7 c0 c1 c2 c3 c4 c5 c6 c7 w' := by
  obtain ⟨h0, h1, h2, h3, h4, h5, h6, h7, k0, k1, k2, k3, k4, k5, k6, k7, h8, h9, h10, h11⟩ := h
  have c : ∀ j, w'.cell? ⟨b1, j, none⟩ = w.cell? ⟨b1, j, none⟩ := fun j => hb.cell (p := ⟨b1, j, none⟩) h9
  have d : ∀ j, w'.cell? ⟨b2, j, none⟩ = w.cell? ⟨b2, j, none⟩ := fun j => hb.cell (p := ⟨b2, j, none⟩) h10
  have hz := hb.size
  exact ⟨(c 0).trans h0, (c 1).trans h1, (c 2).trans h2, (c 3).trans h3, (c 4).trans h4, (c 5).trans h5, (c 6).trans h6, (c 7).trans h7, (d 0).trans k0, (d 1).trans k1, (d 2).trans k2, (d 3).trans k3, (d 4).trans k4, (d 5).trans k5, (d 6).trans k6, (d 7).trans k7, h8.trans (hb.mono h11), by omega, by omega, by omega⟩
theorem TwoAt.drew {W w : World} {b1 b2 : Nat} {a0 a1 a2 a3 a4 a5 a6 a7 c0 c1 c2 c3 c4 c5 c6 c7 : Value} (h : TwoAt W b1 b2 a0 a1 a2 a3 a4 a5 a6 a7 c0 c1 c2 c3 c4 c5 c6 c7 w) : TwoAt W b1 b2 a0 a1 a2 a3 a4 a5 a6 a7 c0 c1 c2 c3 c4 c5 c6 c7 w.drew := h.on ⟨rfl, rfl, rfl, Nat.le_refl _, fun _ _ => rfl⟩

set_option maxRecDepth 100000 in
set_option maxHeartbeats 4000000 in
theorem sliceAlive_walk (C : SliceC) (W : World) : Calls Try.prog 6 #[] W fun e w' => e = .returned (.bool true) ∧ Below W.heap.size W w' := by
  have K1 := Lib.hid (show ∀ w : World, Calls Try.prog 16 #[.agg #[.int .i64 3, .string ⟨#[]⟩, .int .i64 0, .int .i64 (-2), .int .i64 0, .bool true, .bool false, .int .i64 1], .int .i64 5] w fun e w' => ∃ A c, e = .returned (.slice A 2 c) ∧ Rd w' w'.heap.size A 2 [.int .i64 3, .int .i64 4] ∧ Below w.heap.size w w' from fun w => by
    have h := C.all selA 5 w ⟨by simp [okI, selA], by simp [okI, selA], by simp [okI, selA], by simp [okI, selA]⟩ (by omega)
    rw [all_a] at h
    exact h)
  have K2 := Lib.hid (show ∀ w : World, Calls Try.prog 16 #[.agg #[.int .i64 3, .string ⟨#[]⟩, .int .i64 0, .int .i64 3, .int .i64 0, .bool true, .bool true, .int .i64 (-2)], .int .i64 5] w fun e w' => ∃ A c, e = .returned (.slice A 2 c) ∧ Rd w' w'.heap.size A 2 [.int .i64 1, .int .i64 3] ∧ Below w.heap.size w w' from fun w => by
    have h := C.all selB 5 w ⟨by simp [okI, selB], by simp [okI, selB], by simp [okI, selB], by simp [okI, selB]⟩ (by omega)
    rw [all_b] at h
    exact h)
  have o1 := (Own.fresh W 23 #[.int .i64 3, .string ⟨#[]⟩, .int .i64 0, .int .i64 (-2), .int .i64 0, .bool true, .bool false, .int .i64 1]).over (.cells #[.int .i64 3, .string ⟨#[]⟩, .int .i64 0, .int .i64 3, .int .i64 0, .bool true, .bool true, .int .i64 (-2)] 23)
  have o2 := Own.fresh (W.alloc (.cells #[.int .i64 3, .string ⟨#[]⟩, .int .i64 0, .int .i64 (-2), .int .i64 0, .bool true, .bool false, .int .i64 1] 23)) 23 #[.int .i64 3, .string ⟨#[]⟩, .int .i64 0, .int .i64 3, .int .i64 0, .bool true, .bool true, .int .i64 (-2)]
  have hb := (below1s W (.cells #[.int .i64 3, .string ⟨#[]⟩, .int .i64 0, .int .i64 (-2), .int .i64 0, .bool true, .bool false, .int .i64 1] 23)).alloc (by simp) (.cells #[.int .i64 3, .string ⟨#[]⟩, .int .i64 0, .int .i64 3, .int .i64 0, .bool true, .bool true, .int .i64 (-2)] 23)
  have z1 : (W.alloc (.cells #[.int .i64 3, .string ⟨#[]⟩, .int .i64 0, .int .i64 (-2), .int .i64 0, .bool true, .bool false, .int .i64 1] 23)).heap.size = W.heap.size + 1 := by simp
  rw [z1] at o2
  clear z1
  go_enter Try.func6, Try.ntmps6
  go_upto_region 3 with fail
  generalize World.alloc (World.alloc W _) _ = wq at *
  have hS : TwoAt W W.heap.size (W.heap.size + 1) (.int .i64 3) (.string ⟨#[]⟩) (.int .i64 0) (.int .i64 (-2)) (.int .i64 0) (.bool true) (.bool false) (.int .i64 1) (.int .i64 3) (.string ⟨#[]⟩) (.int .i64 0) (.int .i64 3) (.int .i64 0) (.bool true) (.bool true) (.int .i64 (-2)) wq := ⟨o1.at 0, o1.at 1, o1.at 2, o1.at 3, o1.at 4, o1.at 5, o1.at 6, o1.at 7, o2.at 0, o2.at 1, o2.at 2, o2.at 3, o2.at 4, o2.at 5, o2.at 6, o2.at 7, hb, o1.inside, o2.inside, hb.size⟩
  clear o1 o2 hb
  go_region_held3 (fun w' => w'.cell? ⟨W.heap.size, 0, none⟩ = some (.int .i64 3) ∧ w'.cell? ⟨W.heap.size, 1, none⟩ = some (.string ⟨#[]⟩) ∧ w'.cell? ⟨W.heap.size, 2, none⟩ = some (.int .i64 0) ∧ w'.cell? ⟨W.heap.size, 3, none⟩ = some (.int .i64 (-2)) ∧ w'.cell? ⟨W.heap.size, 4, none⟩ = some (.int .i64 0) ∧ w'.cell? ⟨W.heap.size, 5, none⟩ = some (.bool true) ∧ w'.cell? ⟨W.heap.size, 6, none⟩ = some (.bool false) ∧ w'.cell? ⟨W.heap.size, 7, none⟩ = some (.int .i64 1) ∧ w'.cell? ⟨W.heap.size + 1, 0, none⟩ = some (.int .i64 3) ∧ w'.cell? ⟨W.heap.size + 1, 1, none⟩ = some (.string ⟨#[]⟩) ∧ w'.cell? ⟨W.heap.size + 1, 2, none⟩ = some (.int .i64 0) ∧ w'.cell? ⟨W.heap.size + 1, 3, none⟩ = some (.int .i64 3) ∧ w'.cell? ⟨W.heap.size + 1, 4, none⟩ = some (.int .i64 0) ∧ w'.cell? ⟨W.heap.size + 1, 5, none⟩ = some (.bool true) ∧ w'.cell? ⟨W.heap.size + 1, 6, none⟩ = some (.bool true) ∧ w'.cell? ⟨W.heap.size + 1, 7, none⟩ = some (.int .i64 (-2)) ∧ Below W.heap.size W w' ∧ W.heap.size < w'.heap.size ∧ W.heap.size + 1 < w'.heap.size ∧ W.heap.size ≤ w'.heap.size)
    (first | assumption | exact TwoAt.on (by assumption) (by assumption) | exact TwoAt.drew (by assumption))
    (first
      | (go_at_call 16; with_reducible refine (K1.out _).mono ?_; rintro e w' ⟨A1, cap1, rfl, r1, hb'⟩; (try have r2 := r2.stay hb'))
      | (go_at_call 16; with_reducible refine (K2.out _).mono ?_; rintro e w' ⟨A2, cap2, rfl, r2, hb'⟩; (try have r1 := r1.stay hb')))
  all_goals
    obtain ⟨g1, rfl, p0, p1⟩ := rd_two r1
    obtain ⟨g2, rfl, q0, q1⟩ := rd_two r2
    go_wp2
    go_ret
    exact ⟨rfl, by
      have : TwoAt W W.heap.size (W.heap.size + 1) (.int .i64 3) (.string ⟨#[]⟩) (.int .i64 0) (.int .i64 (-2)) (.int .i64 0) (.bool true) (.bool false) (.int .i64 1) (.int .i64 3) (.string ⟨#[]⟩) (.int .i64 0) (.int .i64 3) (.int .i64 0) (.bool true) (.bool true) (.int .i64 (-2)) w' := by assumption
      exact this.2.2.2.2.2.2.2.2.2.2.2.2.2.2.2.2.1⟩

end Go.Proofs.Ytkianpaihdidnaa
