/- The walk of SliceHangs, over what package slice is proved to do. -/
import Derived.Test.YtkianpaihdidnaaLaw12
namespace Go.Proofs.Ytkianpaihdidnaa
open Go.RowKit
set_option linter.unusedVariables false

theorem own_sel {w : World} {b : Nat} {T : TypeId} {a0 a1 a2 a3 a4 a5 a6 a7 : Value} (o : Own w b T #[a0, a1, a2, a3, a4, a5, a6, a7]) :
    w.cell? ⟨b, 0, none⟩ = some a0 ∧ w.cell? ⟨b, 1, none⟩ = some a1 ∧ w.cell? ⟨b, 2, none⟩ = some a2 ∧ w.cell? ⟨b, 3, none⟩ = some a3 ∧ w.cell? ⟨b, 4, none⟩ = some a4 ∧ w.cell? ⟨b, 5, none⟩ = some a5 ∧ w.cell? ⟨b, 6, none⟩ = some a6 ∧ w.cell? ⟨b, 7, none⟩ = some a7 :=
  ⟨o.at 0, o.at 1, o.at 2, o.at 3, o.at 4, o.at 5, o.at 6, o.at 7⟩


theorem take_at {P : Program} {md : Region.Mode} {ops : Array Oper} {Q : Exit → Act → World → Prop} {S : World → Prop} {i : Nat} {d : Tmp} {oi : Oper} {v : Value} {fuel : Nat} {listed : Array Bool} {a : Act} {w : World} (hi : ops[i]? = some oi) (hd : oi.dst = some d)
    (hs : Region.noSelect ops = true) (hf : Region.free md ops listed i = true) (hr : (Region.ready md ops listed).contains i = true)
    (hQ : ∀ c a w, Q (.panic c) (a.put (some d) v) w → Q (.panic c) a w) (hy : YieldsIf P ops S oi v a) (hS : S w)
    (h : wpAnyH P md ops Q S fuel (listed.setIfInBounds i true) (a.put (some d) v) w) : wpAnyH P md ops Q S (fuel + 1) listed a w :=
  wpAnyH_take hi hs hf hr (fun c a w h => hQ c a w (hd ▸ h)) hy hS (by rw [hd]; exact h)

set_option maxRecDepth 100000 in
set_option maxHeartbeats 4000000 in
theorem sliceHangs_core (C : SliceC) (hV : ∀ w : World, Calls Try.prog 6 #[] w fun e w' => e = .returned (.bool true) ∧ Below w.heap.size w w') (s : Sel) (i m k : Int) (W : World) (hi : (Lit.int .i64 i).wf = true) (hmw : (Lit.int .i64 m).wf = true) (hkw : (Lit.int .i64 k).wf = true) :
    Calls Try.prog 5 #[.agg (selV s), .int .i64 i, .agg #[.int .i64 m, .int .i64 k]] W fun e w' => e = .returned (.bool true) ∧ Below W.heap.size W w' := by
  have KV := Lib.hid hV
  have hs00 := SelAt.start s (Below.refl W.heap.size W)
  have ha := below1s (W.alloc (.cells (selV s) 23)) (.cells #[.int .i64 m, .int .i64 k] 33)
  have hs0 := hs00.on ha
  by_cases hr : ¬ RightI s
  · have KR := Lib.hid (fun w => rright_no s w hr)
    unfold selV at *
    go_enter Try.func5, Try.ntmps5
    go_wp2
    go_quiet (fail)
    have hs0q := hs0.drewN nq
    go_wp2_with (first
      | (go_at_call 6; refine (KV.out _).mono ?_; rintro e w1 ⟨rfl, hb1⟩; have hs1 := hs0q.on hb1; have HS1 := Lib.hid hs1; obtain ⟨h0, h1, h2, h3, h4, h5, h6, h7, h8, h9, h10⟩ := hs1)
      | (go_at_call 7; refine (KR.out _).mono ?_; rintro e w2 ⟨rfl, hb2⟩; clear h0 h1 h2 h3 h4 h5 h6 h7 h8 h9 h10; have hs2 := HS1.out.on hb2; have HS2 := Lib.hid hs2; obtain ⟨h0, h1, h2, h3, h4, h5, h6, h7, h8, h9, h10⟩ := hs2))
    go_ret
    exact ⟨rfl, h8⟩
  have hr : RightI s := Classical.not_not.1 hr
  by_cases g1 : m < 0
  · have KR := Lib.hid (fun w => rright_yes s w hr)
    unfold selV at *
    go_enter Try.func5, Try.ntmps5
    go_wp2
    go_quiet (fail)
    have hs0q := hs0.drewN nq
    go_wp2_with (first
      | (go_at_call 6; refine (KV.out _).mono ?_; rintro e w1 ⟨rfl, hb1⟩; have hs1 := hs0q.on hb1; have HS1 := Lib.hid hs1; obtain ⟨h0, h1, h2, h3, h4, h5, h6, h7, h8, h9, h10⟩ := hs1)
      | (go_at_call 7; refine (KR.out _).mono ?_; rintro e w2 ⟨rfl, hb2⟩; clear h0 h1 h2 h3 h4 h5 h6 h7 h8 h9 h10; have hs2 := HS1.out.on hb2; have HS2 := Lib.hid hs2; obtain ⟨h0, h1, h2, h3, h4, h5, h6, h7, h8, h9, h10⟩ := hs2))
    go_ret
    exact ⟨rfl, h8⟩
  by_cases g2 : m > 1099511627776
  · have KR := Lib.hid (fun w => rright_yes s w hr)
    unfold selV at *
    go_enter Try.func5, Try.ntmps5
    go_wp2
    go_quiet (fail)
    have hs0q := hs0.drewN nq
    go_wp2_with (first
      | (go_at_call 6; refine (KV.out _).mono ?_; rintro e w1 ⟨rfl, hb1⟩; have hs1 := hs0q.on hb1; have HS1 := Lib.hid hs1; obtain ⟨h0, h1, h2, h3, h4, h5, h6, h7, h8, h9, h10⟩ := hs1)
      | (go_at_call 7; refine (KR.out _).mono ?_; rintro e w2 ⟨rfl, hb2⟩; clear h0 h1 h2 h3 h4 h5 h6 h7 h8 h9 h10; have hs2 := HS1.out.on hb2; have HS2 := Lib.hid hs2; obtain ⟨h0, h1, h2, h3, h4, h5, h6, h7, h8, h9, h10⟩ := hs2))
    go_ret
    exact ⟨rfl, h8⟩
  by_cases g3 : k < 0
  · have KR := Lib.hid (fun w => rright_yes s w hr)
    unfold selV at *
    go_enter Try.func5, Try.ntmps5
    go_wp2
    go_quiet (fail)
    have hs0q := hs0.drewN nq
    go_wp2_with (first
      | (go_at_call 6; refine (KV.out _).mono ?_; rintro e w1 ⟨rfl, hb1⟩; have hs1 := hs0q.on hb1; have HS1 := Lib.hid hs1; obtain ⟨h0, h1, h2, h3, h4, h5, h6, h7, h8, h9, h10⟩ := hs1)
      | (go_at_call 7; refine (KR.out _).mono ?_; rintro e w2 ⟨rfl, hb2⟩; clear h0 h1 h2 h3 h4 h5 h6 h7 h8 h9 h10; have hs2 := HS1.out.on hb2; have HS2 := Lib.hid hs2; obtain ⟨h0, h1, h2, h3, h4, h5, h6, h7, h8, h9, h10⟩ := hs2))
    go_ret
    exact ⟨rfl, h8⟩
  by_cases g4 : k > 1099511627776
  · have KR := Lib.hid (fun w => rright_yes s w hr)
    unfold selV at *
    go_enter Try.func5, Try.ntmps5
    go_wp2
    go_quiet (fail)
    have hs0q := hs0.drewN nq
    go_wp2_with (first
      | (go_at_call 6; refine (KV.out _).mono ?_; rintro e w1 ⟨rfl, hb1⟩; have hs1 := hs0q.on hb1; have HS1 := Lib.hid hs1; obtain ⟨h0, h1, h2, h3, h4, h5, h6, h7, h8, h9, h10⟩ := hs1)
      | (go_at_call 7; refine (KR.out _).mono ?_; rintro e w2 ⟨rfl, hb2⟩; clear h0 h1 h2 h3 h4 h5 h6 h7 h8 h9 h10; have hs2 := HS1.out.on hb2; have HS2 := Lib.hid hs2; obtain ⟨h0, h1, h2, h3, h4, h5, h6, h7, h8, h9, h10⟩ := hs2))
    go_ret
    exact ⟨rfl, h8⟩
  by_cases g5 : i < 0
  · have KR := Lib.hid (fun w => rright_yes s w hr)
    unfold selV at *
    go_enter Try.func5, Try.ntmps5
    go_wp2
    go_quiet (fail)
    have hs0q := hs0.drewN nq
    go_wp2_with (first
      | (go_at_call 6; refine (KV.out _).mono ?_; rintro e w1 ⟨rfl, hb1⟩; have hs1 := hs0q.on hb1; have HS1 := Lib.hid hs1; obtain ⟨h0, h1, h2, h3, h4, h5, h6, h7, h8, h9, h10⟩ := hs1)
      | (go_at_call 7; refine (KR.out _).mono ?_; rintro e w2 ⟨rfl, hb2⟩; clear h0 h1 h2 h3 h4 h5 h6 h7 h8 h9 h10; have hs2 := HS1.out.on hb2; have HS2 := Lib.hid hs2; obtain ⟨h0, h1, h2, h3, h4, h5, h6, h7, h8, h9, h10⟩ := hs2))
    go_ret
    exact ⟨rfl, h8⟩
  by_cases g6 : i ≥ m
  · have KR := Lib.hid (fun w => rright_yes s w hr)
    unfold selV at *
    go_enter Try.func5, Try.ntmps5
    go_wp2
    go_quiet (fail)
    have hs0q := hs0.drewN nq
    go_wp2_with (first
      | (go_at_call 6; refine (KV.out _).mono ?_; rintro e w1 ⟨rfl, hb1⟩; have hs1 := hs0q.on hb1; have HS1 := Lib.hid hs1; obtain ⟨h0, h1, h2, h3, h4, h5, h6, h7, h8, h9, h10⟩ := hs1)
      | (go_at_call 7; refine (KR.out _).mono ?_; rintro e w2 ⟨rfl, hb2⟩; clear h0 h1 h2 h3 h4 h5 h6 h7 h8 h9 h10; have hs2 := HS1.out.on hb2; have HS2 := Lib.hid hs2; obtain ⟨h0, h1, h2, h3, h4, h5, h6, h7, h8, h9, h10⟩ := hs2))
    go_ret
    exact ⟨rfl, h8⟩
  have KR := Lib.hid (fun w => rright_yes s w hr)
  have KH := Lib.hid (fun w => C.has s i m w hr (by omega) (by omega))
  have KH2 := Lib.hid (fun w => C.has s i (m + k) w hr (by omega) (by omega))
  have KG := Lib.hid (fun w => C.hangs s w hr)
  have hsame : hangsI s = false → hasI s i m = hasI s i (m + k) := fun h => has_same s i m k h (by omega) (by omega) (by omega)
  have K1 := Lib.hid (fun w => C.has ⟨3, ⟨#[]⟩, 0, 0, 0, false, false, 1⟩ i m w ⟨by simp [okI], by simp [okI], by simp [okI], by simp [okI]⟩ (by omega) (by omega))
  have K2 := Lib.hid (fun w => C.has ⟨3, ⟨#[]⟩, 0, 0, 0, false, false, -1⟩ i m w ⟨by simp [okI], by simp [okI], by simp [okI], by simp [okI]⟩ (by omega) (by omega))
  have K3 := Lib.hid (fun w => C.has ⟨2, ⟨#[]⟩, -1, 0, 0, false, false, 0⟩ i m w ⟨by simp [okI], by simp [okI], by simp [okI], by simp [okI]⟩ (by omega) (by omega))
  have K4 := Lib.hid (fun w => C.has ⟨2, ⟨#[]⟩, i, 0, 0, false, false, 0⟩ i m w ⟨by unfold okI; show -9007199254740991 ≤ i ∧ i ≤ 9007199254740991; omega, by simp [okI], by simp [okI], by simp [okI]⟩ (by omega) (by omega))
  rw [has_on i m _ (by omega) (by omega)] at K1
  rw [has_back i m _ (by omega) (by omega)] at K2
  rw [has_last i m _ (by omega) (by omega)] at K3
  rw [has_at i m _ (by omega) (by omega)] at K4
  generalize hasI s i m = hb at *
  generalize hasI s i (m + k) = hb2' at *
  generalize hangsI s = gb at *
  have e3 : (hb != hb) = false := by simp
  have hwr : IntKind.i64.wrap (m + k) = m + k := by
    rw [IntKind.wrap_i64]
    omega
  clear hr
  cases gb
  · obtain rfl := hsame rfl
    clear hsame
    unfold selV at *
    go_enter Try.func5, Try.ntmps5
    go_wp2
    go_quiet (fail)
    have hs0q := hs0.drewN nq
    go_upto_region 6 with (first
      | (go_at_call 6; refine (KV.out _).mono ?_; rintro e w1 ⟨rfl, hb1⟩; have hs1 := hs0q.on hb1; have HS1 := Lib.hid hs1; obtain ⟨h0, h1, h2, h3, h4, h5, h6, h7, h8, h9, h10⟩ := hs1)
      | (go_at_call 7; refine (KR.out _).mono ?_; rintro e w2 ⟨rfl, hb2⟩; clear h0 h1 h2 h3 h4 h5 h6 h7 h8 h9 h10; have hs2 := HS1.out.on hb2; have HS2 := Lib.hid hs2; obtain ⟨h0, h1, h2, h3, h4, h5, h6, h7, h8, h9, h10⟩ := hs2))
    clear h0 h1 h2 h3 h4 h5 h6 h7 h8 h9 h10
    have hS : SelAt W W.heap.size s.kind s.name s.index s.start s.en s.hs s.he s.stride w2 := HS2.out
    go_region_held3 (fun w' => w'.cell? ⟨W.heap.size, 0, none⟩ = some (.int .i64 s.kind) ∧ w'.cell? ⟨W.heap.size, 1, none⟩ = some (.string s.name) ∧ w'.cell? ⟨W.heap.size, 2, none⟩ = some (.int .i64 s.index) ∧ w'.cell? ⟨W.heap.size, 3, none⟩ = some (.int .i64 s.start) ∧ w'.cell? ⟨W.heap.size, 4, none⟩ = some (.int .i64 s.en) ∧ w'.cell? ⟨W.heap.size, 5, none⟩ = some (.bool s.hs) ∧ w'.cell? ⟨W.heap.size, 6, none⟩ = some (.bool s.he) ∧ w'.cell? ⟨W.heap.size, 7, none⟩ = some (.int .i64 s.stride) ∧ Below W.heap.size W w' ∧ W.heap.size < w'.heap.size ∧ W.heap.size ≤ w'.heap.size)
      (first | assumption | exact SelAt.on (by assumption) (by assumption) | exact SelAt.drew (by assumption))
      (first
        | (go_at_call 10; with_reducible refine (KH.out _).mono ?_; rintro e w' ⟨rfl, hb'⟩)
        | (go_at_call 10; with_reducible refine (KH2.out _).mono ?_; rintro e w' ⟨rfl, hb'⟩)
        | (go_at_call 12; refine (KG.out _).mono ?_; rintro e w' ⟨rfl, hb'⟩))
    have hB := SelAt.below (b := W.heap.size) (w := w') (by assumption)
    clear hS HS2 HS1 hs0q hs0 hs00 ha
    go_upto_region 10 with fail
    have o1 := ((Own.fresh w' 23 (selV ⟨3, ⟨#[]⟩, 0, 0, 0, false, false, 1⟩)).over (.cells (selV ⟨3, ⟨#[]⟩, 0, 0, 0, false, false, -1⟩) 23)).over (.cells (selV ⟨2, ⟨#[]⟩, -1, 0, 0, false, false, 0⟩) 23)
    have o2 := (Own.fresh (w'.alloc (.cells (selV ⟨3, ⟨#[]⟩, 0, 0, 0, false, false, 1⟩) 23)) 23 (selV ⟨3, ⟨#[]⟩, 0, 0, 0, false, false, -1⟩)).over (.cells (selV ⟨2, ⟨#[]⟩, -1, 0, 0, false, false, 0⟩) 23)
    have o3 := Own.fresh ((w'.alloc (.cells (selV ⟨3, ⟨#[]⟩, 0, 0, 0, false, false, 1⟩) 23)).alloc (.cells (selV ⟨3, ⟨#[]⟩, 0, 0, 0, false, false, -1⟩) 23)) 23 (selV ⟨2, ⟨#[]⟩, -1, 0, 0, false, false, 0⟩)
    have hbq := ((below1s w' (.cells (selV ⟨3, ⟨#[]⟩, 0, 0, 0, false, false, 1⟩) 23)).alloc (by simp) (.cells (selV ⟨3, ⟨#[]⟩, 0, 0, 0, false, false, -1⟩) 23)).alloc (by simp; omega) (.cells (selV ⟨2, ⟨#[]⟩, -1, 0, 0, false, false, 0⟩) 23)
    have z1 : (w'.alloc (.cells (selV ⟨3, ⟨#[]⟩, 0, 0, 0, false, false, 1⟩) 23)).heap.size = w'.heap.size + 1 := by simp
    have z2 : ((w'.alloc (.cells (selV ⟨3, ⟨#[]⟩, 0, 0, 0, false, false, 1⟩) 23)).alloc (.cells (selV ⟨3, ⟨#[]⟩, 0, 0, 0, false, false, -1⟩) 23)).heap.size = w'.heap.size + 1 + 1 := by simp
    rw [z1] at o2
    rw [z2] at o3
    clear z1 z2
    unfold selV at o1 o2 o3 hbq
    generalize World.alloc (World.alloc (World.alloc w' _) _) _ = wq at *
    have hBq := hB.trans (hbq.mono hB.size)
    obtain ⟨p0, p1, p2, p3, p4, p5, p6, p7⟩ := own_sel o1
    go_wp2_with (first
      | (go_at_call 10; with_reducible refine (K1.out _).mono ?_; rintro e w6 ⟨rfl, hb6⟩; have O2 := o2.stay hb6 o2.inside; have O3 := o3.stay hb6 o3.inside; obtain ⟨q0, q1, q2, q3, q4, q5, q6, q7⟩ := own_sel O2)
      | (go_at_call 10; with_reducible refine (K2.out _).mono ?_; rintro e w7 ⟨rfl, hb7⟩; have O4 := O3.stay hb7 O3.inside; obtain ⟨r0, r1, r2, r3, r4, r5, r6, r7⟩ := own_sel O4)
      | (go_at_call 10; with_reducible refine (K3.out _).mono ?_; rintro e w8 ⟨rfl, hb8⟩)
      | (go_at_call 10; with_reducible refine (K4.out _).mono ?_; rintro e w9 ⟨rfl, hb9⟩))
    go_ret
    have n0 := hBq.size
    have n1 := Nat.le_trans n0 hb6.size
    have n2 := Nat.le_trans n1 hb7.size
    have n3 := Nat.le_trans n2 hb8.size
    exact ⟨rfl, (((hBq.trans (hb6.mono n0)).trans (hb7.mono n1)).trans (hb8.mono n2)).trans (hb9.mono n3)⟩
  · clear hsame KH KH2
    unfold selV at *
    go_enter Try.func5, Try.ntmps5
    go_wp2
    go_quiet (fail)
    have hs0q := hs0.drewN nq
    go_upto_region 6 with (first
      | (go_at_call 6; refine (KV.out _).mono ?_; rintro e w1 ⟨rfl, hb1⟩; have hs1 := hs0q.on hb1; have HS1 := Lib.hid hs1; obtain ⟨h0, h1, h2, h3, h4, h5, h6, h7, h8, h9, h10⟩ := hs1)
      | (go_at_call 7; refine (KR.out _).mono ?_; rintro e w2 ⟨rfl, hb2⟩; clear h0 h1 h2 h3 h4 h5 h6 h7 h8 h9 h10; have hs2 := HS1.out.on hb2; have HS2 := Lib.hid hs2; obtain ⟨h0, h1, h2, h3, h4, h5, h6, h7, h8, h9, h10⟩ := hs2))
    clear h0 h1 h2 h3 h4 h5 h6 h7 h8 h9 h10
    have hS : SelAt W W.heap.size s.kind s.name s.index s.start s.en s.hs s.he s.stride w2 := HS2.out
    have HSS := Lib.hid hS
    obtain ⟨h0, h1, h2, h3, h4, h5, h6, h7, _, _, _⟩ := hS
    clear g1 g2 g3 g4 g5 g6 HS1 HS2 hs0q hs0 hs00 ha e3 hwr hb1 hb2
    go_upto_region 6 with fail
    clear h0 h1 h2 h3 h4 h5 h6 h7
    refine wp_region_held_drew (S := (fun w' => w'.cell? ⟨W.heap.size, 0, none⟩ = some (.int .i64 s.kind) ∧ w'.cell? ⟨W.heap.size, 1, none⟩ = some (.string s.name) ∧ w'.cell? ⟨W.heap.size, 2, none⟩ = some (.int .i64 s.index) ∧ w'.cell? ⟨W.heap.size, 3, none⟩ = some (.int .i64 s.start) ∧ w'.cell? ⟨W.heap.size, 4, none⟩ = some (.int .i64 s.en) ∧ w'.cell? ⟨W.heap.size, 5, none⟩ = some (.bool s.hs) ∧ w'.cell? ⟨W.heap.size, 6, none⟩ = some (.bool s.he) ∧ w'.cell? ⟨W.heap.size, 7, none⟩ = some (.int .i64 s.stride) ∧ Below W.heap.size W w' ∧ W.heap.size < w'.heap.size ∧ W.heap.size ≤ w'.heap.size)) (by kernel_rfl) ?_ (fun hHeld => ?_)
    · exact SelAt.drew HSS.out
    refine take_at (i := 0) (d := 46) (v := .agg #[.int .i64 s.kind, .string s.name, .int .i64 s.index, .int .i64 s.start, .int .i64 s.en, .bool s.hs, .bool s.he, .int .i64 s.stride]) rfl rfl (by kernel_rfl) (by kernel_rfl) (by kernel_rfl) (fun _ _ _ h => h) (Or.inl ⟨by rfl, ?_⟩) (by assumption) ?_
    · intro w hSw
      (try dsimp only at hSw)
      go_simp
    simp only [Act.put, List.setIfInBounds_toArray, List.set_cons_zero, List.set_cons_succ]
    refine wpAnyH_ready (rs := [1]) (by kernel_rfl) (by simp) ?_
    refine AllReadyH.cons rfl (fun K hK => ?_) ?_
    · go_simp
      go_at_call 12
      refine (KG.out _).mono ?_
      rintro e w' ⟨rfl, hb'⟩
      refine hK.out _ _ (SelAt.on hHeld hb') (fun hHeld2 => ?_)
      (try dsimp only)
      (try simp only [Act.put, List.setIfInBounds_toArray, List.set_cons_zero, List.set_cons_succ])
      refine take_at (i := 2) (d := 48) (v := .bool false) rfl rfl (by kernel_rfl) (by kernel_rfl) (by kernel_rfl) (fun _ _ _ h => h) (Or.inl ⟨by rfl, ?_⟩) (by assumption) ?_
      · intro w hSw
        (try dsimp only at hSw)
        go_simp
      (try dsimp only)
      (try simp only [Act.put, List.setIfInBounds_toArray, List.set_cons_zero, List.set_cons_succ])
      refine take_at (i := 3) (d := 49) (v := .bool false) rfl rfl (by kernel_rfl) (by kernel_rfl) (by kernel_rfl) (fun _ _ _ h => h) (Or.inl ⟨by rfl, ?_⟩) (by assumption) ?_
      · intro w hSw
        (try dsimp only at hSw)
        go_simp
      (try dsimp only)
      (try simp only [Act.put, List.setIfInBounds_toArray, List.set_cons_zero, List.set_cons_succ])
      refine take_at (i := 4) (d := 50) (v := undef) rfl rfl (by kernel_rfl) (by kernel_rfl) (by kernel_rfl) (fun _ _ _ h => h) (Or.inr ⟨by rfl, rfl⟩) (by assumption) ?_
      (try dsimp only)
      (try simp only [Act.put, List.setIfInBounds_toArray, List.set_cons_zero, List.set_cons_succ])
      refine take_at (i := 5) (d := 51) (v := undef) rfl rfl (by kernel_rfl) (by kernel_rfl) (by kernel_rfl) (fun _ _ _ h => h) (Or.inr ⟨by rfl, rfl⟩) (by assumption) ?_
      (try dsimp only)
      (try simp only [Act.put, List.setIfInBounds_toArray, List.set_cons_zero, List.set_cons_succ])
      refine take_at (i := 6) (d := 52) (v := undef) rfl rfl (by kernel_rfl) (by kernel_rfl) (by kernel_rfl) (fun _ _ _ h => h) (Or.inr ⟨by rfl, rfl⟩) (by assumption) ?_
      (try dsimp only)
      (try simp only [Act.put, List.setIfInBounds_toArray, List.set_cons_zero, List.set_cons_succ])
      refine take_at (i := 7) (d := 53) (v := undef) rfl rfl (by kernel_rfl) (by kernel_rfl) (by kernel_rfl) (fun _ _ _ h => h) (Or.inr ⟨by rfl, rfl⟩) (by assumption) ?_
      (try dsimp only)
      (try simp only [Act.put, List.setIfInBounds_toArray, List.set_cons_zero, List.set_cons_succ])
      refine take_at (i := 8) (d := 54) (v := undef) rfl rfl (by kernel_rfl) (by kernel_rfl) (by kernel_rfl) (fun _ _ _ h => h) (Or.inr ⟨by rfl, rfl⟩) (by assumption) ?_
      (try dsimp only)
      (try simp only [Act.put, List.setIfInBounds_toArray, List.set_cons_zero, List.set_cons_succ])
      refine take_at (i := 9) (d := 55) (v := undef) rfl rfl (by kernel_rfl) (by kernel_rfl) (by kernel_rfl) (fun _ _ _ h => h) (Or.inr ⟨by rfl, rfl⟩) (by assumption) ?_
      (try dsimp only)
      (try simp only [Act.put, List.setIfInBounds_toArray, List.set_cons_zero, List.set_cons_succ])
      refine take_at (i := 10) (d := 56) (v := undef) rfl rfl (by kernel_rfl) (by kernel_rfl) (by kernel_rfl) (fun _ _ _ h => h) (Or.inr ⟨by rfl, rfl⟩) (by assumption) ?_
      (try dsimp only)
      (try simp only [Act.put, List.setIfInBounds_toArray, List.set_cons_zero, List.set_cons_succ])
      refine take_at (i := 11) (d := 57) (v := undef) rfl rfl (by kernel_rfl) (by kernel_rfl) (by kernel_rfl) (fun _ _ _ h => h) (Or.inr ⟨by rfl, rfl⟩) (by assumption) ?_
      (try dsimp only)
      (try simp only [Act.put, List.setIfInBounds_toArray, List.set_cons_zero, List.set_cons_succ])
      refine take_at (i := 12) (d := 58) (v := undef) rfl rfl (by kernel_rfl) (by kernel_rfl) (by kernel_rfl) (fun _ _ _ h => h) (Or.inr ⟨by rfl, rfl⟩) (by assumption) ?_
      (try dsimp only)
      (try simp only [Act.put, List.setIfInBounds_toArray, List.set_cons_zero, List.set_cons_succ])
      refine take_at (i := 13) (d := 59) (v := undef) rfl rfl (by kernel_rfl) (by kernel_rfl) (by kernel_rfl) (fun _ _ _ h => h) (Or.inr ⟨by rfl, rfl⟩) (by assumption) ?_
      (try dsimp only)
      (try simp only [Act.put, List.setIfInBounds_toArray, List.set_cons_zero, List.set_cons_succ])
      refine take_at (i := 14) (d := 60) (v := undef) rfl rfl (by kernel_rfl) (by kernel_rfl) (by kernel_rfl) (fun _ _ _ h => h) (Or.inr ⟨by rfl, rfl⟩) (by assumption) ?_
      (try dsimp only)
      (try simp only [Act.put, List.setIfInBounds_toArray, List.set_cons_zero, List.set_cons_succ])
      refine take_at (i := 15) (d := 61) (v := .bool false) rfl rfl (by kernel_rfl) (by kernel_rfl) (by kernel_rfl) (fun _ _ _ h => h) (Or.inl ⟨by rfl, ?_⟩) (by assumption) ?_
      · intro w hSw
        (try dsimp only at hSw)
        go_simp
      (try dsimp only)
      (try simp only [Act.put, List.setIfInBounds_toArray, List.set_cons_zero, List.set_cons_succ])
      refine wpAnyH_done (by kernel_rfl) ?_ _
      have hB := SelAt.below (b := W.heap.size) (w := w') (by exact hHeld2)
      clear hHeld hHeld2 HSS
      go_upto_region 10 with fail
      have o1 := ((Own.fresh w' 23 (selV ⟨3, ⟨#[]⟩, 0, 0, 0, false, false, 1⟩)).over (.cells (selV ⟨3, ⟨#[]⟩, 0, 0, 0, false, false, -1⟩) 23)).over (.cells (selV ⟨2, ⟨#[]⟩, -1, 0, 0, false, false, 0⟩) 23)
      have o2 := (Own.fresh (w'.alloc (.cells (selV ⟨3, ⟨#[]⟩, 0, 0, 0, false, false, 1⟩) 23)) 23 (selV ⟨3, ⟨#[]⟩, 0, 0, 0, false, false, -1⟩)).over (.cells (selV ⟨2, ⟨#[]⟩, -1, 0, 0, false, false, 0⟩) 23)
      have o3 := Own.fresh ((w'.alloc (.cells (selV ⟨3, ⟨#[]⟩, 0, 0, 0, false, false, 1⟩) 23)).alloc (.cells (selV ⟨3, ⟨#[]⟩, 0, 0, 0, false, false, -1⟩) 23)) 23 (selV ⟨2, ⟨#[]⟩, -1, 0, 0, false, false, 0⟩)
      have hbq := ((below1s w' (.cells (selV ⟨3, ⟨#[]⟩, 0, 0, 0, false, false, 1⟩) 23)).alloc (by simp) (.cells (selV ⟨3, ⟨#[]⟩, 0, 0, 0, false, false, -1⟩) 23)).alloc (by simp; omega) (.cells (selV ⟨2, ⟨#[]⟩, -1, 0, 0, false, false, 0⟩) 23)
      have z1 : (w'.alloc (.cells (selV ⟨3, ⟨#[]⟩, 0, 0, 0, false, false, 1⟩) 23)).heap.size = w'.heap.size + 1 := by simp
      have z2 : ((w'.alloc (.cells (selV ⟨3, ⟨#[]⟩, 0, 0, 0, false, false, 1⟩) 23)).alloc (.cells (selV ⟨3, ⟨#[]⟩, 0, 0, 0, false, false, -1⟩) 23)).heap.size = w'.heap.size + 1 + 1 := by simp
      rw [z1] at o2
      rw [z2] at o3
      clear z1 z2
      unfold selV at o1 o2 o3 hbq
      generalize World.alloc (World.alloc (World.alloc w' _) _) _ = wq at *
      have hBq := hB.trans (hbq.mono hB.size)
      obtain ⟨p0, p1, p2, p3, p4, p5, p6, p7⟩ := own_sel o1
      go_wp2_with (first
        | (go_at_call 10; with_reducible refine (K1.out _).mono ?_; rintro e w6 ⟨rfl, hb6⟩; have O2 := o2.stay hb6 o2.inside; have O3 := o3.stay hb6 o3.inside; obtain ⟨q0, q1, q2, q3, q4, q5, q6, q7⟩ := own_sel O2)
        | (go_at_call 10; with_reducible refine (K2.out _).mono ?_; rintro e w7 ⟨rfl, hb7⟩; have O4 := O3.stay hb7 O3.inside; obtain ⟨r0, r1, r2, r3, r4, r5, r6, r7⟩ := own_sel O4)
        | (go_at_call 10; with_reducible refine (K3.out _).mono ?_; rintro e w8 ⟨rfl, hb8⟩)
        | (go_at_call 10; with_reducible refine (K4.out _).mono ?_; rintro e w9 ⟨rfl, hb9⟩))
      go_ret
      have n0 := hBq.size
      have n1 := Nat.le_trans n0 hb6.size
      have n2 := Nat.le_trans n1 hb7.size
      have n3 := Nat.le_trans n2 hb8.size
      exact ⟨rfl, (((hBq.trans (hb6.mono n0)).trans (hb7.mono n1)).trans (hb8.mono n2)).trans (hb9.mono n3)⟩
    exact AllReadyH.nil

end Go.Proofs.Ytkianpaihdidnaa
