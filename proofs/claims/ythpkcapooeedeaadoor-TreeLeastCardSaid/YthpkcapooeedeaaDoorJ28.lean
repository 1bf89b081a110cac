/- Package tree: the walk of end. -/
import Derived.Test.YthpkcapooeedeaaDoorJ27
import Derived.Deep.RegionHeld3
namespace Go.Proofs.YthpkcapooeedeaaDoor
open Go.RowKit
set_option linter.unusedVariables false

set_option maxRecDepth 100000 in
set_option maxHeartbeats 8000000 in
theorem end_walk {w : World} {b : Nat} {F : Nat → Prop} {t : Tree} {s : Stp} {r : List (Tree × Stp)} (h : BIs w b F ⟨(t, s) :: r, none⟩) (e : Evt) (he : e.kind ≠ 1) (hr9 : r.length ≤ 100000) :
    Calls Tryd.prog 24 #[.pointer (some ⟨b, 0, none⟩), .agg (evCells e).toArray] w fun e' w' => e' = .returned (.tuple #[]) ∧ BIs w' b (fun j => F j ∨ w.heap.size ≤ j) (bldE ⟨(t, s) :: r, none⟩ e) ∧ Touch F w w' := by
  obtain ⟨w1, hw1⟩ : ∃ w1, w1 = w.alloc (.cells (evCells e).toArray 55) := ⟨_, rfl⟩
  have s1 : w1.heap.size = w.heap.size + 1 := by subst hw1; simp
  have hB1 : Below w.heap.size w w1 := by subst hw1; exact (Below.refl _ _).alloc (Nat.le_refl _) _
  have oE : Own w1 w.heap.size 55 (evCells e).toArray := by subst hw1; exact Own.fresh _ _ _
  have HW1 := Lib.hid hw1
  obtain ⟨F0, hF0⟩ : ∃ F0 : Nat → Prop, F0 = fun k => F k ∧ k < w.heap.size := ⟨_, rfl⟩
  have hFF : ∀ k, F0 k → F k ∧ k < w.heap.size := fun k hk => by rw [hF0] at hk; exact hk
  have h := h.cut
  rw [← hF0] at h
  obtain ⟨wp, vo, hown, h⟩ := h.move (w' := w1) (T := fun _ => False) (Touch.of_new hB1) (fun _ _ _ h => h)
  obtain ⟨x, xs, p, ps, S, G, wb, hwp, hO, hf⟩ : ∃ (x : V6) (xs : List V6) (p : Addr) (ps : List (Option Addr)) (S G : Nat → Prop) (wb : Nat), wp = some ⟨wb, 0, none⟩ ∧ OpenB w1 G S wb vo t s r x xs p ps ∧ FootB w1.heap.size b vo S G F0 (oA x) (oB x) := by
    rcases h with ⟨h1, _⟩ | ⟨_, _, _, _, h1, _⟩ | ⟨t', s', r', x, xs, p, ps, S, G, wb, h1, h2, h3, h4⟩
    · cases h1
    · cases h1
    · injection h1 with h1
      injection h1 with h5 h6
      injection h5 with h7 h8
      subst h6 h7 h8
      exact ⟨x, xs, p, ps, S, G, wb, h2, h3, h4⟩
  subst hwp
  clear h
  obtain ⟨pb, po, rfl, hSp, hcl, hfz⟩ := hO.ctx.cells
  have hpl := hO.ctx.len
  have hrow := hO.row
  obtain ⟨Ao, ko, rfl, hko, _, hAo⟩ := hrow.form
  obtain ⟨go, rfl, _, hgo⟩ := hAo (by simp)
  have hll : (ps ++ [some (⟨pb, po, none⟩ : Addr)]).length = r.length + 1 := by simp [hpl]
  rw [hll] at hrow hko hown hO hf
  have hptr := hrow.rd.at rfl (i := r.length) (a := some ⟨pb, po, none⟩) (by rw [← hpl]; simp) (j := 0) rfl
  simp [show ptrK.n = 1 from rfl] at hptr
  have c0 := hown.at 0
  have c1 := hown.at 1
  simp at c0 c1
  have g1 := hown.free 1
  have gf := hrow.free (r.length)
  obtain ⟨n1, hn1⟩ : ∃ n1, n1 = r.length + 1 := ⟨_, rfl⟩
  rw [← hn1] at c1 hko hrow hown hO hf
  have i1 : (n1 : Int) - 1 = (r.length : Int) := by omega
  have i2 : (0 : Int) ≤ (r.length : Int) := by omega
  have i3 : (r.length : Int) < n1 := by omega
  have i4 : (n1 : Int) ≤ 100001 := by omega
  have i5 : (r.length : Int) ≤ ko := by omega
  have i6 : (n1 : Int) ≤ ko := by omega
  have hw14 : IntKind.i64.wrap (r.length : Int) = r.length := by rw [IntKind.wrap_i64]; omega
  have hS := hf.fS pb hSp
  have hgb : go ≠ b := (hf.fo go rfl).2
  have hpg : pb ≠ go := fun e => hS.2.2.2 (by rw [e]; rfl)
  have hpb : pb ≠ b := hS.2.2.1
  have hlt := (hFF _ hS.2.1).2
  have hgl := (hFF _ (hf.fo go rfl).1).2
  -- what is left
  have FIN := Lib.hid (show BIs (((((w1.drew.setCell ⟨pb, po, none⟩ (.int .i64 e.value)).setCell ⟨pb, po + 2, none⟩ (.int .i64 e.to)).setCell ⟨pb, po + 3, none⟩ (.string ⟨e.text.toArray⟩)).setCell ⟨go, r.length, none⟩ (.pointer none)).setCell ⟨b, 1, none⟩ (.slice (some ⟨go, 0, none⟩) r.length ko)) b (fun j => F j ∨ w.heap.size ≤ j) (bldE ⟨(t, s) :: r, none⟩ e) ∧
      Touch F w (((((w1.drew.setCell ⟨pb, po, none⟩ (.int .i64 e.value)).setCell ⟨pb, po + 2, none⟩ (.int .i64 e.to)).setCell ⟨pb, po + 3, none⟩ (.string ⟨e.text.toArray⟩)).setCell ⟨go, r.length, none⟩ (.pointer none)).setCell ⟨b, 1, none⟩ (.slice (some ⟨go, 0, none⟩) r.length ko)) by
    have hSG : ∀ k, S k → ¬ G k := fun k hk hg => (hf.fG k hg).2.2.2.2 hk
    have k0 : CtxIs w1.drew G wb r s ⟨pb, po, none⟩ x ps S := CtxIs.stay (w := w1) (w' := w1.drew) (fun _ _ _ => rfl) (Nat.le_refl _) (fun _ _ h => h) _ _ _ _ _ _ hO.ctx (fun _ _ _ => rfl)
    have k1 := CtxIs.put (y := ⟨e.value, x.fr, x.to, x.tx, x.A, x.n, x.c, x.B, x.m, x.d⟩) (j := 0) (u := .int .i64 e.value) k0 hSG (by decide) rfl
    have k2 := CtxIs.put (y := ⟨e.value, x.fr, e.to, x.tx, x.A, x.n, x.c, x.B, x.m, x.d⟩) (j := 2) (u := .int .i64 e.to) k1 hSG (by decide) rfl
    have k3 := CtxIs.put (y := endX e x) (j := 3) (u := .string ⟨e.text.toArray⟩) k2 hSG (by decide) rfl
    have k3 : CtxIs (((w1.drew.setCell ⟨pb, po, none⟩ (.int .i64 e.value)).setCell ⟨pb, po + 2, none⟩ (.int .i64 e.to)).setCell ⟨pb, po + 3, none⟩ (.string ⟨e.text.toArray⟩)) G wb r s ⟨pb, po, none⟩ (endX e x) ps S := k3
    obtain ⟨w4, hw4⟩ : ∃ w4, w4 = (((w1.drew.setCell ⟨pb, po, none⟩ (.int .i64 e.value)).setCell ⟨pb, po + 2, none⟩ (.int .i64 e.to)).setCell ⟨pb, po + 3, none⟩ (.string ⟨e.text.toArray⟩)) := ⟨_, rfl⟩
    rw [← hw4] at k3 ⊢
    have z4 : w4.heap.size = w1.heap.size := by rw [hw4, set_size, set_size, set_size]; rfl
    have h4k : ∀ k, k ≠ pb → w4.heap[k]? = w1.heap[k]? := fun k hk => by
      rw [hw4, Below.heap_setCell _ _ _ _ (by exact hk), Below.heap_setCell _ _ _ _ (by exact hk), Below.heap_setCell _ _ _ _ (by exact hk)]
      rfl
    have o4 : Own w4 b 41 #[.pointer (some ⟨wb, 0, none⟩), .slice (some ⟨go, 0, none⟩) n1 ko] := (h4k b (Ne.symm hpb)).trans hown
    have r4 : GRow ptrK w4 0 (.slice (some ⟨go, 0, none⟩) n1 ko) (ps ++ [some ⟨pb, po, none⟩]) := hrow.stay (fun k hk => by
      have hk := ownBlock_is hk
      subst hk
      exact h4k _ (Ne.symm hpg))
    have r5 := GRow.put (i := r.length) (a := none) (u := .pointer none) rfl r4 (by rw [hll]; omega) rfl
    have r6 := r5.cut (k := r.length) (by rw [List.length_set, hll]; omega)
    have e6 : ((ps ++ [some (⟨pb, po, none⟩ : Addr)]).set r.length none).take r.length = ps := by
      rw [List.take_set_of_le (Nat.le_refl _), ← hpl, List.take_append_of_le_length (Nat.le_refl _), List.take_length]
    rw [e6] at r6
    have o5 : Own (w4.setCell ⟨go, r.length, none⟩ (.pointer none)) b 41 #[.pointer (some ⟨wb, 0, none⟩), .slice (some ⟨go, 0, none⟩) n1 ko] := o4.past (p := ⟨go, r.length, none⟩) (Ne.symm hgb) _
    have o6 := o5.put 1 (.slice (some ⟨go, 0, none⟩) r.length ko)
    have r7 : GRow ptrK ((w4.setCell ⟨go, r.length, none⟩ (.pointer none)).setCell ⟨b, 1, none⟩ (.slice (some ⟨go, 0, none⟩) r.length ko)) 0 (.slice (some ⟨go, 0, none⟩) r.length ko) ps := r6.stay (fun k hk => by
      have hk := ownBlock_is hk
      subst hk
      exact Below.heap_setCell _ _ _ _ hgb)
    have t6 : Touch (fun j => j = b ∨ (Value.slice (some ⟨go, 0, none⟩) n1 ko).ownBlock = some j) w4 ((w4.setCell ⟨go, r.length, none⟩ (.pointer none)).setCell ⟨b, 1, none⟩ (.slice (some ⟨go, 0, none⟩) r.length ko)) :=
      ((Touch.refl _ w4).setCell (p := ⟨go, r.length, none⟩) (.inl (.inr rfl)) _).setCell (p := ⟨b, 1, none⟩) (.inl (.inl rfl)) _
    refine ⟨?_, ?_⟩
    · refine (end_one he hown.inside hO hf rfl k3 (fun k hk hne => h4k k hne) (by omega) (by simpa using o6) r7 t6 (fun j hj => hj)).mono (fun j hj => ?_)
      rcases hj with hj | hj
      · exact .inl (hFF j hj).1
      · exact .inr (by omega)
    · have t4 : Touch F w w4 := by
        rw [hw4]
        have hFp : F pb := (hFF _ hS.2.1).1
        exact (((Touch.of_new (F := F) hB1.drew).setCell (p := ⟨pb, po, none⟩) (.inl hFp) _).setCell (p := ⟨pb, po + 2, none⟩) (.inl hFp) _).setCell (p := ⟨pb, po + 3, none⟩) (.inl hFp) _
      refine t4.trans t6 (fun j _ hj => ?_)
      rcases hj with hj | hj
      · subst hj; exact (hFF _ hf.fb).1
      · have hj := ownBlock_is hj
        subst hj
        exact (hFF _ (hf.fo _ rfl).1).1)
  obtain ⟨pb', po', epp, _, x0, _, x2, x3, _, _⟩ := hcl.six
  injection epp with ep1 ep2
  subst ep1 ep2
  have q0 := hfz po
  have q2 := hfz (po + 2)
  have q3 := hfz (po + 3)
  obtain ⟨ek, ev, ef, et, ⟨nm, sn, si⟩, tx⟩ := e
  have e1 := oE.at 1
  have e3 := oE.at 3
  have e7 := oE.at 7
  simp [evCells] at e1 e3 e7
  show Calls _ _ #[.pointer (some ⟨b, 0, none⟩), .agg #[.int .i64 ek, .int .i64 ev, .int .i64 ef, .int .i64 et, .bool nm, .string ⟨sn.toArray⟩, .int .i64 si, .string ⟨tx.toArray⟩]] _ _
  have hwe : w1 = w.alloc (.cells #[.int .i64 ek, .int .i64 ev, .int .i64 ef, .int .i64 et, .bool nm, .string ⟨sn.toArray⟩, .int .i64 si, .string ⟨tx.toArray⟩] 55) := HW1.out
  have HWE := Lib.hid hwe
  have far : ∀ (w' : World) (q : Nat) (i : Nat) (u : Value), q = pb → (w'.cell? ⟨w.heap.size, 1, none⟩ = some (.int .i64 ev) ∧ w'.cell? ⟨w.heap.size, 3, none⟩ = some (.int .i64 et) ∧ w'.cell? ⟨w.heap.size, 7, none⟩ = some (.string ⟨tx.toArray⟩)) → ((w'.setCell ⟨pb, i, none⟩ u).cell? ⟨w.heap.size, 1, none⟩ = some (.int .i64 ev) ∧ (w'.setCell ⟨pb, i, none⟩ u).cell? ⟨w.heap.size, 3, none⟩ = some (.int .i64 et) ∧ (w'.setCell ⟨pb, i, none⟩ u).cell? ⟨w.heap.size, 7, none⟩ = some (.string ⟨tx.toArray⟩)) := by
    intro w' q i u hq ⟨h1, h2, h3⟩
    have hc : ∀ j, (w'.setCell ⟨pb, i, none⟩ u).cell? ⟨w.heap.size, j, none⟩ = w'.cell? ⟨w.heap.size, j, none⟩ := fun j => World.cell?_of_block (by exact Below.heap_setCell _ _ _ _ (show w.heap.size ≠ pb by omega))
    rw [hc, hc, hc]
    exact ⟨h1, h2, h3⟩
  have hS0 : (w1.drew.cell? ⟨w.heap.size, 1, none⟩ = some (.int .i64 ev) ∧ w1.drew.cell? ⟨w.heap.size, 3, none⟩ = some (.int .i64 et) ∧ w1.drew.cell? ⟨w.heap.size, 7, none⟩ = some (.string ⟨tx.toArray⟩)) := ⟨e1, e3, e7⟩
  have hS1 := far _ pb po (.int .i64 ev) rfl hS0
  have hS2 := far _ pb (po + 2) (.int .i64 et) rfl hS1
  have hS3 := far _ pb (po + 3) (.string ⟨tx.toArray⟩) rfl hS2
  have n1b : b ≠ pb := Ne.symm hpb
  have n2b : go ≠ pb := Ne.symm hpg
  have n3b : b ≠ go := Ne.symm hgb
  clear hO hf hown hwe hFF hn1 hpl s1 hB1 oE hF0 hSp hcl hfz hrow hAo hll hgo hr9 hS hlt hgl hw1 he HW1 hpb hpg hgb hko far
  go_enter Tryd.func24, Tryd.ntmps24
  go_upto_region 1 with fail
  generalize hw : World.alloc w _ = w2'
  have e2 : w1 = w2' := by rw [HWE.out]; exact hw
  subst e2
  clear hw
  go_upto_region 3 with fail
  go_region_held3 (fun w' => w'.cell? ⟨w.heap.size, 1, none⟩ = some (.int .i64 ev) ∧ w'.cell? ⟨w.heap.size, 3, none⟩ = some (.int .i64 et) ∧ w'.cell? ⟨w.heap.size, 7, none⟩ = some (.string ⟨tx.toArray⟩))
    (first | (exact hS0) | (exact hS1) | (exact hS2) | (exact hS3)) (fail)
  all_goals
    go_wp2
    go_end0
    exact ⟨rfl, FIN.out.1, FIN.out.2⟩

end Go.Proofs.YthpkcapooeedeaaDoor
