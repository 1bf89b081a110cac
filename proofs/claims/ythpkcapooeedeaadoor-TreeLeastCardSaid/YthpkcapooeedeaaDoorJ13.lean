/- Package nest: an array or an object opens. -/
import Derived.Test.YthpkcapooeedeaaDoorJ12
namespace Go.Proofs.YthpkcapooeedeaaDoor
open Go.RowKit
set_option linter.unusedVariables false

theorem kindOf_is (o : Bool) (w : World) : Calls Tryd.prog 52 #[.bool o] w fun e w' => e = .returned (.int .i64 (if o then 5 else 4)) ∧ w' = w :=
  (kindOf_any o w).mono (by rintro e w' ⟨rfl, rfl⟩; exact ⟨rfl, rfl⟩)

section
variable {w w' : World} {b : Nat} {F G : Nat → Prop} {m y wi : Int} {l : List Bool} {lv : List Lvl} {v : Value}
set_option maxRecDepth 100000 in
set_option maxHeartbeats 4000000 in
theorem open_yes (h : NR w b F m y wi l lv) (hF : ∀ k, F k → k < w.heap.size) (t : Tok) (o : Bool) (ho : (t.kind == 4) = o) (hv : (y == 0 || y == 1 || y == 2) = true) (hm : (l.length : Int) ≠ m) (hl : l.length = lv.length) (h5 : l.length ≤ 4998) :
    Calls Tryd.prog 33 #[.pointer (some ⟨b, 0, none⟩), .agg (tokCells t).toArray] w fun e w' => ∃ v, e = .returned (.tuple #[v, .int .i64 0]) ∧ GRow evK w' w.heap.size v [⟨1, if o then 5 else 4, t.fr, 0, stL l lv, []⟩] ∧ Aft F w w' b m (if o then 4 else 2) wi (l ++ [o]) (lv ++ [⟨t.fr, 0, []⟩]) := by
  have HV := Lib.hid (fun w' (hb : Below w.heap.size w w') => valueMay_any b y w' (h.below hb).c1)
  have HD := Lib.hid (fun w' (hb : Below w.heap.size w w') => depth_any (h.below hb))
  have HC := Lib.hid (fun w' (hb : Below w.heap.size w w') => (h.below hb).c0)
  simp only [hv] at HV
  have hz : ((l.length : Int) == m) = false := by rw [beq_eq_false_iff_ne]; exact hm
  have HE := Lib.hid (fun w' (hb : Below w.heap.size w w') => (show Calls Tryd.prog 47 #[.pointer (some ⟨b, 0, none⟩), .agg #[.int .i64 1, .int .i64 (if o then 5 else 4), .int .i64 t.fr, .int .i64 0, .bool false, .string ⟨#[]⟩, .int .i64 0, .string ⟨#[]⟩]] w' (fun e' w2 => ∃ v, e' = .returned v ∧ GRow evK w2 w'.heap.size v [⟨1, if o then 5 else 4, t.fr, 0, stL l lv, []⟩] ∧ Below w'.heap.size w' w2)
    from events_any (h.below hb) hl (by omega) ⟨1, if o then 5 else 4, t.fr, 0, ⟨false, [], 0⟩, []⟩))
  obtain ⟨v, G, h, hG1, hG2⟩ := h
  have HM := Lib.hid (fun w' (hb : Below w.heap.size w w') => h.move (Touch.of_new (F := fun _ => False) hb) (fun _ _ h => h) (fun _ _ h => h))
  have HG1 := Lib.hid hG1
  have HG2 := Lib.hid hG2
  have HF := Lib.hid hF
  have HL := Lib.hid hl
  have hbF := h.inside
  obtain ⟨kd, bg, fr, to, tx⟩ := t
  have hkd : (kd == 4) = o := ho
  clear h hv hm hl hG1 hG2 hF ho
  cases o
  all_goals
    show Calls _ _ #[.pointer (some ⟨b, 0, none⟩), .agg #[.int .i64 kd, .bool bg, .int .i64 fr, .int .i64 to, .string ⟨tx.toArray⟩]] _ _
    go_enter Tryd.func33, Tryd.ntmps33
    go_wp2_with (
      go_at_call 50; refine (HV.out _ (bel1 w _)).mono ?_; rintro e w' ⟨rfl, rfl⟩
      have c0 := HC.out _ (bel1 w (.cells #[.int .i64 kd, .bool bg, .int .i64 fr, .int .i64 to, .string ⟨tx.toArray⟩] 48)))
    go_quiet ((go_at_call 51; exact Calls.quiet_of_same ((HD.out _ (bel_drew (bel1 w _) _)).mono (by rintro e w' ⟨rfl, rfl⟩; exact ⟨rfl, rfl⟩))))
    have hB1 : Below w.heap.size w ((w.alloc (.cells #[.int .i64 kd, .bool bg, .int .i64 fr, .int .i64 to, .string ⟨tx.toArray⟩] 48)).drewN nq) := bel_drew (bel1 w _) nq
    have hO1 : Own ((w.alloc (.cells #[.int .i64 kd, .bool bg, .int .i64 fr, .int .i64 to, .string ⟨tx.toArray⟩] 48)).drewN nq) w.heap.size 48 _ := Own.fresh w 48 #[.int .i64 kd, .bool bg, .int .i64 fr, .int .i64 to, .string ⟨tx.toArray⟩]
    clear c0
    generalize (w.alloc (.cells #[.int .i64 kd, .bool bg, .int .i64 fr, .int .i64 to, .string ⟨tx.toArray⟩] 48)).drewN nq = w1 at *
    have n0 := hO1.at 0
    have n2 := hO1.at 2
    simp at n0 n2
    have HB1 := Lib.hid hB1
    have HO1 := Lib.hid hO1
    clear hB1 hO1
    go_wp2
    refine wp_region_still_tail 6 (by kernel_rfl) (by kernel_rfl) ?_
    simp only [List.take_succ_cons, List.take_zero, List.drop_succ_cons, List.drop_zero]
    iterate 2 still_step
    still_call (kindOf_is _ w1.drew)
    repeat still_step
    refine wpStill_nil ?_
    change wpList _ _ _ _ _ w1.drew
    have HB2 := Lib.hid (show Below w.heap.size w w1.drew from bel_drew HB1.out 1)
    have HO2 := Lib.hid (show Own w1.drew w.heap.size 48 _ from HO1.out)
    clear n0 n2 HB1 HO1 HV HD HC
    generalize w1.drew = w2 at *
    go_wp2_with (first
      | (go_at_call 47; refine (HE.out _ HB2.out).mono ?_; rintro e w3 ⟨ve, rfl, hev, hb3⟩
         have HZ := Lib.hid HB2.out.size
         have HEV := Lib.hid hev
         have HB3 := Lib.hid (HB2.out.trans (hb3.mono HB2.out.size))
         have HO3 := Lib.hid (HO2.out.stay hb3 HO2.out.inside)
         clear hev hb3)
      | (go_at_call 53; refine (push_nest (HM.out _ HB3.out) _ (by omega)).mono ?_; rintro e w4 ⟨rfl, G', hn, ht, hd⟩
         have HT4 := Lib.hid (ht.mono (fun j _ hj => HG1.out j hj))
         have HN4 := Lib.hid hn
         have HD4 := Lib.hid (show ∀ j, G' j → F j ∨ w.heap.size ≤ j from fun j hj => by
          by_cases hjw : j < w3.heap.size
          · exact .inl (HG1.out j (hd j hjw hj))
          · have := HB3.out.size; exact .inr (by omega))
         have hO4 : Own w4 w.heap.size 48 _ := ht.own HO3.out (fun hj => by have := HF.out _ (HG1.out _ hj); omega)
         have n2 := hO4.at 2
         simp at n2
         have c5 := (StP.cells hn.stk).2.2.2
         have c1 := (StP.cells hn.stk).2.1
         have f5 := StP.free hn.stk 5
         have f1 := StP.free hn.stk 1
         clear hn ht hd hO4))
    have d5 : w4.drew.cell? ⟨b, 5, none⟩ = some v := c5
    have d2 : w4.drew.cell? ⟨w.heap.size, 2, none⟩ = some (.int .i64 fr) := n2
    have hd := bel1 w4.drew (.cells #[.int .i64 fr, .int .i64 0, .string ⟨#[]⟩] 97)
    have HT5 := Lib.hid (show Touch F w3 w4.drew from HT4.out.drewN 1)
    have HN5 := Lib.hid (show NRaw w4.drew b m y wi _ lv v G' from HN4.out.drewN 1)
    have a5 : (w4.drew.alloc (.cells #[.int .i64 fr, .int .i64 0, .string ⟨#[]⟩] 97)).cell? ⟨b, 5, none⟩ = some v := (hd.cell (p := ⟨b, 5, none⟩) HN5.out.inside).trans d5
    have a5' : (w4.alloc (.cells #[.int .i64 fr, .int .i64 0, .string ⟨#[]⟩] 97)).drew.cell? ⟨b, 5, none⟩ = some v := a5
    have ROW := Lib.hid ((HN5.out.row).stay (w' := w4.drew.alloc (.cells #[.int .i64 fr, .int .i64 0, .string ⟨#[]⟩] 97)) (fun g hg => hd.block g (HN5.out.row.low hg).2))
    have NEW := Lib.hid ((GRow.made (K := lvK) (base := 0) (l := [⟨fr, 0, []⟩]) w4.drew #[.int .i64 fr, .int .i64 0, .string ⟨#[]⟩] rfl (by simp [maxLen]) (Nat.zero_le _)).rd)
    clear c5 c1 f5 f1 n2 HT4 HN4 hd
    go_region_law (
       (refine step_row_append (KK := lvK) rfl (.tmp 41) (.tmp 45) rfl 0 v lv rfl ROW.out _ 1 1 [⟨fr, 0, []⟩] rfl NEW.out (by have := HL.out; omega) (Nat.zero_le _) ?_
        intro v1 wb row1 grown1 at1
        have hsb := HN5.out.stpgrown grown1
        have c5 := (StP.cells hsb).2.2.2
        have c1 := (StP.cells hsb).2.1
        have f5 := StP.free hsb 5
        have f1 := StP.free hsb 1
        have HG := Lib.hid grown1
        have HA := Lib.hid at1
        have HR := Lib.hid row1
        obtain ⟨A1, m1, c1', rfl⟩ := KB.row_slice row1
        clear hsb row1 grown1 at1))
    all_goals
      go_wp2
      go_ret2
      have H6 := HN5.out.grown HR.out HG.out HA.out
      have hbF2 := HG1.out b (StP.self (HM.out w (Below.refl _ _)).stk)
      have hvF : ∀ j, v.ownBlock = some j → F j ∨ w3.heap.size ≤ j := fun j hj => .inl (HG2.out j hj)
      have hT6 := ((HT5.out.alloc (.cells #[.int .i64 fr, .int .i64 0, .string ⟨#[]⟩] 97)).grown HG.out hvF).setCell (p := ⟨b, 5, none⟩) (.inl hbF2) (.slice A1 m1 c1')
      have hz1 := HZ.out
      have hz3 := HB3.out.size
      have hev := HEV.out
      have hevF : ∀ g, ve.ownBlock = some g → ¬ F g := fun g hg hFg => by
        have := (hev.low hg).1
        have := HF.out g hFg
        omega
      have hw3 : Touch F w w3 := Touch.of_new HB3.out
      have hv1 : ∀ g, (Value.slice A1 m1 c1').ownBlock = some g → F g ∨ w.heap.size ≤ g := fun g hg => by
        rcases HA.out with e | e
        · exact .inl (HG2.out g (by rw [← e]; exact hg))
        · rw [e] at hg
          injection hg with hg
          have h1 := HT5.out.size
          simp at hg
          have h2 : w4.drew.heap.size = w4.heap.size := rfl
          exact .inr (by omega)
      first
        | (have hT7 := hT6.setCell (p := ⟨b, 1, none⟩) (.inl hbF2) (.int .i64 2)
           exact ⟨ve, rfl, (hev.mono hz1).keep hT7 hevF, hw3.trans hT7 (fun _ _ h => h), ⟨_, G', H6.may 2, HD4.out, hv1⟩⟩)
        | (have hT7 := (hT6.setCell (p := ⟨b, 1, none⟩) (.inl hbF2) (.int .i64 2)).setCell (p := ⟨b, 1, none⟩) (.inl hbF2) (.int .i64 4)
           exact ⟨ve, rfl, (hev.mono hz1).keep hT7 hevF, hw3.trans hT7 (fun _ _ h => h), ⟨_, G', (H6.may 2).may 4, HD4.out, hv1⟩⟩)
end

end Go.Proofs.YthpkcapooeedeaaDoor
