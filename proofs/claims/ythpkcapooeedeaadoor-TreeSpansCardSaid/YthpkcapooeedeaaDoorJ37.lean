/- The walk of TreeSpans, over what package tree is to be proved to do. -/
import Derived.Test.YthpkcapooeedeaaDoorJ36
import Derived.Deep.LoopGhost
namespace Go.Proofs.YthpkcapooeedeaaDoor
open Go.RowKit
set_option linter.unusedVariables false

theorem bel1x (w : World) (o : Obj) : Below w.heap.size w (w.alloc o) := (Below.refl _ _).alloc (Nat.le_refl _) o
theorem sub_rd {w : World} {B : Nat} {i j : Nat} {l : List UInt8} {A' : Option Addr} (h : Rd w B A' (j - i) ((byteCells l |>.drop i).take (j - i))) : Rd w B A' (j - i) (byteCells (subL l i j)) := by
  have : (byteCells l |>.drop i).take (j - i) = byteCells (subL l i j) := by unfold byteCells subL; rw [List.map_take, List.map_drop]
  rwa [this] at h

theorem spl_len (l : List UInt8) : ∀ (ts : List Tree) (i j : Nat), SpL l ts i j → ts.length = 0 ∨ i + ts.length ≤ j
  | [], _, _, _ => .inl rfl
  | .mk kd fr to tx items names :: ts, i, j, h => by
    unfold SpL SpT at h
    obtain ⟨⟨h1, h2, h3, _⟩, h4⟩ := h
    have := spl_len l ts to j h4
    simp
    omega
theorem spT_fr {l : List UInt8} {t : Tree} {i j : Nat} (h : SpT l t i j) : i ≤ t.fr ∧ t.to ≤ j ∧ t.fr < t.to ∧ t.to ≤ l.length := by
  obtain ⟨kd, fr, to, tx, items, names⟩ := t
  unfold SpT at h
  exact ⟨h.1, h.2.1, h.2.2.1, h.2.2.2.1⟩
theorem vis_to {w : World} {t : Tree} {x : V6} (h : VIs w t x) : x.to = t.to := by
  obtain ⟨kd, fr, to, tx, items, names⟩ := t
  unfold VIs at h
  exact h.2.2.1
/-- What holds at spans' loop. -/
structure AtSp (l : List UInt8) (items : List Tree) (w3 wr : World) (j k at_ : Nat) : Prop where
  le : k ≤ items.length
  sp : SpL l (items.drop k) at_ j
  bel : Below w3.heap.size w3 wr
def RelSp (l : List UInt8) (items : List Tree) (w3 : World) (j : Nat) (wr : World) (va vi : Value) : Prop :=
  ∃ k at_ : Nat, vi = .int .i64 k ∧ va = .int .i64 at_ ∧ AtSp l items w3 wr j k at_

set_option maxRecDepth 100000 in
set_option maxHeartbeats 4000000 in
theorem spans_any {T : World → Prop} (C : TreeD T) (A : Option Addr) (len cap : Nat) (l : List UInt8) (hc : len ≤ cap) (hlen : l.length = len) (h5 : len ≤ 500) : ∀ (z : Nat) (t : Tree), SizeOf.sizeOf t ≤ z → ∀ (x : V6) (i j : Nat) (w : World), VIs w t x → sizeT t ≤ 100000 → SpT l t i j → j ≤ len → i ≤ 1000 → T w → Rd w w.heap.size A len (byteCells l) →
    Calls Tryd.prog 7 #[.slice A len cap, .agg (v6Cells x).toArray, .int .i64 i, .int .i64 j] w fun e w' => e = .returned (.bool true) ∧ Below w.heap.size w w' := by
  intro z
  induction z with
  | zero => intro t ht; cases t; simp at ht
  | succ z ih =>
    intro t ht x i j w hv hz hs hj hi hT hx
    have hv' := hv
    obtain ⟨kd, fr, to, tx, items, names⟩ := t
    have KSZ := Lib.hid hz
    have KSM := Lib.hid (show ∀ k (h : k < items.length), sizeT items[k] ≤ 100000 from fun k h => by
      have h1 := sizeL_mem (List.getElem_mem h)
      have hz := hz
      unfold sizeT at hz
      omega)
    clear hz
    unfold SpT at hs
    obtain ⟨s1, s2, s3, s4, s5, s6, s7⟩ := hs
    unfold VIs at hv
    obtain ⟨v1, v2, v3, v4, v5, v6, v7, xs, v8, v9⟩ := hv
    obtain ⟨xkd, xfr, xto, xtx, xA, xn, xc, xB, xm, xd⟩ := x
    simp only at v1 v2 v3 v4 v5 v6 v7 v8 v9
    subst v1 v2 v3 v4
    have hlx := v9.len
    have hnx : xn = items.length := by rw [← v8.1, hlx]
    obtain ⟨A', e1, r1⟩ := slice_both 22 under_ok elem_ok A len cap (xfr : Int) (xto : Int) (by omega) (by omega) (by omega) hc
    obtain ⟨pp, hpp⟩ : ∃ pp, (parseP (subL l xfr xto) 50).2.2 = pp := ⟨_, rfl⟩
    have KP := Lib.hid (fun w' (hb : Below w.heap.size w w') => (show Calls Tryd.prog 6 #[.slice A' (xto - xfr) (cap - xfr), .int .i64 50] w' fun e w2 => ∃ y : V6, e = .returned (.tuple #[.agg #[.int .i64 y.kd, .int .i64 y.fr, .int .i64 y.to, .string ⟨y.tx.toArray⟩, .slice y.A y.n y.c, .slice y.B y.m y.d], .agg #[.int .i64 1, .int .i64 pp]]) ∧ VIs w2 (treeP (subL l xfr xto) 50) y ∧ Below w'.heap.size w' w2 from by
      have := C.parse A' (xto - xfr) (cap - xfr) (subL l xfr xto) 50 w' (sub_rd (by have := r1 w' _ _ ((hx.stay hb).more hb.size); simpa using this)) (by omega) (by decide) (by decide) (C.lasts _ _ hT hb)
      rw [s5, hpp] at this
      refine this.mono ?_
      rintro e w2 ⟨y, he, hv, hb2⟩
      exact ⟨y, he, hv rfl, hb2⟩))
    have KV := Lib.hid hv'
    have KX := Lib.hid v8
    have KL := Lib.hid v9
    have KS := Lib.hid s6
    have KT := Lib.hid hT
    have KR := Lib.hid hx
    have KI := Lib.hid s7
    have KZ := Lib.hid ht
    have KA := Lib.hid s5
    have i1 : ¬ (xfr : Int) < i := by omega
    have i2 : ¬ (j : Int) < xto := by omega
    have i3 : ¬ (xto : Int) ≤ xfr := by omega
    have hN := Lib.hid hnx
    have hf1 : (xfr : Int) ≤ 500 := by omega
    have hto : (xto : Int) ≤ 500 := by omega
    have hxt : (1 : Int) ≤ xto := by omega
    have hnl : (xn : Int) ≤ 1000 := by have := spl_len l items (xfr + 1) (xto - 1) s7; omega
    have KIH := Lib.hid ih
    generalize treeP (subL l xfr xto) 50 = u at *
    clear ih hv' v5 v6 v7 v8 v9 hlx hnx hT hx s7 s6 s5 r1 ht hpp
    show Calls _ _ #[.slice A len cap, .agg #[.int .i64 xkd, .int .i64 xfr, .int .i64 xto, .string ⟨xtx.toArray⟩, .slice xA xn xc, .slice xB xm xd], .int .i64 i, .int .i64 j] _ _
    go_enter Tryd.func7, Tryd.ntmps7
    go_wp2_with (first
      | (go_at_call 6
         go_must (
          refine (KP.out _ (bel1x w _)).mono ?_
          rintro e w1 ⟨⟨ykd, yfr, yto, ytx, yA, yn, yc, yB, ym, yd⟩, rfl, hv1, hb1⟩
          have hsz : (w.alloc (.cells #[.int .i64 xkd, .int .i64 xfr, .int .i64 xto, .string ⟨xtx.toArray⟩, .slice xA xn xc, .slice xB xm xd] 27)).heap.size = w.heap.size + 1 := by simp
          have hB1 : Below w.heap.size w w1 := (bel1x w _).trans (hb1.mono (by rw [hsz]; omega))
          have hO1 := (Own.fresh w 27 #[.int .i64 xkd, .int .i64 xfr, .int .i64 xto, .string ⟨xtx.toArray⟩, .slice xA xn xc, .slice xB xm xd]).stay hb1 (by rw [hsz]; omega)
          clear hsz
          have HV2 := Lib.hid (VIs.stay (bel_alloc2 (Below.refl _ w1) (.cells #[.int .i64 ykd, .int .i64 yfr, .int .i64 yto, .string ⟨ytx.toArray⟩, .slice yA yn yc, .slice yB ym yd] 27) (.cells #[.int .i64 1, .int .i64 pp] 29) (Nat.le_refl _)) _ _ hv1)
          have HB2 := Lib.hid (bel_alloc2 hB1 (.cells #[.int .i64 ykd, .int .i64 yfr, .int .i64 yto, .string ⟨ytx.toArray⟩, .slice yA yn yc, .slice yB ym yd] 27) (.cells #[.int .i64 1, .int .i64 pp] 29) hB1.size)
          have HO2 := Lib.hid (hO1.over2 (.cells #[.int .i64 ykd, .int .i64 yfr, .int .i64 yto, .string ⟨ytx.toArray⟩, .slice yA yn yc, .slice yB ym yd] 27) (.cells #[.int .i64 1, .int .i64 pp] 29))
          have q0 := HO2.out.at 0
          have q1 := HO2.out.at 1
          have q2 := HO2.out.at 2
          have q3 := HO2.out.at 3
          have q4 := HO2.out.at 4
          have q5 := HO2.out.at 5
          simp at q0 q1 q2 q3 q4 q5
          clear hv1 hb1 hB1 hO1))
      | (go_at_call 9
         go_must (
          refine (show Calls Tryd.prog 9 #[.agg #[.int .i64 xkd, .int .i64 xfr, .int .i64 xto, .string ⟨xtx.toArray⟩, .slice xA xn xc, .slice xB xm xd], .agg #[.int .i64 ykd, .int .i64 yfr, .int .i64 yto, .string ⟨ytx.toArray⟩, .slice yA yn yc, .slice yB ym yd]] ((w1.alloc (.cells #[.int .i64 ykd, .int .i64 yfr, .int .i64 yto, .string ⟨ytx.toArray⟩, .slice yA yn yc, .slice yB ym yd] 27)).alloc (.cells #[.int .i64 1, .int .i64 pp] 29)) (fun e w3 => e = .returned (.bool true) ∧ Below ((w1.alloc (.cells #[.int .i64 ykd, .int .i64 yfr, .int .i64 yto, .string ⟨ytx.toArray⟩, .slice yA yn yc, .slice yB ym yd] 27)).alloc (.cells #[.int .i64 1, .int .i64 pp] 29)).heap.size ((w1.alloc (.cells #[.int .i64 ykd, .int .i64 yfr, .int .i64 yto, .string ⟨ytx.toArray⟩, .slice yA yn yc, .slice yB ym yd] 27)).alloc (.cells #[.int .i64 1, .int .i64 pp] 29)) w3) from by
            have := C.same _ _ _ _ ((w1.alloc (.cells #[.int .i64 ykd, .int .i64 yfr, .int .i64 yto, .string ⟨ytx.toArray⟩, .slice yA yn yc, .slice yB ym yd] 27)).alloc (.cells #[.int .i64 1, .int .i64 pp] 29)) (VIs.stay HB2.out _ _ KV.out) HV2.out KSZ.out (C.lasts _ _ KT.out HB2.out)
            rwa [KS.out] at this).mono ?_
          rintro e w3 ⟨rfl, hb3⟩
          have HB3 := Lib.hid (HB2.out.trans (hb3.mono HB2.out.size))
          have hO3 := HO2.out.stay hb3 HO2.out.inside
          have r0 := hO3.at 1
          have r1 := hO3.at 4
          have r2 := hO3.at 2
          simp at r0 r1 r2
          have HO3 := Lib.hid hO3
          clear hO3 hb3 q0 q1 q2 q3 q4 q5)))
    have HR0 := Lib.hid (show RelSp l items w3 (xto - 1) w3 (.int .i64 ((xfr : Int) + 1)) (.int .i64 0) from ⟨0, xfr + 1, rfl, rfl, Nat.zero_le _, KI.out, Below.refl _ _⟩)
    go_loopw [11, 56] (fun a i wr => RelSp l items w3 (xto - 1) wr a i) (fun _ i _ => xn - (intOf i).toNat)
    case atStart => exact HR0.out
    case round =>
      obtain ⟨k, at_, rfl, rfl, h⟩ := hrel
      have hle := h.le
      have HBr := Lib.hid (HB3.out.trans (h.bel.mono HB3.out.size))
      by_cases hlt : k < items.length
      · have hsp := h.sp
        rw [List.drop_eq_getElem_cons hlt] at hsp
        unfold SpL at hsp
        obtain ⟨hs1, hs2⟩ := hsp
        obtain ⟨y1, y2, y3, y4⟩ := spT_fr hs1
        have hmem := List.sizeOf_lt_of_mem (List.getElem_mem hlt)
        obtain ⟨xk, hxk, hvk⟩ := VLs.at k items[k] KL.out (List.getElem?_eq_getElem hlt)
        have htk := vis_to hvk
        obtain ⟨ba, oa, hA, hba, _⟩ := KX.out.2 (by have := hN.out; omega)
        have hr := KX.out.below HBr.out
        have c0 := hr.at hA hxk (j := 0) rfl
        have c1 := hr.at hA hxk (j := 1) rfl
        have c2 := hr.at hA hxk (j := 2) rfl
        have c3 := hr.at hA hxk (j := 3) rfl
        have c4 := hr.at hA hxk (j := 4) rfl
        have c5 := hr.at hA hxk (j := 5) rfl
        simp only [show valK.n = 6 from rfl, Nat.add_zero, ← Nat.add_assoc] at c0 c1 c2 c3 c4 c5
        obtain ⟨zkd, zfr, zto, ztx, zA, zn, zc, zB, zm, zd⟩ := xk
        simp only at c0 c1 c2 c3 c4 c5 htk
        rw [← htk] at hs2 y2 y3 y4
        have hj1 : ((xto - 1 : Nat) : Int) = (xto : Int) - 1 := by omega
        have hw4 : Below w.heap.size w (wr.alloc (.cells #[.int .i64 zkd, .int .i64 zfr, .int .i64 zto, .string ⟨ztx.toArray⟩, .slice zA zn zc, .slice zB zm zd] 27)) := HBr.out.alloc HBr.out.size _
        have hcall := KIH.out items[k] (by have := KZ.out; simp at this; omega) ⟨zkd, zfr, zto, ztx, zA, zn, zc, zB, zm, zd⟩ at_ (xto - 1) _ (VIs.stay hw4 _ _ hvk) (KSM.out k hlt) hs1 (by omega) (by omega) (C.lasts _ _ KT.out hw4) ((KR.out.stay hw4).more hw4.size)
        rw [hj1] at hcall
        have HC := Lib.hid (show Calls Tryd.prog 7 #[.slice A len cap, .agg #[.int .i64 zkd, .int .i64 zfr, .int .i64 zto, .string ⟨ztx.toArray⟩, .slice zA zn zc, .slice zB zm zd], .int .i64 at_, .int .i64 ((xto : Int) - 1)] (wr.alloc (.cells #[.int .i64 zkd, .int .i64 zfr, .int .i64 zto, .string ⟨ztx.toArray⟩, .slice zA zn zc, .slice zB zm zd] 27)) (fun e w' => e = .returned (.bool true) ∧ Below (wr.alloc (.cells #[.int .i64 zkd, .int .i64 zfr, .int .i64 zto, .string ⟨ztx.toArray⟩, .slice zA zn zc, .slice zB zm zd] 27)).heap.size (wr.alloc (.cells #[.int .i64 zkd, .int .i64 zfr, .int .i64 zto, .string ⟨ztx.toArray⟩, .slice zA zn zc, .slice zB zm zd] 27)) w') from hcall)
        have HS := Lib.hid hs2
        have HAT := Lib.hid h
        have hO3 := HO3.out.stay h.bel HO3.out.inside
        have hO4 := hO3.over (.cells #[.int .i64 zkd, .int .i64 zfr, .int .i64 zto, .string ⟨ztx.toArray⟩, .slice zA zn zc, .slice zB zm zd] 27)
        have p2 := hO4.at 2
        simp at p2
        have hkn : (k : Int) < xn := by have := hN.out; omega
        have htb : (zto : Int) ≤ 500 := by omega
        have hk9 : (k : Int) ≤ 1000 := by omega
        have hk8 : (0 : Int) ≤ k := by omega
        have HH := Lib.hid hlt
        subst hA
        clear hs1 hs2 y1 y2 y3 y4 hmem hxk hvk htk hba hr hj1 hw4 hcall h hO3 hO4 hle hlt
        go_wp2_with (
          go_at_call 7
          go_must (
           refine HC.out.mono ?_
           rintro e w5 ⟨rfl, hb5⟩
           have hsz : (wr.alloc (.cells #[.int .i64 zkd, .int .i64 zfr, .int .i64 zto, .string ⟨ztx.toArray⟩, .slice zA zn zc, .slice zB zm zd] 27)).heap.size = wr.heap.size + 1 := by simp
           have hO5 := (Own.fresh wr 27 #[.int .i64 zkd, .int .i64 zfr, .int .i64 zto, .string ⟨ztx.toArray⟩, .slice zA zn zc, .slice zB zm zd]).stay hb5 (by rw [hsz]; omega)
           have d2 := hO5.at 2
           simp at d2
           have HB5 := Lib.hid (HAT.out.bel.trans (((bel1x wr (.cells #[.int .i64 zkd, .int .i64 zfr, .int .i64 zto, .string ⟨ztx.toArray⟩, .slice zA zn zc, .slice zB zm zd] 27)).trans (hb5.mono (by rw [hsz]; omega))).mono HAT.out.bel.size))
           clear hO5 hb5 hsz))
        go_roundw
        case rel => exact ⟨k + 1, zto, by go_num, rfl, HH.out, HS.out, HB5.out⟩
        case measure => simp [intOf]; omega
      · have hB := HB3.out.trans (h.bel.mono HB3.out.size)
        have hkn : ¬ (k : Int) < xn := by have := hN.out; omega
        have HB := Lib.hid hB
        clear hle hlt hB h
        go_wp2
        go_ret
        exact ⟨rfl, HB.out⟩

set_option maxRecDepth 100000 in
set_option maxHeartbeats 2000000 in
/-- TreeSpans, over what package tree is to be proved to do, and what holds of each value's own bytes. -/
theorem treeSpans_core {T : World → Prop} (C : TreeD T) (A : Option Addr) (len cap : Nat) (l : List UInt8) (W : World) (hT : T W) (hc : len ≤ cap) (hx : Rd W W.heap.size A len (byteCells l)) :
    Calls Tryd.prog 4 #[.slice A len cap] W fun e w' => e = .returned (.bool true) ∧ Below W.heap.size W w' := by
  have KV := Lib.hid (treeAlive_any C W hT)
  have hlen : l.length = len := by have := hx.1; rwa [byteCells_length] at this
  by_cases hl : 500 < (len : Int)
  · go_enter Tryd.func4, Tryd.ntmps4
    go_wp2_with (go_at_call 5; refine KV.out.mono ?_; rintro e w1 ⟨rfl, hb1⟩)
    go_ret
    exact ⟨rfl, hb1⟩
  · have h5 : (len : Int) ≤ 500 := by omega
    have hm := parse_spans l
    obtain ⟨kk, hkk⟩ : ∃ kk, (parseP l 50).2.1 = kk := ⟨_, rfl⟩
    obtain ⟨pp, hpp⟩ : ∃ pp, (parseP l 50).2.2 = pp := ⟨_, rfl⟩
    have KP := Lib.hid (fun w' (hb : Below W.heap.size W w') => (show Calls Tryd.prog 6 #[.slice A len cap, .int .i64 50] w' fun e w2 => ∃ y : V6, e = .returned (.tuple #[.agg #[.int .i64 y.kd, .int .i64 y.fr, .int .i64 y.to, .string ⟨y.tx.toArray⟩, .slice y.A y.n y.c, .slice y.B y.m y.d], .agg #[.int .i64 kk, .int .i64 pp]]) ∧ (kk = 1 → VIs w2 (treeP l 50) y) ∧ Below w'.heap.size w' w2 from by
      have := C.parse A len cap l 50 w' ((hx.stay hb).more hb.size) (by omega) (by decide) (by decide) (C.lasts _ _ hT hb)
      rw [hkk, hpp] at this
      exact this))
    rw [hkk] at hm
    have HM := Lib.hid hm
    have KT := Lib.hid hT
    have KR := Lib.hid hx
    have HL := Lib.hid hlen
    have HSM := Lib.hid (show kk = 1 → sizeT (treeP l 50) ≤ 100000 from fun hk => C.small l 50 (by omega) (hkk.trans hk))
    clear hm hkk hpp hx hT hl
    by_cases hk : kk = 1
    · subst hk
      have hsp := HM.out rfl
      have KS := Lib.hid (fun (y : V6) (w : World) (hb : Below W.heap.size W w) (hv : VIs w (treeP l 50) y) => spans_any C A len cap l hc HL.out (by omega) _ (treeP l 50) (Nat.le_refl _) y 0 len w hv (HSM.out rfl) (by rw [← HL.out]; exact hsp) (Nat.le_refl _) (by decide) (C.lasts _ _ KT.out hb) ((KR.out.stay hb).more hb.size))
      generalize treeP l 50 = u at *
      clear hsp HM hlen
      go_enter Tryd.func4, Tryd.ntmps4
      go_wp2_with (first
        | (go_at_call 5; refine KV.out.mono ?_; rintro e w1 ⟨rfl, hb1⟩)
        | (go_at_call 6
           go_must (
            refine (KP.out _ hb1).mono ?_
            rintro e w2 ⟨⟨ykd, yfr, yto, ytx, yA, yn, yc, yB, ym, yd⟩, rfl, hv, hb2⟩
            have hB2 := hb1.trans (hb2.mono hb1.size)
            have HB3 := Lib.hid (show Below W.heap.size W ((w2.alloc (.cells #[.int .i64 ykd, .int .i64 yfr, .int .i64 yto, .string ⟨ytx.toArray⟩, .slice yA yn yc, .slice yB ym yd] 27)).alloc (.cells #[.int .i64 1, .int .i64 pp] 29)) from bel_alloc2 hB2 _ _ hB2.size)
            have HV3 := Lib.hid (VIs.stay (show Below w2.heap.size w2 ((w2.alloc (.cells #[.int .i64 ykd, .int .i64 yfr, .int .i64 yto, .string ⟨ytx.toArray⟩, .slice yA yn yc, .slice yB ym yd] 27)).alloc (.cells #[.int .i64 1, .int .i64 pp] 29)) from bel_alloc2 (Below.refl _ w2) _ _ (Nat.le_refl _)) _ _ (hv (by trivial)))
            clear hv hb2 hB2))
        | (go_at_call 7
           go_must (
            refine (KS.out ⟨ykd, yfr, yto, ytx, yA, yn, yc, yB, ym, yd⟩ _ HB3.out HV3.out).mono ?_
            rintro e w4 ⟨rfl, hb4⟩
            have HB4 := Lib.hid (HB3.out.trans (hb4.mono HB3.out.size))
            clear hb4)))
      go_ret
      exact ⟨rfl, HB4.out⟩
    · have hkk : (kk != 1) = true := bne_iff_ne.2 hk
      clear hk HM hlen
      go_enter Tryd.func4, Tryd.ntmps4
      go_wp2_with (first
        | (go_at_call 5; refine KV.out.mono ?_; rintro e w1 ⟨rfl, hb1⟩)
        | (go_at_call 6
           go_must (
            refine (KP.out _ hb1).mono ?_
            rintro e w2 ⟨⟨ykd, yfr, yto, ytx, yA, yn, yc, yB, ym, yd⟩, rfl, hv, hb2⟩
            have hB2 := hb1.trans (hb2.mono hb1.size)
            have HB3 := Lib.hid (show Below W.heap.size W ((w2.alloc (.cells #[.int .i64 ykd, .int .i64 yfr, .int .i64 yto, .string ⟨ytx.toArray⟩, .slice yA yn yc, .slice yB ym yd] 27)).alloc (.cells #[.int .i64 kk, .int .i64 pp] 29)) from bel_alloc2 hB2 _ _ hB2.size)
            clear hv hb2 hB2)))
      go_ret
      exact ⟨rfl, HB3.out⟩

end Go.Proofs.YthpkcapooeedeaaDoor
