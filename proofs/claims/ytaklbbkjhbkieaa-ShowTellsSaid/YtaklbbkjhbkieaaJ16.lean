/- The statement ShowTells, walked. -/
import Derived.Test.YtaklbbkjhbkieaaRows
import Derived.Test.YtaklbbkjhbkieaaJ07
import Derived.Test.YtaklbbkjhbkieaaJ08
import Derived.Test.YtaklbbkjhbkieaaJ15
import Derived.Deep.RegionHeld3
namespace Go.Proofs.Ytaklbbkjhbkieaa
open Go.RowKit
set_option linter.unusedVariables false

theorem vis_fr {w : World} {t : Tree} {x : V6} (h : VIs w t x) : x.fr = t.fr ∧ x.to = t.to := by
  cases t
  unfold VIs at h
  exact ⟨h.2.1, h.2.2.1⟩
/-- What the last line of ShowTells reads: the value, the verdict, the value's own bytes. -/
def ShAt (W : World) (q : Nat) (x : V6) (t : Tree) (V : Value) (r : List UInt8) (w : World) : Prop :=
  w.cell? ⟨q, 0, none⟩ = some (.int .i64 x.kd) ∧ w.cell? ⟨q, 1, none⟩ = some (.int .i64 x.fr) ∧ w.cell? ⟨q, 2, none⟩ = some (.int .i64 x.to) ∧ w.cell? ⟨q, 3, none⟩ = some (.string ⟨x.tx.toArray⟩) ∧ w.cell? ⟨q, 4, none⟩ = some (.slice x.A x.n x.c) ∧ w.cell? ⟨q, 5, none⟩ = some (.slice x.B x.m x.d) ∧
  w.cell? ⟨q + 1, 0, none⟩ = some (.int .i64 1) ∧ (convert 22 9 V).run Try.prog w = .ok (.string ⟨r.toArray⟩) w ∧
  (∀ u, Below W.heap.size W u → (convert 22 9 V).run Try.prog u = .ok (.string ⟨r.toArray⟩) u) ∧ VIs w t x ∧ Below W.heap.size W w ∧ W.heap.size ≤ q ∧ q + 1 < w.heap.size
theorem ShAt.on {W w w' : World} {q : Nat} {x : V6} {t : Tree} {V : Value} {r : List UInt8} (h : ShAt W q x t V r w) (hb : Below w.heap.size w w') : ShAt W q x t V r w' := by
  obtain ⟨h0, h1, h2, h3, h4, h5, h6, h7, h8, h9, h10, h11, h12⟩ := h
  have hB := h10.trans (hb.mono h10.size)
  have c : ∀ (b i : Nat) (v : Value), b ≤ q + 1 → w.cell? ⟨b, i, none⟩ = some v → w'.cell? ⟨b, i, none⟩ = some v := fun b i v hbq hv => (hb.cell (p := ⟨b, i, none⟩) (by show b < w.heap.size; omega)).trans hv
  exact ⟨c _ _ _ (by omega) h0, c _ _ _ (by omega) h1, c _ _ _ (by omega) h2, c _ _ _ (by omega) h3, c _ _ _ (by omega) h4, c _ _ _ (by omega) h5, c _ _ _ (by omega) h6, h8 _ hB, h8, VIs.stay hb t x h9, hB, h11, Nat.lt_of_lt_of_le h12 hb.size⟩
theorem ShAt.drew {W w : World} {q : Nat} {x : V6} {t : Tree} {V : Value} {r : List UInt8} (h : ShAt W q x t V r w) : ShAt W q x t V r w.drew := h.on (Below.refl _ _).drew
theorem ShAt.below {W w : World} {q : Nat} {x : V6} {t : Tree} {V : Value} {r : List UInt8} (h : ShAt W q x t V r w) : Below W.heap.size W w := h.2.2.2.2.2.2.2.2.2.2.1
theorem ShAt.vis {W w : World} {q : Nat} {x : V6} {t : Tree} {V : Value} {r : List UInt8} (h : ShAt W q x t V r w) : VIs w t x := h.2.2.2.2.2.2.2.2.2.1

theorem conv_bytes {w : World} {B : Nat} {A : Option Addr} {n c : Nat} {l : List UInt8} (h : Rd w B A n (byteCells l)) : (convert 22 9 (.slice A n c)).run Try.prog w = .ok (.string ⟨l.toArray⟩) w := by
  rw [byteCells_nums] at h
  rw [conv_any h, strOf_nums]

set_option maxHeartbeats 8000000 in
set_option maxRecDepth 100000 in
theorem showTells_big (A : Option Addr) (len cap : Nat) (W : World) (hl : 1000 < len) (hm : len ≤ maxLen) :
    Calls Try.prog 3 #[.slice A len cap] W fun e w' => e = .returned (.bool true) ∧ Below W.heap.size W w' := by
  unfold maxLen at hm
  go_enter Try.func3, Try.ntmps3
  go_wp2_with (go_at_call 5; refine (alive11_any _).mono ?_; rintro e w1 ⟨rfl, hb1⟩; have HB := Lib.hid hb1; clear hb1)
  go_ret
  exact ⟨rfl, HB.out⟩

set_option maxHeartbeats 8000000 in
set_option maxRecDepth 100000 in
theorem showTells_no (A : Option Addr) (len cap : Nat) (l : List UInt8) (W : World) (hx : Rd W W.heap.size A len (byteCells l)) (hl : len ≤ 1000) (v : Tree) (kk : Int) (pp : Nat) (hp : ParseR l 60 = (v, kk, pp)) (hk : (kk != 1) = true) :
    Calls Try.prog 3 #[.slice A len cap] W fun e w' => e = .returned (.bool true) ∧ Below W.heap.size W w' := by
  have hll : l.length = len := by have := hx.1; rwa [byteCells_length] at this
  have HX := Lib.hid hx
  have HPA := Lib.hid (fun w => show Calls Try.prog 6 #[.string ⟨l.toArray⟩, .int .i64 60] w fun e w' => ∃ x : V6, e = .returned (.tuple #[.agg #[.int .i64 x.kd, .int .i64 x.fr, .int .i64 x.to, .string ⟨x.tx.toArray⟩, .slice x.A x.n x.c, .slice x.B x.m x.d], .agg #[.int .i64 kk, .int .i64 pp]]) ∧ VIs w' v x ∧ Below w.heap.size w w' from by
    have := rParse_any ⟨l.toArray⟩ 60 (by show l.length ≤ _; omega) (by decide) (by decide) w
    rw [show ParseR (⟨l.toArray⟩ : ByteArray).data.toList ((60 : Nat) : Int) = (v, kk, pp) from hp] at this
    exact this)
  clear hx hp hll
  go_enter Try.func3, Try.ntmps3
  go_upto_region 6 with (first
    | (go_at_call 5
       go_must (
         refine (alive11_any _).mono ?_
         rintro e w1 ⟨rfl, hb1⟩
         have cv1 := conv_bytes (c := cap) (HX.out.stay hb1)
         have HB := Lib.hid hb1
         clear hb1))
    | (go_at_call 6
       go_must (
         refine (HPA.out _).mono ?_
         rintro e w2 ⟨x, rfl, _, hb2⟩
         have o2 := (Own.fresh (w2.alloc (.cells #[.int .i64 x.kd, .int .i64 x.fr, .int .i64 x.to, .string ⟨x.tx.toArray⟩, .slice x.A x.n x.c, .slice x.B x.m x.d] 27)) 29 #[.int .i64 kk, .int .i64 pp])
         simp only [new_size] at o2
         have HB2 := Lib.hid ((HB.out.trans (hb2.mono HB.out.size)).trans ((below2 w2 (.cells #[.int .i64 x.kd, .int .i64 x.fr, .int .i64 x.to, .string ⟨x.tx.toArray⟩, .slice x.A x.n x.c, .slice x.B x.m x.d] 27) (.cells #[.int .i64 kk, .int .i64 pp] 29)).mono (HB.out.trans (hb2.mono HB.out.size)).size))
         clear hb2)))
  change Code.wp _ _ _ _ ((w2.alloc (.cells #[.int .i64 x.kd, .int .i64 x.fr, .int .i64 x.to, .string ⟨x.tx.toArray⟩, .slice x.A x.n x.c, .slice x.B x.m x.d] 27)).alloc (.cells #[.int .i64 kk, .int .i64 pp] 29))
  have h2 := HB2.out
  generalize (w2.alloc (.cells #[.int .i64 x.kd, .int .i64 x.fr, .int .i64 x.to, .string ⟨x.tx.toArray⟩, .slice x.A x.n x.c, .slice x.B x.m x.d] 27)).alloc (.cells #[.int .i64 kk, .int .i64 pp] 29) = wP at h2 o2 ⊢
  generalize w2.heap.size = q at o2 ⊢
  have hv0 := o2.at 0
  simp at hv0
  clear HB2 HB HX HPA cv1 o2
  go_quiet (fail)
  go_wp2
  go_ret
  exact ⟨rfl, below_drewN h2 _⟩

set_option maxHeartbeats 16000000 in
set_option maxRecDepth 100000 in
theorem showTells_yes (A : Option Addr) (len cap : Nat) (l : List UInt8) (W : World) (hx : Rd W W.heap.size A len (byteCells l)) (hc : len ≤ cap) (hl : len ≤ 1000) (v : Tree) (pp : Nat) (hp : ParseR l 60 = (v, 1, pp)) :
    Calls Try.prog 3 #[.slice A len cap] W fun e w' => e = .returned (.bool true) ∧ Below W.heap.size W w' := by
  have hll : l.length = len := by have := hx.1; rwa [byteCells_length] at this
  obtain ⟨ho, hcn, hh, hft, htl⟩ := parseR_ok l (by omega) 60 v pp hp
  have HX := Lib.hid hx
  have HPA := Lib.hid (fun w => show Calls Try.prog 6 #[.string ⟨l.toArray⟩, .int .i64 60] w fun e w' => ∃ x : V6, e = .returned (.tuple #[.agg #[.int .i64 x.kd, .int .i64 x.fr, .int .i64 x.to, .string ⟨x.tx.toArray⟩, .slice x.A x.n x.c, .slice x.B x.m x.d], .agg #[.int .i64 1, .int .i64 pp]]) ∧ VIs w' v x ∧ Below w.heap.size w w' from by
    have := rParse_any ⟨l.toArray⟩ 60 (by show l.length ≤ _; omega) (by decide) (by decide) w
    rw [show ParseR (⟨l.toArray⟩ : ByteArray).data.toList ((60 : Nat) : Int) = (v, 1, pp) from hp] at this
    exact this)
  obtain ⟨A', n', c', hs, hcv⟩ := part_conv (cap := cap) hx hc (v.fr : Int) (v.to : Int) (by omega) (by omega) (by omega)
  obtain ⟨r, hr⟩ : ∃ r, (l.drop (v.fr : Int).toNat).take ((v.to : Int).toNat - (v.fr : Int).toNat) = r := ⟨_, rfl⟩
  rw [hr] at hcv
  have hby : bytesI l v.fr v.to = r := by rw [← hr]; exact bytesI_good (by rw [hll]; omega)
  have KT := Lib.hid (fun (q : Nat) (x : V6) (V : Value) (w : World) (h : ShAt W q x v V r w) => text_any v x w h.vis ho (by omega) (txt_some false 0 v ho hh) (txt_small false v ho hcn))
  have KT2 := Lib.hid (fun (q : Nat) (x : V6) (V : Value) (w : World) (h : ShAt W q x v V r w) => rText_any v x w h.vis ho (txt_small false v ho hcn))
  have KL := Lib.hid (fun (q : Nat) (x : V6) (V : Value) (w : World) (h : ShAt W q x v V r w) => lines_any v x w h.vis ho (by omega) (txt_some true 0 v ho hh) (txt_small true v ho hcn))
  have KL2 := Lib.hid (fun (q : Nat) (x : V6) (V : Value) (w : World) (h : ShAt W q x v V r w) => rLine_any v x w 0 h.vis ho (by omega) (txt_small true v ho hcn))
  have KB := Lib.hid (fun (q : Nat) (x : V6) (V : Value) (w : World) (h : ShAt W q x v V r w) => show Calls Try.prog 11 #[.slice A len cap, .agg #[.int .i64 x.kd, .int .i64 x.fr, .int .i64 x.to, .string ⟨x.tx.toArray⟩, .slice x.A x.n x.c, .slice x.B x.m x.d]] w fun e w' => e = .returned (.string ⟨r.toArray⟩) ∧ Below w.heap.size w w' from by
    have := bytes_any (W := w) ((hx.stay h.below).more h.below.size) hc x.kd x.fr x.to ⟨x.tx.toArray⟩ x.A x.n x.c x.B x.m x.d
    rw [(vis_fr h.vis).1, (vis_fr h.vis).2, hby] at this
    rw [(vis_fr h.vis).1, (vis_fr h.vis).2]
    exact this)
  have HCV := Lib.hid hcv
  have hs' := hs
  have hfr0 : (0 : Int) ≤ v.fr := by omega
  generalize (⟨(showT v).toArray⟩ : ByteArray) = T1 at *
  generalize (⟨(lineT 0 v).toArray⟩ : ByteArray) = T2 at *
  have e1 : (T1.toList == T1.toList) = true := by simp
  have e2 : (T2.toList == T2.toList) = true := by simp
  have e3 : ((⟨r.toArray⟩ : ByteArray).toList == (⟨r.toArray⟩ : ByteArray).toList) = true := by simp
  clear hx hp hll hcv ho hcn hh hft htl hr hby hs
  go_enter Try.func3, Try.ntmps3
  go_upto_region 6 with (first
    | (go_at_call 5
       go_must (
         refine (alive11_any _).mono ?_
         rintro e w1 ⟨rfl, hb1⟩
         have cv1 := conv_bytes (c := cap) (HX.out.stay hb1)
         have HB := Lib.hid hb1
         clear hb1))
    | (go_at_call 6
       go_must (
         refine (HPA.out _).mono ?_
         rintro e w2 ⟨x, rfl, hv, hb2⟩
         have b4 := below2 w2 (.cells #[.int .i64 x.kd, .int .i64 x.fr, .int .i64 x.to, .string ⟨x.tx.toArray⟩, .slice x.A x.n x.c, .slice x.B x.m x.d] 27) (.cells #[.int .i64 1, .int .i64 pp] 29)
         have B2 := HB.out.trans (hb2.mono HB.out.size)
         have B4 := B2.trans (b4.mono B2.size)
         have o1 := (Own.fresh w2 27 #[.int .i64 x.kd, .int .i64 x.fr, .int .i64 x.to, .string ⟨x.tx.toArray⟩, .slice x.A x.n x.c, .slice x.B x.m x.d]).over (.cells #[.int .i64 1, .int .i64 pp] 29)
         have o2 := Own.fresh (w2.alloc (.cells #[.int .i64 x.kd, .int .i64 x.fr, .int .i64 x.to, .string ⟨x.tx.toArray⟩, .slice x.A x.n x.c, .slice x.B x.m x.d] 27)) 29 #[.int .i64 1, .int .i64 pp]
         simp only [new_size] at o2
         have hSh : ShAt W w2.heap.size x v (.slice A' n' c') r ((w2.alloc (.cells #[.int .i64 x.kd, .int .i64 x.fr, .int .i64 x.to, .string ⟨x.tx.toArray⟩, .slice x.A x.n x.c, .slice x.B x.m x.d] 27)).alloc (.cells #[.int .i64 1, .int .i64 pp] 29)) :=
           ⟨o1.at 0, o1.at 1, o1.at 2, o1.at 3, o1.at 4, o1.at 5, o2.at 0, HCV.out _ B4, HCV.out, VIs.stay b4 v x hv, B4, B2.size, o2.inside⟩
         rw [← (vis_fr hv).1, ← (vis_fr hv).2] at hs'
         have HSH := Lib.hid hSh
         clear b4 B2 B4 o1 o2 hSh hv hb2)))
  change Code.wp _ _ _ _ ((w2.alloc (.cells #[.int .i64 x.kd, .int .i64 x.fr, .int .i64 x.to, .string ⟨x.tx.toArray⟩, .slice x.A x.n x.c, .slice x.B x.m x.d] 27)).alloc (.cells #[.int .i64 1, .int .i64 pp] 29))
  have hS := HSH.out
  generalize (w2.alloc (.cells #[.int .i64 x.kd, .int .i64 x.fr, .int .i64 x.to, .string ⟨x.tx.toArray⟩, .slice x.A x.n x.c, .slice x.B x.m x.d] 27)).alloc (.cells #[.int .i64 1, .int .i64 pp] 29) = wP at hS ⊢
  generalize w2.heap.size = q at hS ⊢
  clear HSH HB HPA HX cv1 HCV
  go_region_held3 (fun w' => w'.cell? ⟨q, 0, none⟩ = some (.int .i64 x.kd) ∧ w'.cell? ⟨q, 1, none⟩ = some (.int .i64 x.fr) ∧ w'.cell? ⟨q, 2, none⟩ = some (.int .i64 x.to) ∧ w'.cell? ⟨q, 3, none⟩ = some (.string ⟨x.tx.toArray⟩) ∧ w'.cell? ⟨q, 4, none⟩ = some (.slice x.A x.n x.c) ∧ w'.cell? ⟨q, 5, none⟩ = some (.slice x.B x.m x.d) ∧
    w'.cell? ⟨q + 1, 0, none⟩ = some (.int .i64 1) ∧ (convert 22 9 (.slice A' n' c')).run Try.prog w' = .ok (.string ⟨r.toArray⟩) w' ∧
    (∀ u, Below W.heap.size W u → (convert 22 9 (.slice A' n' c')).run Try.prog u = .ok (.string ⟨r.toArray⟩) u) ∧ VIs w' v x ∧ Below W.heap.size W w' ∧ W.heap.size ≤ q ∧ q + 1 < w'.heap.size)
    (first | assumption | exact ShAt.on (by assumption) (by assumption) | exact ShAt.drew (by assumption))
    (first
      | (go_at_call 7; refine (KT.out q x (.slice A' n' c') _ (by assumption)).mono ?_; rintro e w' ⟨rfl, hb'⟩)
      | (go_at_call 8; refine (KT2.out q x (.slice A' n' c') _ (by assumption)).mono ?_; rintro e w' ⟨rfl, hb'⟩)
      | (go_at_call 9; refine (KL.out q x (.slice A' n' c') _ (by assumption)).mono ?_; rintro e w' ⟨rfl, hb'⟩)
      | (go_at_call 10; refine (KL2.out q x (.slice A' n' c') _ (by assumption)).mono ?_; rintro e w' ⟨rfl, hb'⟩)
      | (go_at_call 11; refine (KB.out q x (.slice A' n' c') _ (by assumption)).mono ?_; rintro e w' ⟨rfl, hb'⟩))
  all_goals
    go_wp2
    go_ret
    exact ⟨rfl, ShAt.below (q := q) (x := x) (t := v) (V := .slice A' n' c') (r := r) (by assumption)⟩

theorem showTells_walk (A : Option Addr) (len cap : Nat) (zs : List Int) (W : World) (h : IsRow .u8 W A len cap zs) :
    Calls Try.prog 3 #[.slice A len cap] W fun e w' => e = .returned (.bool true) ∧ Below W.heap.size W w' := by
  obtain ⟨hc, hm⟩ := row_len_cap h
  obtain ⟨l, hx⟩ := h.bytes
  by_cases hl : len ≤ 1000
  · obtain ⟨⟨v, kk, pp⟩, hp⟩ : ∃ r, ParseR l 60 = r := ⟨_, rfl⟩
    by_cases hk : kk = 1
    · subst hk
      exact showTells_yes A len cap l W hx hc hl v pp hp
    · exact showTells_no A len cap l W hx hl v kk pp hp (bne_iff_ne.2 hk)
  · exact showTells_big A len cap W (by omega) (by omega)

end Go.Proofs.Ytaklbbkjhbkieaa
