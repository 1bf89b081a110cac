/- A book: Set. -/
import Derived.Test.YtfkbmecmancgpaaStlB
namespace Go.Proofs.Ytfkbmecmancgpaa
open Go.RowKit
set_option linter.unusedVariables false
set_option linter.unusedSimpArgs false

set_option maxHeartbeats 4000000 in
theorem set_yes {nd : Nat → Nd18} {n : Nat} {s0 : St18} (hm : Mid18 nd n s0 [] none) (x : Nat) (yes : Bool) (hx : nd x = .var) (h0 : s0.val x = 0) (hn : n ≤ 1000) (W : World) (b : Nat) (tag : Nat → Nat) (h : Bk W b tag s0) :
    Calls Try.prog 14 #[.pointer (some ⟨b, 0, none⟩), .int .i64 x, .bool yes] W fun e w' =>
      e = .returned (.bool true) ∧ ∃ s, Bk w' b tag s ∧ Mid18 nd n s [] none ∧ Went18 nd s0 s x (if yes then 1 else 2) ∧ Touch (fun k => tag k ≠ 0) W w' := by
  have hxn := hm.nm h0
  obtain ⟨th, hth⟩ := hm.th h0
  have hl := hm.var x th hth h0 hx
  have KS := Lib.hid (fun v hv => settle_any hm x v hx h0 hv hn W b tag h)
  obtain ⟨vv, mb, pb, uv, h⟩ := h
  have b1 := h.book.at 1
  simp at b1
  have lk := opm_look h.map (z := (x : Int)) (wf_nat (by omega))
  rw [oI_nat, hth] at lk
  replace lk : (Instr.lookup 42 (.map (some mb)) (.int .i64 x) false).run Try.prog W = .ok (.pointer (some ⟨pb x, 0, none⟩)) W := lk
  have c0 := (h.cell x th hth).at 0
  rw [hl] at c0
  simp at c0
  clear h hm
  cases yes
  · have KS1 := KS.out 2 (.inr rfl)
    clear KS
    go_enter Try.func14, Try.ntmps14
    go_wp2_with (go_at_call 20
                 go_must (
                   refine KS1.mono ?_
                   rintro e w3 ⟨rfl, h3⟩
                   have H3 := Lib.hid h3
                   clear h3))
    go_ret
    exact ⟨rfl, H3.out⟩
  · have KS1 := KS.out 1 (.inl rfl)
    clear KS
    go_enter Try.func14, Try.ntmps14
    go_wp2_with (go_at_call 20
                 go_must (
                   refine KS1.mono ?_
                   rintro e w3 ⟨rfl, h3⟩
                   have H3 := Lib.hid h3
                   clear h3))
    go_ret
    exact ⟨rfl, H3.out⟩

set_option maxHeartbeats 4000000 in
theorem set_no {nd : Nat → Nd18} {n : Nat} {s0 : St18} (hm : Mid18 nd n s0 [] none) (z : Int) (hz : (Lit.int .i64 z).wf = true) (yes : Bool) (hx : ∀ x : Nat, z = x → nd x = .var → s0.val x ≠ 0) (W : World) (b : Nat) (tag : Nat → Nat) (h : Bk W b tag s0) :
    Calls Try.prog 14 #[.pointer (some ⟨b, 0, none⟩), .int .i64 z, .bool yes] W fun e w' => e = .returned (.bool false) ∧ w' = W := by
  obtain ⟨vv, mb, pb, uv, h⟩ := h
  have b1 := h.book.at 1
  simp at b1
  have lk := opm_look h.map hz
  by_cases ho : ∃ x : Nat, z = x ∧ (s0.opn x).isSome = true
  · obtain ⟨x, rfl, hs⟩ := ho
    obtain ⟨hxn, hv⟩ := (hm.opn x).1 hs
    have h0 : s0.val x = 0 := by simpa using hv
    obtain ⟨th, hth⟩ := hm.th h0
    rw [oI_nat, hth] at lk
    replace lk : (Instr.lookup 42 (.map (some mb)) (.int .i64 x) false).run Try.prog W = .ok (.pointer (some ⟨pb x, 0, none⟩)) W := lk
    have hl : 0 < th.left := by
      cases hnd : nd x with
      | fix =>
        have := hm.made.fix x hxn hnd
        rcases (show x = 0 ∨ x = 1 by omega) with rfl | rfl
        · rw [hm.no] at h0; cases h0
        · rw [hm.yes] at h0; cases h0
      | var => exact absurd h0 (hx x rfl hnd)
      | join o ds => exact (hm.left x th hth h0 o ds hnd).2.2.1
    have hlI : (0 : Int) < th.left := by omega
    have c0 := (h.cell x th hth).at 0
    simp at c0
    clear h hm hx
    go_enter Try.func14, Try.ntmps14
    go_wp2
    go_ret
    exact ⟨rfl, rfl⟩
  · have hnone : oI (fun x => (s0.opn x).map fun _ => pb x) z = none := by
      unfold oI
      split
      · rename_i h0
        cases hq : s0.opn z.toNat with
        | none =>
          show (s0.opn z.toNat).map _ = none
          rw [hq]
          rfl
        | some t => exact absurd ⟨z.toNat, by omega, by rw [hq]; rfl⟩ ho
      · rfl
    rw [hnone] at lk
    replace lk : (Instr.lookup 42 (.map (some mb)) (.int .i64 z) false).run Try.prog W = .ok (.pointer none) W := lk
    clear h hm hx
    go_enter Try.func14, Try.ntmps14
    go_wp2
    go_ret
    exact ⟨rfl, rfl⟩
end Go.Proofs.Ytfkbmecmancgpaa
