/- A book that turns: a thing's left, a value; hear. -/
import Derived.Test.YtfkbmecmancgpaaBk
namespace Go.Proofs.Ytfkbmecmancgpaa
open Go.RowKit
set_option linter.unusedVariables false
section
variable {w w' : World} {b : Nat} {tag : Nat → Nat} {s : St18} {vv : Value} {mb : Nat} {pb : Nat → Nat} {uv : Nat → Value}

theorem touch_set (w : World) (g i : Nat) (u : Value) : Touch (fun k => k = g) w (w.setCell ⟨g, i, none⟩ u) := (Touch.refl (fun k => k = g) w).setCell (p := ⟨g, i, none⟩) (.inl rfl) u
theorem BkR.pb_ne (h : BkR w b tag s vv mb pb uv) {x y : Nat} {tx ty : Th18} (hx : s.opn x = some tx) (hy : s.opn y = some ty) (hne : x ≠ y) : pb x ≠ pb y := by
  intro e
  have h1 := h.tcell x tx hx
  have h2 := h.tcell y ty hy
  rw [e, h2] at h1
  omega

/-- A thing's own cells are written anew (two numbers, the same row). -/
theorem BkR.thing (h : BkR w b tag s vv mb pb uv) {u : Nat} {th th' : Th18} (hu : s.opn u = some th) (hus : th'.users = th.users)
    (ho : Own w' (pb u) 47 #[.int .i64 th'.left, .int .i64 th'.one, uv u]) (ht : Touch (fun k => k = pb u) w w') : BkR w' b tag (s.setOpn u (some th')) vv mb pb uv := by
  have hT := h.tcell u th hu
  exact {
    book := ht.own h.book (fun e => by have := h.tbook; rw [e, hT] at this; omega)
    tbook := h.tbook
    row := ht.row h.row (fun g hg e => by have := h.trow g hg; rw [e, hT] at this; omega)
    trow := h.trow
    map := by
      have : (fun x => ((s.setOpn u (some th')).opn x).map fun _ => pb x) = (fun x => (s.opn x).map fun _ => pb x) := by
        funext x
        rw [opn_setOpn]
        by_cases e : x = u
        · subst e; rw [if_pos rfl, hu]; rfl
        · rw [if_neg e]
      show Opm w' mb s.vals.length (fun x => ((s.setOpn u (some th')).opn x).map fun _ => pb x)
      rw [this]
      exact ht.opm h.map (fun e => by have := h.tmap; rw [e, hT] at this; omega)
    tmap := h.tmap
    cell := fun x t hx => by
      rw [opn_setOpn] at hx
      by_cases e : x = u
      · subst e; rw [if_pos rfl] at hx; injection hx with hx; subst hx; exact ho
      · rw [if_neg e] at hx
        exact ht.own (h.cell x t hx) (h.pb_ne hx hu e)
    tcell := fun x t hx => by
      rw [opn_setOpn] at hx
      by_cases e : x = u
      · subst e; exact hT
      · rw [if_neg e] at hx; exact h.tcell x t hx
    urow := fun x t hx => by
      rw [opn_setOpn] at hx
      by_cases e : x = u
      · subst e; rw [if_pos rfl] at hx; injection hx with hx; subst hx
        rw [hus]
        exact ht.row (h.urow x th hu) (fun g hg e => by have := h.turow x th hu g hg; rw [e, hT] at this; omega)
      · rw [if_neg e] at hx
        exact ht.row (h.urow x t hx) (fun g hg e => by have := h.turow x t hx g hg; rw [e, hT] at this; omega)
    turow := fun x t hx => by
      rw [opn_setOpn] at hx
      by_cases e : x = u
      · subst e; exact h.turow x th hu
      · rw [if_neg e] at hx; exact h.turow x t hx
    live := fun k hk => Nat.lt_of_lt_of_le (h.live k hk) ht.size }

/-- A value is written anew. -/
theorem BkR.value {g c : Nat} (h : BkR w b tag s (.slice (some ⟨g, 0, none⟩) s.vals.length c) mb pb uv) (x v : Nat) :
    BkR (w.setCell ⟨g, x, none⟩ (.int .u8 (v : Int))) b tag (s.setVal x v) (.slice (some ⟨g, 0, none⟩) s.vals.length c) mb pb uv ∧ Touch (fun k => tag k = 2) w (w.setCell ⟨g, x, none⟩ (.int .u8 (v : Int))) := by
  obtain ⟨hs, hg⟩ := h.row.stored x (.int .u8 (v : Int))
  have hT : tag g = 2 := h.trow g rfl
  have ht : Touch (fun k => k = g) w (w.setCell ⟨g, x, none⟩ (.int .u8 (v : Int))) := touch_set _ _ _ _
  have hl : (s.setVal x v).vals.length = s.vals.length := List.length_set
  refine ⟨?_, ht.mono (fun k _ e => by rw [e]; exact hT)⟩
  exact {
    book := ht.own h.book (fun e => by have := h.tbook; rw [e, hT] at this; omega)
    tbook := h.tbook
    row := by
      rw [hl]
      have : bytesV (s.setVal x v).vals = (bytesV s.vals).set x (.int .u8 (v : Int)) := by
        unfold bytesV St18.setVal
        rw [List.map_set]
      rw [this]
      exact hs
    trow := h.trow
    map := by
      rw [hl]
      exact ht.opm h.map (fun e => by have := h.tmap; rw [e, hT] at this; omega)
    tmap := h.tmap
    cell := fun y t hy => ht.own (h.cell y t hy) (fun e => by have := h.tcell y t hy; rw [e, hT] at this; omega)
    tcell := h.tcell
    urow := fun y t hy => ht.row (h.urow y t hy) (fun k hk e => by have := h.turow y t hy k hk; rw [e, hT] at this; omega)
    turow := h.turow
    live := fun k hk => Nat.lt_of_lt_of_le (h.live k hk) ht.size }

theorem BkR.addr (h : BkR w b tag s vv mb pb uv) (hn : 0 < s.vals.length) : ∃ g c, vv = .slice (some ⟨g, 0, none⟩) s.vals.length c ∧ s.vals.length ≤ c ∧ c ≤ maxLen := by
  rcases h.row.2 with ⟨_, h''⟩ | ⟨g, cap, cur, h', _, _, hc, hm, _⟩
  · omega
  · exact ⟨g, cap, h', hc, hm⟩

set_option maxHeartbeats 4000000 in
theorem hear_any (h : Bk w b tag s) (h3 : ∀ x, s.val x ≤ 2) (u v : Nat) (hu : u < s.vals.length) (hn : s.vals.length ≤ 1000) (hv : v ≤ 2)
    (ho : s.val u = 0 → ∃ th, s.opn u = some th ∧ 0 < th.left ∧ th.left ≤ 1000 ∧ th.one ≤ 2) :
    Calls Try.prog 26 #[.pointer (some ⟨b, 0, none⟩), .int .i64 u, .int .i64 v] w fun e w' =>
      e = .returned (.bool (hearS s u v).1) ∧ Bk w' b tag (hearS s u v).2 ∧ Touch (fun k => tag k = 2 ∨ tag k = 2 * u + 4) w w' := by
  have KV := Lib.hid (value_any h h3 u)
  rw [valI_nat] at KV
  by_cases hu0 : s.val u = 0
  · obtain ⟨th, hth, hl0, hl9, h1⟩ := ho hu0
    obtain ⟨vv, mb, pb, uv, h⟩ := h
    obtain ⟨g, c, rfl, hc, hm⟩ := h.addr (by omega)
    have b0 := h.book.at 0
    have b1 := h.book.at 1
    simp at b0 b1
    have hC := h.cell u th hth
    have c0 := hC.at 0
    have c1 := hC.at 1
    simp at c0 c1
    have f0 := hC.free 0
    have hT := h.tcell u th hth
    have lk := opm_look h.map (z := (u : Int)) (wf_nat (by omega))
    rw [oI_nat, hth] at lk
    replace lk : (Instr.lookup 42 (.map (some mb)) (.int .i64 u) false).run Try.prog w = .ok (.pointer (some ⟨pb u, 0, none⟩)) w := lk
    have hO1 := hC.put 0 (.int .i64 ((th.left - 1 : Nat) : Int))
    have hT1 : Touch (fun k => k = pb u) w (w.setCell ⟨pb u, 0, none⟩ (.int .i64 ((th.left - 1 : Nat) : Int))) := touch_set _ _ _ _
    have hB1 : BkR (w.setCell ⟨pb u, 0, none⟩ (.int .i64 ((th.left - 1 : Nat) : Int))) b tag (s.setOpn u (some { th with left := th.left - 1 })) _ mb pb uv := h.thing (th' := { th with left := th.left - 1 }) hth rfl hO1 hT1
    have hB2 := hB1.value u v
    have hgb : g ≠ b := fun e => by have := h.tbook; rw [← e, h.trow g rfl] at this; omega
    have hpb : pb u ≠ b := fun e => by have := h.tbook; rw [← e, hT] at this; omega
    have hgp : g ≠ pb u := fun e => by have := h.trow g rfl; rw [e, hT] at this; omega
    obtain ⟨_, gc, gf⟩ := row_cell hB1.row u hu
    have b0' := hB1.book.at 0
    simp at b0'
    have hsub : IntKind.i64.wrap ((th.left : Int) - 1) = ((th.left - 1 : Nat) : Int) := by rw [IntKind.wrap_i64]; omega
    have hw8 : IntKind.u8.wrap (v : Int) = v := by unfold IntKind.wrap; simp [IntKind.bits, IntKind.signed]; omega
    have KR : (hearS s u v) = (if v ≠ th.one ∧ 0 < th.left - 1 then (false, s.setOpn u (some { th with left := th.left - 1 })) else (true, (s.setOpn u (some { th with left := th.left - 1 })).setVal u v)) := by simp [hearS, hu0, hth]
    rw [hu0] at KV
    have HB1 := Lib.hid hB1
    have HB2 := Lib.hid hB2
    have HT1 := Lib.hid hT1
    have HTT := Lib.hid hT
    clear hB1 hB2 h hT1 hT hC hO1
    rw [KR]
    clear KR
    by_cases hc1 : v ≠ th.one ∧ 0 < th.left - 1
    · rw [if_pos hc1]
      obtain ⟨hc1, hc2⟩ := hc1
      have g1 : ((v : Int) != (th.one : Int)) = true := bne_iff_ne.2 (by omega)
      have g2 : (0 : Int) < ((th.left - 1 : Nat) : Int) := by omega
      generalize ((th.left - 1 : Nat) : Int) = l1 at *
      go_enter Try.func26, Try.ntmps26
      go_wp2_with (go_at_call 16
                   go_must (
                     refine KV.out.mono ?_
                     rintro e w3 ⟨rfl, rfl⟩))
      go_ret
      exact ⟨rfl, ⟨_, _, _, _, HB1.out⟩, HT1.out.mono (fun k _ e => .inr (by rw [e]; exact HTT.out))⟩
    · rw [if_neg hc1]
      have hr : ((v : Int) != (th.one : Int)) = false ∨ ((v : Int) != (th.one : Int)) = true ∧ ¬ (0 : Int) < ((th.left - 1 : Nat) : Int) := by
        by_cases e : v = th.one
        · exact .inl (by rw [e]; simp)
        · exact .inr ⟨bne_iff_ne.2 (by omega), by omega⟩
      have HF := Lib.hid (show Touch (fun k => tag k = 2 ∨ tag k = 2 * u + 4) w ((w.setCell ⟨pb u, 0, none⟩ (.int .i64 ((th.left - 1 : Nat) : Int))).setCell ⟨g, u, none⟩ (.int .u8 (v : Int))) from
        (HT1.out.mono (G := fun k => tag k = 2 ∨ tag k = 2 * u + 4) (fun k _ e => .inr (by rw [e]; exact HTT.out))).trans (HB2.out.2.mono (G := fun k => tag k = 2 ∨ tag k = 2 * u + 4) (fun k _ e => .inl e)) (fun _ _ h => h))
      generalize ((th.left - 1 : Nat) : Int) = l1 at *
      rcases hr with g1 | ⟨g1, g2⟩
      all_goals
        go_enter Try.func26, Try.ntmps26
        go_wp2_with (go_at_call 16
                     go_must (
                       refine KV.out.mono ?_
                       rintro e w3 ⟨rfl, rfl⟩))
        go_ret
        exact ⟨rfl, ⟨_, _, _, _, HB2.out.1⟩, HF.out⟩
  · have e : hearS s u v = (false, s) := by simp [hearS, hu0]
    rw [e]
    have hne : ((s.val u : Int) != 0) = true := bne_iff_ne.2 (by omega)
    have HB := Lib.hid h
    clear h
    go_enter Try.func26, Try.ntmps26
    go_wp2_with (go_at_call 16
                 go_must (
                   refine KV.out.mono ?_
                   rintro e w3 ⟨rfl, rfl⟩))
    go_ret
    exact ⟨rfl, HB.out, Touch.refl _ _⟩
end
end Go.Proofs.Ytfkbmecmancgpaa
