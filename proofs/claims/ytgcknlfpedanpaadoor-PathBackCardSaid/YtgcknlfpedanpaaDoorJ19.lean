/- PathPuts' walk, over what package path is proved to do. -/
import Derived.Test.YtgcknlfpedanpaaDoorRows
import Derived.Test.YtgcknlfpedanpaaDoorJ03
import Derived.Test.YtgcknlfpedanpaaDoorJ07
import Derived.Test.YtgcknlfpedanpaaDoorJ08
import Derived.Test.YtgcknlfpedanpaaDoorJ09
import Derived.Test.YtgcknlfpedanpaaDoorJ12
import Derived.Test.YtgcknlfpedanpaaDoorJ13
import Derived.Test.YtgcknlfpedanpaaDoorJ15
import Derived.Test.YtgcknlfpedanpaaDoorJ17
import Derived.Test.YtgcknlfpedanpaaDoorJ18
namespace Go.Proofs.YtgcknlfpedanpaaDoor
open Go.RowKit
set_option linter.unusedVariables false

/-- A step's cells, and what is older, stay. -/
def StpAt (W : World) (b : Nat) (nd : Bool) (nm : ByteArray) (ix : Int) (w : World) : Prop :=
  w.cell? ⟨b, 0, none⟩ = some (.bool nd) ∧ w.cell? ⟨b, 1, none⟩ = some (.string nm) ∧ w.cell? ⟨b, 2, none⟩ = some (.int .i64 ix) ∧ Below W.heap.size W w ∧ b < w.heap.size ∧ W.heap.size ≤ w.heap.size
theorem StpAt.on {W w w' : World} {b : Nat} {nd : Bool} {nm : ByteArray} {ix : Int} (h : StpAt W b nd nm ix w) (hb : Below w.heap.size w w') : StpAt W b nd nm ix w' := by
  obtain ⟨h0, h1, h2, h8, h9, h10⟩ := h
  have c : ∀ j, w'.cell? ⟨b, j, none⟩ = w.cell? ⟨b, j, none⟩ := fun j => hb.cell (p := ⟨b, j, none⟩) h9
  have hz := hb.size
  exact ⟨(c 0).trans h0, (c 1).trans h1, (c 2).trans h2, h8.trans (hb.mono h10), by omega, by omega⟩
theorem StpAt.drew {W w : World} {b : Nat} {nd : Bool} {nm : ByteArray} {ix : Int} (h : StpAt W b nd nm ix w) : StpAt W b nd nm ix w.drew := h.on ⟨rfl, rfl, rfl, Nat.le_refl _, fun _ _ => rfl⟩
theorem StpAt.below {W w : World} {b : Nat} {nd : Bool} {nm : ByteArray} {ix : Int} (h : StpAt W b nd nm ix w) : Below W.heap.size W w := h.2.2.2.1
theorem StpAt.start {W w : World} (nd : Bool) (nm : ByteArray) (ix : Int) (h : Below W.heap.size W w) : StpAt W w.heap.size nd nm ix (w.alloc (.cells #[.bool nd, .string nm, .int .i64 ix] 26)) := by
  have o := Own.fresh w 26 #[.bool nd, .string nm, .int .i64 ix]
  have hz := h.size
  have e : (w.alloc (.cells #[.bool nd, .string nm, .int .i64 ix] 26)).heap.size = w.heap.size + 1 := by simp
  exact ⟨o.at 0, o.at 1, o.at 2, h.alloc hz _, by omega, by omega⟩
/-- Where PathPuts' loop is. -/
def RelPp (W : World) (l : List Pst) (i : Value) (wr : World) : Prop := ∃ k : Nat, k ≤ l.length ∧ i = .int .i64 k ∧ Below W.heap.size W wr

set_option maxRecDepth 100000 in
set_option maxHeartbeats 8000000 in
theorem pathPuts_core {G : World → Prop} (C : PathC G) (l : List Pst) (A : Option Addr) (n c : Nat) (s : ByteArray) (W : World) (hG : G W) (hx : RdP W A n l) (hn : ∀ x ∈ l, x.name.length ≤ 140737488351232) (hs : s.size ≤ 9223372036854775807) :
    Calls Tryd.prog 3 #[.slice A n c, .string s] W fun e w' => e = .returned (.bool true) ∧ Below W.heap.size W w' := by
  have hl : l.length = n := hx.1
  have HX := Lib.hid hx
  have KV := Lib.hid (pathAlive_walk C W hG)
  have KG := Lib.hid (fun w (h : Below W.heap.size W w) => great13_any l A n c w (hx.stay h) hn)
  clear hx
  by_cases hg : 1000 < wtP l
  · rw [decide_eq_true hg] at KG
    go_enter Tryd.func3, Tryd.ntmps3
    go_wp2_with (first
      | (go_at_call 6; refine KV.out.mono ?_; rintro e w1 ⟨rfl, hb1⟩)
      | (go_at_call 7; refine (KG.out _ hb1).mono ?_; rintro e w2 ⟨rfl, hb2⟩))
    go_ret
    exact ⟨rfl, hb1.trans (hb2.mono hb1.size)⟩
  rw [decide_eq_false hg] at KG
  by_cases h9 : s.size > 1000
  · have q : (s.size : Int) > 1000 := by omega
    go_enter Tryd.func3, Tryd.ntmps3
    go_wp2_with (first
      | (go_at_call 6; refine KV.out.mono ?_; rintro e w1 ⟨rfl, hb1⟩)
      | (go_at_call 7; refine (KG.out _ hb1).mono ?_; rintro e w2 ⟨rfl, hb2⟩))
    go_ret
    exact ⟨rfl, hb1.trans (hb2.mono hb1.size)⟩
  have q : ¬ (s.size : Int) > 1000 := by omega
  go_enter Tryd.func3, Tryd.ntmps3
  go_wp2_with (first
    | (go_at_call 6; refine KV.out.mono ?_; rintro e w1 ⟨rfl, hb1⟩)
    | (go_at_call 7; refine (KG.out _ hb1).mono ?_; rintro e w2 ⟨rfl, hb2⟩))
  have hb12 := hb1.trans (hb2.mono hb1.size)
  go_loopw [18] (fun i wr => RelPp W l i wr) (fun i _ => l.length - (intOf i).toNat)
  case atStart => exact ⟨0, Nat.zero_le _, rfl, hb12⟩
  case round =>
    obtain ⟨k, hk, rfl, hb⟩ := hrel
    clear hb1 hb2 hb12
    have hk9 : (k : Int) ≤ 1000 := by have := wt_length l; omega
    by_cases hlt : k < l.length
    rotate_left
    · have hltI : ¬ (k : Int) < n := by omega
      have P1 := Lib.hid (fun w (h : Below W.heap.size W w) => C.put l A n c w (C.go hG h) (HX.out.stay h) (by omega))
      have P2 := Lib.hid (fun w (h : Below W.heap.size W w) => put13_any l A n c w (HX.out.stay h) (by omega))
      have N1 := Lib.hid (fun w => C.name s w (by omega))
      have N2 := Lib.hid (fun w => name13_any s w (by omega))
      generalize (⟨(putP l).toArray⟩ : ByteArray) = p at *
      generalize (⟨(nameT s.data.toList).toArray⟩ : ByteArray) = m at *
      have qp : (p.toList == p.toList) = true := by simp
      have qm : (m.toList == m.toList) = true := by simp
      go_wp2_with (first
        | (go_at_call 10; go_must (refine (P1.out _ hb).mono ?_; rintro e w3 ⟨rfl, hb3⟩; have hb3 := hb.trans (hb3.mono hb.size)))
        | (go_at_call 11; go_must (refine (P2.out _ hb3).mono ?_; rintro e w4 ⟨rfl, hb4⟩; have hb4 := hb3.trans (hb4.mono hb3.size)))
        | (go_at_call 12; go_must (refine (N1.out _).mono ?_; rintro e w5 ⟨rfl, hb5⟩; have hb5 := hb4.trans (hb5.mono hb4.size)))
        | (go_at_call 13; go_must (refine (N2.out _).mono ?_; rintro e w6 ⟨rfl, hb6⟩; have hb6 := hb5.trans (hb6.mono hb5.size))))
      go_ret
      exact ⟨rfl, hb6⟩
    have hltI : (k : Int) < n := by omega
    have hX2 := HX.out.stay hb
    obtain ⟨a, rfl, ha, hc⟩ := hX2.2 (by omega)
    obtain ⟨s0, s1, s2⟩ := hc k l[k] (List.getElem?_eq_getElem hlt)
    have hm := hn _ (List.getElem_mem hlt)
    have R1 := Lib.hid (fun w => C.right l[k] w (by unfold maxLen; omega))
    have R2 := Lib.hid (fun w => rright13_any l[k] w (by unfold maxLen; omega))
    unfold stpV at R1 R2
    have hS := StpAt.start l[k].named ⟨l[k].name.toArray⟩ l[k].index hb
    have hB8 : ∀ w, StpAt W wr.heap.size l[k].named ⟨l[k].name.toArray⟩ l[k].index w → Below W.heap.size W w := fun w h => h.below
    clear hc hX2 hm
    generalize l[k] = sk at *
    generalize (⟨sk.name.toArray⟩ : ByteArray) = nm at *
    generalize sk.named = nd at *
    generalize sk.index = ix at *
    generalize rightB sk = rb at *
    have qr : (rb != rb) = false := by simp
    go_wp2_with fail
    go_region_held3 (fun w' => w'.cell? ⟨wr.heap.size, 0, none⟩ = some (.bool nd) ∧ w'.cell? ⟨wr.heap.size, 1, none⟩ = some (.string nm) ∧ w'.cell? ⟨wr.heap.size, 2, none⟩ = some (.int .i64 ix) ∧ Below W.heap.size W w' ∧ wr.heap.size < w'.heap.size ∧ W.heap.size ≤ w'.heap.size)
      (first | assumption | exact StpAt.on (by assumption) (by assumption) | exact StpAt.drew (by assumption))
      (first
        | (go_at_call 8; refine (R1.out _).mono ?_; rintro e w' ⟨rfl, hb'⟩)
        | (go_at_call 9; refine (R2.out _).mono ?_; rintro e w' ⟨rfl, hb'⟩))
    all_goals
      go_wp2
      go_roundw
      case rel => exact ⟨k + 1, hlt, by go_num, hB8 _ (by assumption)⟩
      case measure => simp [intOf]; omega

end Go.Proofs.YtgcknlfpedanpaaDoor
