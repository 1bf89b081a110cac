/- The walks of SliceTells and SliceHangs, over what package slice is proved to do. -/
import Derived.Test.YtkianpaihdidnaaRow
import Derived.Deep.RegionHeld3
import Derived.Deep.CutRange
namespace Go.Proofs.Ytkianpaihdidnaa
open Go.RowKit
set_option linter.unusedVariables false

def idxs (l : List Nat) : List Value := l.map fun (i : Nat) => Value.int .i64 i
/-- What package slice does. -/
structure SliceC : Prop where
  place : ∀ (i m : Int) (w : World), midI i → midI m → Calls Try.prog 14 #[.int .i64 i, .int .i64 m] w fun e w' => e = .returned (.int .i64 (placeI i m)) ∧ Below w.heap.size w w'
  bounds : ∀ (s : Sel) (m : Int) (w : World), RightI s → 0 ≤ m → m ≤ 9007199254740992 → Calls Try.prog 8 #[.agg (selV s), .int .i64 m] w fun e w' => e = .returned (.tuple #[.int .i64 (lowI s m), .int .i64 (highI s m)]) ∧ Below w.heap.size w w'
  has : ∀ (s : Sel) (i m : Int) (w : World), RightI s → 0 ≤ m → m ≤ 9007199254740992 → Calls Try.prog 10 #[.agg (selV s), .int .i64 i, .int .i64 m] w fun e w' => e = .returned (.bool (hasI s i m)) ∧ Below w.heap.size w w'
  hangs : ∀ (s : Sel) (w : World), RightI s → Calls Try.prog 12 #[.agg (selV s)] w fun e w' => e = .returned (.bool (hangsI s)) ∧ Below w.heap.size w w'
  all : ∀ (s : Sel) (n : Nat) (w : World), RightI s → n ≤ 1000 → Calls Try.prog 16 #[.agg (selV s), .int .i64 n] w fun e w' => ∃ A c, e = .returned (.slice A (allI s n).length c) ∧ Rd w' w'.heap.size A (allI s n).length (idxs (allI s n)) ∧ Below w.heap.size w w'

/-- A selector's cells, and what is older, stay. -/
def SelAt (W : World) (b : Nat) (k : Int) (nm : ByteArray) (ix st en : Int) (hs he : Bool) (sd : Int) (w : World) : Prop :=
  w.cell? ⟨b, 0, none⟩ = some (.int .i64 k) ∧ w.cell? ⟨b, 1, none⟩ = some (.string nm) ∧ w.cell? ⟨b, 2, none⟩ = some (.int .i64 ix) ∧ w.cell? ⟨b, 3, none⟩ = some (.int .i64 st) ∧ w.cell? ⟨b, 4, none⟩ = some (.int .i64 en) ∧
  w.cell? ⟨b, 5, none⟩ = some (.bool hs) ∧ w.cell? ⟨b, 6, none⟩ = some (.bool he) ∧ w.cell? ⟨b, 7, none⟩ = some (.int .i64 sd) ∧ Below W.heap.size W w ∧ b < w.heap.size ∧ W.heap.size ≤ w.heap.size
theorem SelAt.on {W w w' : World} {b : Nat} {k ix st en sd : Int} {nm : ByteArray} {hs he : Bool} (h : SelAt W b k nm ix st en hs he sd w) (hb : Below w.heap.size w w') : SelAt W b k nm ix st en hs he sd w' := by
  obtain ⟨h0, h1, h2, h3, h4, h5, h6, h7, h8, h9, h10⟩ := h
  have c : ∀ j, w'.cell? ⟨b, j, none⟩ = w.cell? ⟨b, j, none⟩ := fun j => hb.cell (p := ⟨b, j, none⟩) h9
  have hz := hb.size
  exact ⟨(c 0).trans h0, (c 1).trans h1, (c 2).trans h2, (c 3).trans h3, (c 4).trans h4, (c 5).trans h5, (c 6).trans h6, (c 7).trans h7, h8.trans (hb.mono h10), by omega, by omega⟩
theorem SelAt.drew {W w : World} {b : Nat} {k ix st en sd : Int} {nm : ByteArray} {hs he : Bool} (h : SelAt W b k nm ix st en hs he sd w) : SelAt W b k nm ix st en hs he sd w.drew := h.on ⟨rfl, rfl, rfl, Nat.le_refl _, fun _ _ => rfl⟩
theorem SelAt.drewN {W w : World} {b : Nat} {k ix st en sd : Int} {nm : ByteArray} {hs he : Bool} (h : SelAt W b k nm ix st en hs he sd w) (q : Nat) : SelAt W b k nm ix st en hs he sd (w.drewN q) := h.on ⟨rfl, rfl, rfl, Nat.le_refl _, fun _ _ => rfl⟩
theorem SelAt.below {W w : World} {b : Nat} {k ix st en sd : Int} {nm : ByteArray} {hs he : Bool} (h : SelAt W b k nm ix st en hs he sd w) : Below W.heap.size W w := h.2.2.2.2.2.2.2.2.1
theorem SelAt.start {W w : World} (s : Sel) (h : Below W.heap.size W w) : SelAt W w.heap.size s.kind s.name s.index s.start s.en s.hs s.he s.stride (w.alloc (.cells (selV s) 23)) := by
  have o := Own.fresh w 23 (selV s)
  have hz := h.size
  have e : (w.alloc (.cells (selV s) 23)).heap.size = w.heap.size + 1 := by simp
  exact ⟨o.at 0, o.at 1, o.at 2, o.at 3, o.at 4, o.at 5, o.at 6, o.at 7, h.alloc hz _, by omega, by omega⟩


set_option maxRecDepth 100000 in
set_option maxHeartbeats 4000000 in
theorem sliceTells_core (C : SliceC) (hV : ∀ w : World, Calls Try.prog 6 #[] w fun e w' => e = .returned (.bool true) ∧ Below w.heap.size w w') (s : Sel) (i m : Int) (W : World) (hi : (Lit.int .i64 i).wf = true) :
    Calls Try.prog 3 #[.agg (selV s), .int .i64 i, .int .i64 m] W fun e w' => e = .returned (.bool true) ∧ Below W.heap.size W w' := by
  have KV := Lib.hid hV
  have hs0 := SelAt.start s (Below.refl W.heap.size W)
  by_cases hr : ¬ RightI s
  · have KR := Lib.hid (fun w => rright_no s w hr)
    unfold selV at *
    go_enter Try.func3, Try.ntmps3
    go_wp2_with (first
      | (go_at_call 6; refine (KV.out _).mono ?_; rintro e w1 ⟨rfl, hb1⟩; have hs1 := hs0.on hb1; obtain ⟨h0, h1, h2, h3, h4, h5, h6, h7, h8, h9, h10⟩ := hs1)
      | (go_at_call 7; refine (KR.out _).mono ?_; rintro e w2 ⟨rfl, hb2⟩))
    go_ret
    exact ⟨rfl, h8.trans (hb2.mono h10)⟩
  have hr : RightI s := Classical.not_not.1 hr
  have KR := Lib.hid (fun w => rright_yes s w hr)
  by_cases hm0 : m < 0
  · unfold selV at *
    go_enter Try.func3, Try.ntmps3
    go_wp2_with (first
      | (go_at_call 6; refine (KV.out _).mono ?_; rintro e w1 ⟨rfl, hb1⟩; have hs1 := hs0.on hb1; obtain ⟨h0, h1, h2, h3, h4, h5, h6, h7, h8, h9, h10⟩ := hs1)
      | (go_at_call 7; refine (KR.out _).mono ?_; rintro e w2 ⟨rfl, hb2⟩))
    go_ret
    exact ⟨rfl, h8.trans (hb2.mono h10)⟩
  by_cases hm9 : m > 9007199254740992
  · unfold selV at *
    go_enter Try.func3, Try.ntmps3
    go_wp2_with (first
      | (go_at_call 6; refine (KV.out _).mono ?_; rintro e w1 ⟨rfl, hb1⟩; have hs1 := hs0.on hb1; obtain ⟨h0, h1, h2, h3, h4, h5, h6, h7, h8, h9, h10⟩ := hs1)
      | (go_at_call 7; refine (KR.out _).mono ?_; rintro e w2 ⟨rfl, hb2⟩))
    go_ret
    exact ⟨rfl, h8.trans (hb2.mono h10)⟩
  have KB := Lib.hid (fun w => C.bounds s m w hr (by omega) (by omega))
  have KB2 := Lib.hid (fun w => rbounds_any s m w hr (by omega) (by omega))
  have KH := Lib.hid (fun w => C.has s i m w hr (by omega) (by omega))
  have KH2 := Lib.hid (fun w => rhas_any s i m w hr (by omega) (by omega))
  have KG := Lib.hid (fun w => C.hangs s w hr)
  have KG2 := Lib.hid (fun w => rhangs_any s w)
  have KP := Lib.hid (fun w => C.place s.index m w hr.index.mid ⟨by omega, by omega⟩)
  have KP2 := Lib.hid (fun w => rplace_any s.index m w hr.index.mid ⟨by omega, by omega⟩)
  unfold selV at *
  generalize lowI s m = lo at *
  generalize highI s m = hi2 at *
  generalize hasI s i m = hb at *
  generalize hangsI s = gb at *
  generalize placeI s.index m = pb at *
  clear hr
  have e1 : (lo == lo) = true := by simp
  have e2 : (hi2 == hi2) = true := by simp
  have e3 : (hb == hb) = true := by simp
  have e4 : (gb == gb) = true := by simp
  have e5 : (pb == pb) = true := by simp
  go_enter Try.func3, Try.ntmps3
  go_upto_region 7 with (first
    | (go_at_call 6; refine (KV.out _).mono ?_; rintro e w1 ⟨rfl, hb1⟩; have hs1 := hs0.on hb1; have HS1 := Lib.hid hs1; obtain ⟨h0, h1, h2, h3, h4, h5, h6, h7, h8, h9, h10⟩ := hs1)
    | (go_at_call 7; refine (KR.out _).mono ?_; rintro e w2 ⟨rfl, hb2⟩; clear h0 h1 h2 h3 h4 h5 h6 h7 h8 h9 h10; have hs2 := HS1.out.on hb2; have HS2 := Lib.hid hs2; obtain ⟨h0, h1, h2, h3, h4, h5, h6, h7, h8, h9, h10⟩ := hs2)
    | (go_at_call 8; refine (KB.out _).mono ?_; rintro e w3 ⟨rfl, hb3⟩; clear h0 h1 h2 h3 h4 h5 h6 h7 h8 h9 h10; have hs3 := HS2.out.on hb3; have HS3 := Lib.hid hs3; obtain ⟨h0, h1, h2, h3, h4, h5, h6, h7, h8, h9, h10⟩ := hs3)
    | (go_at_call 9; refine (KB2.out _).mono ?_; rintro e w4 ⟨rfl, hb4⟩; clear h0 h1 h2 h3 h4 h5 h6 h7 h8 h9 h10; have hs4 := HS3.out.on hb4; have HS4 := Lib.hid hs4; obtain ⟨h0, h1, h2, h3, h4, h5, h6, h7, h8, h9, h10⟩ := hs4))
  clear HS1 HS2 HS3 hb1 hb2 hb3 hb4
  have hS : SelAt W W.heap.size s.kind s.name s.index s.start s.en s.hs s.he s.stride w4 := HS4.out
  go_region_held3 (fun w' => w'.cell? ⟨W.heap.size, 0, none⟩ = some (.int .i64 s.kind) ∧ w'.cell? ⟨W.heap.size, 1, none⟩ = some (.string s.name) ∧ w'.cell? ⟨W.heap.size, 2, none⟩ = some (.int .i64 s.index) ∧ w'.cell? ⟨W.heap.size, 3, none⟩ = some (.int .i64 s.start) ∧ w'.cell? ⟨W.heap.size, 4, none⟩ = some (.int .i64 s.en) ∧ w'.cell? ⟨W.heap.size, 5, none⟩ = some (.bool s.hs) ∧ w'.cell? ⟨W.heap.size, 6, none⟩ = some (.bool s.he) ∧ w'.cell? ⟨W.heap.size, 7, none⟩ = some (.int .i64 s.stride) ∧ Below W.heap.size W w' ∧ W.heap.size < w'.heap.size ∧ W.heap.size ≤ w'.heap.size)
    (first | assumption | exact SelAt.on (by assumption) (by assumption) | exact SelAt.drew (by assumption))
    (first
      | (go_at_call 10; refine (KH.out _).mono ?_; rintro e w' ⟨rfl, hb'⟩)
      | (go_at_call 11; refine (KH2.out _).mono ?_; rintro e w' ⟨rfl, hb'⟩)
      | (go_at_call 12; refine (KG.out _).mono ?_; rintro e w' ⟨rfl, hb'⟩)
      | (go_at_call 13; refine (KG2.out _).mono ?_; rintro e w' ⟨rfl, hb'⟩)
      | (go_at_call 14; refine (KP.out _).mono ?_; rintro e w' ⟨rfl, hb'⟩)
      | (go_at_call 15; refine (KP2.out _).mono ?_; rintro e w' ⟨rfl, rfl⟩))
  all_goals
    go_wp2
    go_ret
    exact ⟨rfl, SelAt.below (b := W.heap.size) (by assumption)⟩

end Go.Proofs.Ytkianpaihdidnaa
