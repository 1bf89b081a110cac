/- Package tree: the walk of begin, within a value that is open. -/
import Derived.Test.YthpkcapooeedeaaDoorJ26
namespace Go.Proofs.YthpkcapooeedeaaDoor
open Go.RowKit
set_option linter.unusedVariables false

set_option maxRecDepth 100000 in
set_option maxHeartbeats 8000000 in
theorem begin_walk2 {w : World} {b : Nat} {F : Nat → Prop} {t : Tree} {s : Stp} {r : List (Tree × Stp)} (h : BIs w b F ⟨(t, s) :: r, none⟩) (e : Evt) (hr9 : r.length ≤ 100000) (hi9 : t.items.length ≤ 100000) (hn9 : t.names.length ≤ 100000) :
    Calls Tryd.prog 23 #[.pointer (some ⟨b, 0, none⟩), .agg (evCells e).toArray] w fun e' w' => e' = .returned (.tuple #[]) ∧ BIs w' b (fun j => F j ∨ w.heap.size ≤ j) ⟨(begunT e.value e.fr, e.step) :: (t, s) :: r, none⟩ ∧ Touch F w w' := by
  obtain ⟨ek, ev, ef, et, ⟨nm, sn, si⟩, tx⟩ := e
  obtain ⟨w1, hw1⟩ : ∃ w1, w1 = w.alloc (.cells #[.int .i64 ek, .int .i64 ev, .int .i64 ef, .int .i64 et, .bool nm, .string ⟨sn.toArray⟩, .int .i64 si, .string ⟨tx.toArray⟩] 55) := ⟨_, rfl⟩
  obtain ⟨w2, hw2⟩ : ∃ w2, w2 = w1.alloc (.cells #[.int .i64 ev, .int .i64 ef, .int .i64 0, .string ⟨#[]⟩, .slice none 0 0, .slice none 0 0] 27) := ⟨_, rfl⟩
  have s1 : w1.heap.size = w.heap.size + 1 := by subst hw1; simp
  have s2 : w2.heap.size = w.heap.size + 2 := by subst hw2; simp [s1]
  have hB2 : Below w.heap.size w w2 := by subst hw2 hw1; exact below2 _ _ _
  have hbw0 := h.has.2
  have oE : Own w2 w.heap.size 55 #[.int .i64 ek, .int .i64 ev, .int .i64 ef, .int .i64 et, .bool nm, .string ⟨sn.toArray⟩, .int .i64 si, .string ⟨tx.toArray⟩] := by
    have h1 : Own w1 w.heap.size 55 #[.int .i64 ek, .int .i64 ev, .int .i64 ef, .int .i64 et, .bool nm, .string ⟨sn.toArray⟩, .int .i64 si, .string ⟨tx.toArray⟩] := by subst hw1; exact Own.fresh _ _ _
    subst hw2; exact h1.over _
  have oV : Own w2 (w.heap.size + 1) 27 #[.int .i64 ev, .int .i64 ef, .int .i64 0, .string ⟨#[]⟩, .slice none 0 0, .slice none 0 0] := by
    have h1 : Own w2 w1.heap.size 27 #[.int .i64 ev, .int .i64 ef, .int .i64 0, .string ⟨#[]⟩, .slice none 0 0, .slice none 0 0] := by subst hw2; exact Own.fresh _ _ _
    rwa [s1] at h1
  have hE2 : HeldE w.heap.size nm sn si ev ef w2 := ⟨oE.at 4, oE.at 5, oE.at 6, oV.at 0, oV.at 1, oV.at 2, oV.at 3, oV.at 4, oV.at 5⟩
  -- the Builder in the world behind the boxes
  obtain ⟨F0, hF0⟩ : ∃ F0 : Nat → Prop, F0 = fun k => F k ∧ k < w.heap.size := ⟨_, rfl⟩
  have hFF : ∀ k, F0 k → F k ∧ k < w.heap.size := fun k hk => by rw [hF0] at hk; exact hk
  have h := h.cut
  rw [← hF0] at h
  obtain ⟨wp, vo, hown, h⟩ := h.move (w' := w2.drew) (T := fun _ => False) (Touch.of_new (hB2.drew)) (fun _ _ _ h => h)
  obtain ⟨x, xs, p, ps, S, G, wb, hwp, hO, hf⟩ : ∃ (x : V6) (xs : List V6) (p : Addr) (ps : List (Option Addr)) (S G : Nat → Prop) (wb : Nat), wp = some ⟨wb, 0, none⟩ ∧ OpenB w2.drew G S wb vo t s r x xs p ps ∧ FootB w2.drew.heap.size b vo S G F0 (oA x) (oB x) := by
    rcases h with ⟨h1, _⟩ | ⟨_, _, _, _, h1, _⟩ | ⟨t', s', r', x, xs, p, ps, S, G, wb, h1, h2, h3, h4⟩
    · cases h1
    · cases h1
    · injection h1 with h1
      injection h1 with h5 h6
      injection h5 with h7 h8
      subst h6 h7 h8
      exact ⟨x, xs, p, ps, S, G, wb, h2, h3, h4⟩
  subst hwp
  clear h
  obtain ⟨pb, po, rfl, hSp, hcl, hfz⟩ := hO.ctx.cells
  have hpl := hO.ctx.len
  have hxl := hO.top.items.len
  have hrow := hO.row
  obtain ⟨Ao, ko, rfl, hko, _, hAo⟩ := hrow.form
  obtain ⟨go, rfl, _, hgo⟩ := hAo (by simp)
  have hll : (ps ++ [some (⟨pb, po, none⟩ : Addr)]).length = r.length + 1 := by simp [hpl]
  rw [hll] at hrow hko hown hO hf
  have hptr := hrow.rd.at rfl (i := r.length) (a := some ⟨pb, po, none⟩) (by rw [← hpl]; simp) (j := 0) rfl
  simp [show ptrK.n = 1 from rfl] at hptr
  have c0 := hown.at 0
  have c1 := hown.at 1
  simp at c0 c1
  obtain ⟨n1, hn1⟩ : ∃ n1, n1 = r.length + 1 := ⟨_, rfl⟩
  rw [← hn1] at c1 hko hrow hown hO hf
  have i1 : (n1 : Int) - 1 = (r.length : Int) := by omega
  have i2 : (0 : Int) ≤ (r.length : Int) := by omega
  have i3 : (r.length : Int) < n1 := by omega
  have i4 : (n1 : Int) ≤ 100001 := by omega
  have i5 : (0 : Int) < (n1 : Int) := by omega
  have hbw := hown.inside
  -- the call
  have HC := Lib.hid (show Calls Tryd.prog 38 #[.pointer (some ⟨pb, po, none⟩), .agg #[.bool nm, .string ⟨sn.toArray⟩, .int .i64 si], .agg #[.int .i64 ev, .int .i64 ef, .int .i64 0, .string ⟨#[]⟩, .slice none 0 0, .slice none 0 0]] w2.drew fun e w' => ∃ g c B m d, e = .returned (.pointer (some ⟨g, xs.length * 6, none⟩)) ∧ Joined w2.drew w' pb po x (begunX ev ef) xs t.names ⟨nm, sn, si⟩ g c B m d from addItem_any w2.drew pb po x (begunX ev ef) xs t.names ⟨nm, sn, si⟩ hcl hfz hO.top.rowA hO.top.rowB (fun g hg e => (hO.top.offA g hg).1 (e ▸ hSp)) (fun g hg => ⟨fun e => (hO.top.offB g hg).1 (e ▸ hSp), (hO.top.offB g hg).2.2⟩) (by omega) hn9)
  have z2 : w2.drew.heap.size = w2.heap.size := rfl
  have hold : ∀ w5 : World, (∀ k, (k = b ∨ k = go ∨ (w.heap.size ≤ k ∧ k < w2.heap.size)) → w5.heap[k]? = w2.heap[k]?) → HeldE w.heap.size nm sn si ev ef w5 ∧ w5.cell? ⟨b, 1, none⟩ = some (.slice (some ⟨go, 0, none⟩) n1 ko) := fun w5 h =>
    ⟨hE2.move (h _ (.inr (.inr ⟨by omega, by omega⟩))) (h _ (.inr (.inr ⟨by omega, by omega⟩))), (World.cell?_of_block (w := w2.drew) (by exact h b (.inl rfl))).trans c1⟩
  have HELD : ∀ w5 : World, HeldE w.heap.size nm sn si ev ef w5 ∧ w5.cell? ⟨b, 1, none⟩ = some (.slice (some ⟨go, 0, none⟩) n1 ko) → w5.cell? ⟨w.heap.size, 4, none⟩ = some (.bool nm) ∧ w5.cell? ⟨w.heap.size, 5, none⟩ = some (.string ⟨sn.toArray⟩) ∧ w5.cell? ⟨w.heap.size, 6, none⟩ = some (.int .i64 si) ∧ w5.cell? ⟨w.heap.size + 1, 0, none⟩ = some (.int .i64 ev) ∧ w5.cell? ⟨w.heap.size + 1, 1, none⟩ = some (.int .i64 ef) ∧ w5.cell? ⟨w.heap.size + 1, 2, none⟩ = some (.int .i64 0) ∧ w5.cell? ⟨w.heap.size + 1, 3, none⟩ = some (.string ⟨#[]⟩) ∧ w5.cell? ⟨w.heap.size + 1, 4, none⟩ = some (.slice none 0 0) ∧ w5.cell? ⟨w.heap.size + 1, 5, none⟩ = some (.slice none 0 0) ∧ w5.cell? ⟨b, 1, none⟩ = some (.slice (some ⟨go, 0, none⟩) n1 ko) := fun w5 h => by
    obtain ⟨⟨h0, h1, h2, h3, h4, h5, h6, h7, h8⟩, h9⟩ := h
    exact ⟨h0, h1, h2, h3, h4, h5, h6, h7, h8, h9⟩
  have HT := Lib.hid (show ∀ w5, Touch (fun k => k = pb ∨ oA x = some k ∨ oB x = some k) w2.drew w5 → GRow ptrK w5 0 (.slice (some ⟨go, 0, none⟩) n1 ko) (ps ++ [some ⟨pb, po, none⟩]) ∧ (w5.cell? ⟨w.heap.size, 4, none⟩ = some (.bool nm) ∧ w5.cell? ⟨w.heap.size, 5, none⟩ = some (.string ⟨sn.toArray⟩) ∧ w5.cell? ⟨w.heap.size, 6, none⟩ = some (.int .i64 si) ∧ w5.cell? ⟨w.heap.size + 1, 0, none⟩ = some (.int .i64 ev) ∧ w5.cell? ⟨w.heap.size + 1, 1, none⟩ = some (.int .i64 ef) ∧ w5.cell? ⟨w.heap.size + 1, 2, none⟩ = some (.int .i64 0) ∧ w5.cell? ⟨w.heap.size + 1, 3, none⟩ = some (.string ⟨#[]⟩) ∧ w5.cell? ⟨w.heap.size + 1, 4, none⟩ = some (.slice none 0 0) ∧ w5.cell? ⟨w.heap.size + 1, 5, none⟩ = some (.slice none 0 0) ∧ w5.cell? ⟨b, 1, none⟩ = some (.slice (some ⟨go, 0, none⟩) n1 ko)) ∧ ∀ w6, Below w5.heap.size w5 w6 → w6.cell? ⟨w.heap.size, 4, none⟩ = some (.bool nm) ∧ w6.cell? ⟨w.heap.size, 5, none⟩ = some (.string ⟨sn.toArray⟩) ∧ w6.cell? ⟨w.heap.size, 6, none⟩ = some (.int .i64 si) ∧ w6.cell? ⟨w.heap.size + 1, 0, none⟩ = some (.int .i64 ev) ∧ w6.cell? ⟨w.heap.size + 1, 1, none⟩ = some (.int .i64 ef) ∧ w6.cell? ⟨w.heap.size + 1, 2, none⟩ = some (.int .i64 0) ∧ w6.cell? ⟨w.heap.size + 1, 3, none⟩ = some (.string ⟨#[]⟩) ∧ w6.cell? ⟨w.heap.size + 1, 4, none⟩ = some (.slice none 0 0) ∧ w6.cell? ⟨w.heap.size + 1, 5, none⟩ = some (.slice none 0 0) ∧ w6.cell? ⟨b, 1, none⟩ = some (.slice (some ⟨go, 0, none⟩) n1 ko) by
    intro w5 ht
    have hS := hf.fS pb hSp
    have hlt : ∀ k, (k = pb ∨ oA x = some k ∨ oB x = some k) → k < w.heap.size ∧ k ≠ b ∧ k ≠ go := fun k h => by
      rcases h with h | h | h
      · subst h; exact ⟨(hFF _ hS.2.1).2, hS.2.2.1, fun e => hS.2.2.2 (by rw [e]; rfl)⟩
      · have := hf.fA k h; exact ⟨(hFF _ this.1).2, this.2.1, fun e => this.2.2 (by rw [e]; rfl)⟩
      · have := hf.fB k h; exact ⟨(hFF _ this.1).2, this.2.1, fun e => this.2.2 (by rw [e]; rfl)⟩
    have all : ∀ k, (k = b ∨ k = go ∨ (w.heap.size ≤ k ∧ k < w2.heap.size)) → w5.heap[k]? = w2.heap[k]? ∧ k < w5.heap.size := fun k h => by
      have hk : k < w2.drew.heap.size := by
        rcases h with h | h | h
        · subst h; exact hbw
        · subst h; exact hgo
        · exact h.2
      refine ⟨ht.block k hk (fun h' => ?_), Nat.lt_of_lt_of_le hk ht.size⟩
      have := hlt k h'
      rcases h with h | h | h
      · exact this.2.1 h
      · exact this.2.2 h
      · omega
    refine ⟨hrow.stay (fun k hk => ?_), HELD w5 (hold w5 (fun k h => (all k h).1)), fun w6 h6 => HELD w6 (hold w6 (fun k h => (h6.block k (all k h).2).trans (all k h).1))⟩
    have hk := ownBlock_is hk
    subst hk
    exact (all _ (.inr (.inl rfl))).1)
  have HT9 := Lib.hid (show ∀ w5, Touch (fun k => k = pb ∨ oA x = some k ∨ oB x = some k) w2.drew w5 → ∀ w9, ∀ {wd : World}, wd.grownBy w9 (Value.slice (some ⟨go, 0, none⟩) n1 ko).ownBlock → Below w5.heap.size w5 wd → w9.cell? ⟨b, 1, none⟩ = some (.slice (some ⟨go, 0, none⟩) n1 ko) → w9.cell? ⟨w.heap.size, 4, none⟩ = some (.bool nm) ∧ w9.cell? ⟨w.heap.size, 5, none⟩ = some (.string ⟨sn.toArray⟩) ∧ w9.cell? ⟨w.heap.size, 6, none⟩ = some (.int .i64 si) ∧ w9.cell? ⟨w.heap.size + 1, 0, none⟩ = some (.int .i64 ev) ∧ w9.cell? ⟨w.heap.size + 1, 1, none⟩ = some (.int .i64 ef) ∧ w9.cell? ⟨w.heap.size + 1, 2, none⟩ = some (.int .i64 0) ∧ w9.cell? ⟨w.heap.size + 1, 3, none⟩ = some (.string ⟨#[]⟩) ∧ w9.cell? ⟨w.heap.size + 1, 4, none⟩ = some (.slice none 0 0) ∧ w9.cell? ⟨w.heap.size + 1, 5, none⟩ = some (.slice none 0 0) ∧ w9.cell? ⟨b, 1, none⟩ = some (.slice (some ⟨go, 0, none⟩) n1 ko) by
    intro w5 ht w9 wd hg hd y1
    have hS := hf.fS pb hSp
    have hgo' := (hFF _ (hf.fo go rfl).1).2
    have hlt : ∀ k, (k = pb ∨ oA x = some k ∨ oB x = some k) → k < w.heap.size := fun k h => by
      rcases h with h | h | h
      · subst h; exact (hFF _ hS.2.1).2
      · exact (hFF _ (hf.fA k h).1).2
      · exact (hFF _ (hf.fB k h).1).2
    have z5 : w2.heap.size ≤ w5.heap.size := ht.size
    have zd := hd.size
    have all : ∀ k, w.heap.size ≤ k → k < w2.heap.size → w9.heap[k]? = w2.heap[k]? := fun k h1 h2 => by
      rw [hg.block k (by omega) (fun e => by have := ownBlock_is e.symm; omega), hd.block k (by omega)]
      exact ht.block k h2 (fun h => by have := hlt k h; omega)
    exact HELD w9 ⟨hE2.move (all _ (by omega) (by omega)) (all _ (by omega) (by omega)), y1⟩)
  have HS := Lib.hid (HELD w2.drew (hold w2.drew (fun _ _ => rfl)))
  have hE2' := hE2
  unfold HeldE at hE2'
  obtain ⟨h0, h1, h2, h3, h4, h5, h6, h7, h8⟩ := hE2'
  have hO' := Lib.hid hO
  have hf' := Lib.hid hf
  have HOWN := Lib.hid hown
  have HE2 := Lib.hid hE2
  have HW1 := Lib.hid hw1
  have HW2 := Lib.hid hw2
  have HBW := Lib.hid hbw
  have HFF := Lib.hid hFF
  have HTW := Lib.hid (show Touch F0 w w2.drew from Touch.of_new hB2.drew)
  have HN1 := Lib.hid hn1
  have HPL := Lib.hid hpl
  have S2 := Lib.hid s2
  show Calls _ _ #[.pointer (some ⟨b, 0, none⟩), .agg #[.int .i64 ek, .int .i64 ev, .int .i64 ef, .int .i64 et, .bool nm, .string ⟨sn.toArray⟩, .int .i64 si, .string ⟨tx.toArray⟩]] _ _
  have x0 : w2.cell? ⟨b, 0, none⟩ = some (.pointer (some ⟨wb, 0, none⟩)) := c0
  have x1 : w2.cell? ⟨b, 1, none⟩ = some (.slice (some ⟨go, 0, none⟩) n1 ko) := c1
  have x2 : w2.cell? ⟨go, r.length, none⟩ = some (.pointer (some ⟨pb, po, none⟩)) := hptr
  clear hO hf hown hE2 hw1 hw2 hbw hFF hn1 hpl s1 s2 hB2 hbw0 oE oV hF0 hSp hcl hfz hxl hrow hAo hll hptr c0 c1 hgo z2 hr9 hi9 hn9 hold HELD
  go_enter Tryd.func23, Tryd.ntmps23
  go_upto_region 2 with fail
  generalize hw : World.alloc (World.alloc w _) _ = w2'
  have e2 : w2 = w2' := by rw [HW2.out, HW1.out]; exact hw
  subst e2
  clear hw
  go_upto_region 6 with fail
  have hS2 := HS.out
  have n9 : (r.length : Int) ≤ 100000 := by omega
  have hw14 : IntKind.i64.wrap (r.length : Int) = r.length := by rw [IntKind.wrap_i64]; omega
  -- BEGIN
  refine til_region (z := 25) (S := (fun w' => w'.cell? ⟨w.heap.size, 4, none⟩ = some (.bool nm) ∧ w'.cell? ⟨w.heap.size, 5, none⟩ = some (.string ⟨sn.toArray⟩) ∧ w'.cell? ⟨w.heap.size, 6, none⟩ = some (.int .i64 si) ∧ w'.cell? ⟨w.heap.size + 1, 0, none⟩ = some (.int .i64 ev) ∧ w'.cell? ⟨w.heap.size + 1, 1, none⟩ = some (.int .i64 ef) ∧ w'.cell? ⟨w.heap.size + 1, 2, none⟩ = some (.int .i64 0) ∧ w'.cell? ⟨w.heap.size + 1, 3, none⟩ = some (.string ⟨#[]⟩) ∧ w'.cell? ⟨w.heap.size + 1, 4, none⟩ = some (.slice none 0 0) ∧ w'.cell? ⟨w.heap.size + 1, 5, none⟩ = some (.slice none 0 0) ∧ w'.cell? ⟨b, 1, none⟩ = some (.slice (some ⟨go, 0, none⟩) n1 ko))) (by kernel_rfl) hS2 (fun hHeld => ?_)
  refine til_take (i := 0) (d := 39) (v := .pointer (some ⟨b, 0, none⟩)) rfl rfl (by kernel_rfl) (by kernel_rfl) (by kernel_rfl) (by kernel_rfl) (by kernel_rfl) (fun _ _ _ h => h) (Or.inl ⟨by rfl, ?_⟩) hHeld ?_
  · intro w hSw
    (try dsimp only at hSw)
    go_simp
  (try dsimp only)
  (try simp only [Act.put, List.setIfInBounds_toArray, List.set_cons_zero, List.set_cons_succ])
  refine til_take (i := 1) (d := 40) (v := .pointer (some ⟨b, 0, none⟩)) rfl rfl (by kernel_rfl) (by kernel_rfl) (by kernel_rfl) (by kernel_rfl) (by kernel_rfl) (fun _ _ _ h => h) (Or.inl ⟨by rfl, ?_⟩) hHeld ?_
  · intro w hSw
    (try dsimp only at hSw)
    go_simp
  (try dsimp only)
  (try simp only [Act.put, List.setIfInBounds_toArray, List.set_cons_zero, List.set_cons_succ])
  refine til_take (i := 2) (d := 41) (v := .pointer (some ⟨b, 0, none⟩)) rfl rfl (by kernel_rfl) (by kernel_rfl) (by kernel_rfl) (by kernel_rfl) (by kernel_rfl) (fun _ _ _ h => h) (Or.inl ⟨by rfl, ?_⟩) hHeld ?_
  · intro w hSw
    (try dsimp only at hSw)
    go_simp
  (try dsimp only)
  (try simp only [Act.put, List.setIfInBounds_toArray, List.set_cons_zero, List.set_cons_succ])
  refine til_take (i := 3) (d := 42) (v := .pointer (some ⟨b, 1, none⟩)) rfl rfl (by kernel_rfl) (by kernel_rfl) (by kernel_rfl) (by kernel_rfl) (by kernel_rfl) (fun _ _ _ h => h) (Or.inl ⟨by rfl, ?_⟩) hHeld ?_
  · intro w hSw
    (try dsimp only at hSw)
    go_simp
  (try dsimp only)
  (try simp only [Act.put, List.setIfInBounds_toArray, List.set_cons_zero, List.set_cons_succ])
  refine til_take (i := 4) (d := 43) (v := .slice (some ⟨go, 0, none⟩) n1 ko) rfl rfl (by kernel_rfl) (by kernel_rfl) (by kernel_rfl) (by kernel_rfl) (by kernel_rfl) (fun _ _ _ h => h) (Or.inl ⟨by rfl, ?_⟩) hHeld ?_
  · intro w hSw
    (try dsimp only at hSw)
    go_simp
  (try dsimp only)
  (try simp only [Act.put, List.setIfInBounds_toArray, List.set_cons_zero, List.set_cons_succ])
  refine til_take (i := 5) (d := 44) (v := .pointer (some ⟨b, 0, none⟩)) rfl rfl (by kernel_rfl) (by kernel_rfl) (by kernel_rfl) (by kernel_rfl) (by kernel_rfl) (fun _ _ _ h => h) (Or.inl ⟨by rfl, ?_⟩) hHeld ?_
  · intro w hSw
    (try dsimp only at hSw)
    go_simp
  (try dsimp only)
  (try simp only [Act.put, List.setIfInBounds_toArray, List.set_cons_zero, List.set_cons_succ])
  refine til_take (i := 6) (d := 45) (v := .pointer (some ⟨b, 0, none⟩)) rfl rfl (by kernel_rfl) (by kernel_rfl) (by kernel_rfl) (by kernel_rfl) (by kernel_rfl) (fun _ _ _ h => h) (Or.inl ⟨by rfl, ?_⟩) hHeld ?_
  · intro w hSw
    (try dsimp only at hSw)
    go_simp
  (try dsimp only)
  (try simp only [Act.put, List.setIfInBounds_toArray, List.set_cons_zero, List.set_cons_succ])
  refine til_take (i := 7) (d := 46) (v := .pointer (some ⟨b, 1, none⟩)) rfl rfl (by kernel_rfl) (by kernel_rfl) (by kernel_rfl) (by kernel_rfl) (by kernel_rfl) (fun _ _ _ h => h) (Or.inl ⟨by rfl, ?_⟩) hHeld ?_
  · intro w hSw
    (try dsimp only at hSw)
    go_simp
  (try dsimp only)
  (try simp only [Act.put, List.setIfInBounds_toArray, List.set_cons_zero, List.set_cons_succ])
  refine til_take (i := 8) (d := 47) (v := .slice (some ⟨go, 0, none⟩) n1 ko) rfl rfl (by kernel_rfl) (by kernel_rfl) (by kernel_rfl) (by kernel_rfl) (by kernel_rfl) (fun _ _ _ h => h) (Or.inl ⟨by rfl, ?_⟩) hHeld ?_
  · intro w hSw
    (try dsimp only at hSw)
    go_simp
  (try dsimp only)
  (try simp only [Act.put, List.setIfInBounds_toArray, List.set_cons_zero, List.set_cons_succ])
  refine til_take (i := 9) (d := 48) (v := .pointer (some ⟨b, 0, none⟩)) rfl rfl (by kernel_rfl) (by kernel_rfl) (by kernel_rfl) (by kernel_rfl) (by kernel_rfl) (fun _ _ _ h => h) (Or.inl ⟨by rfl, ?_⟩) hHeld ?_
  · intro w hSw
    (try dsimp only at hSw)
    go_simp
  (try dsimp only)
  (try simp only [Act.put, List.setIfInBounds_toArray, List.set_cons_zero, List.set_cons_succ])
  refine til_take (i := 10) (d := 49) (v := .pointer (some ⟨b, 0, none⟩)) rfl rfl (by kernel_rfl) (by kernel_rfl) (by kernel_rfl) (by kernel_rfl) (by kernel_rfl) (fun _ _ _ h => h) (Or.inl ⟨by rfl, ?_⟩) hHeld ?_
  · intro w hSw
    (try dsimp only at hSw)
    go_simp
  (try dsimp only)
  (try simp only [Act.put, List.setIfInBounds_toArray, List.set_cons_zero, List.set_cons_succ])
  refine til_take (i := 11) (d := 50) (v := .pointer (some ⟨b, 1, none⟩)) rfl rfl (by kernel_rfl) (by kernel_rfl) (by kernel_rfl) (by kernel_rfl) (by kernel_rfl) (fun _ _ _ h => h) (Or.inl ⟨by rfl, ?_⟩) hHeld ?_
  · intro w hSw
    (try dsimp only at hSw)
    go_simp
  (try dsimp only)
  (try simp only [Act.put, List.setIfInBounds_toArray, List.set_cons_zero, List.set_cons_succ])
  refine til_take (i := 12) (d := 51) (v := .slice (some ⟨go, 0, none⟩) n1 ko) rfl rfl (by kernel_rfl) (by kernel_rfl) (by kernel_rfl) (by kernel_rfl) (by kernel_rfl) (fun _ _ _ h => h) (Or.inl ⟨by rfl, ?_⟩) hHeld ?_
  · intro w hSw
    (try dsimp only at hSw)
    go_simp
  (try dsimp only)
  (try simp only [Act.put, List.setIfInBounds_toArray, List.set_cons_zero, List.set_cons_succ])
  refine til_take (i := 13) (d := 52) (v := .int .i64 n1) rfl rfl (by kernel_rfl) (by kernel_rfl) (by kernel_rfl) (by kernel_rfl) (by kernel_rfl) (fun _ _ _ h => h) (Or.inl ⟨by rfl, ?_⟩) hHeld ?_
  · intro w hSw
    (try dsimp only at hSw)
    go_simp
  (try dsimp only)
  (try simp only [Act.put, List.setIfInBounds_toArray, List.set_cons_zero, List.set_cons_succ])
  refine til_take (i := 14) (d := 53) (v := .int .i64 r.length) rfl rfl (by kernel_rfl) (by kernel_rfl) (by kernel_rfl) (by kernel_rfl) (by kernel_rfl) (fun _ _ _ h => h) (Or.inl ⟨by rfl, ?_⟩) hHeld ?_
  · intro w hSw
    (try dsimp only at hSw)
    go_simp
  (try dsimp only)
  (try simp only [Act.put, List.setIfInBounds_toArray, List.set_cons_zero, List.set_cons_succ])
  refine til_take (i := 15) (d := 54) (v := .pointer (some ⟨go, r.length, none⟩)) rfl rfl (by kernel_rfl) (by kernel_rfl) (by kernel_rfl) (by kernel_rfl) (by kernel_rfl) (fun _ _ _ h => h) (Or.inl ⟨by rfl, ?_⟩) hHeld ?_
  · intro w hSw
    (try dsimp only at hSw)
    go_simp
  (try dsimp only)
  (try simp only [Act.put, List.setIfInBounds_toArray, List.set_cons_zero, List.set_cons_succ])
  refine til_take (i := 17) (d := 56) (v := .pointer (some ⟨w.heap.size, 4, none⟩)) rfl rfl (by kernel_rfl) (by kernel_rfl) (by kernel_rfl) (by kernel_rfl) (by kernel_rfl) (fun _ _ _ h => h) (Or.inl ⟨by rfl, ?_⟩) hHeld ?_
  · intro w hSw
    (try dsimp only at hSw)
    go_simp
  (try dsimp only)
  (try simp only [Act.put, List.setIfInBounds_toArray, List.set_cons_zero, List.set_cons_succ])
  refine til_take (i := 18) (d := 57) (v := .agg #[.bool nm, .string ⟨sn.toArray⟩, .int .i64 si]) rfl rfl (by kernel_rfl) (by kernel_rfl) (by kernel_rfl) (by kernel_rfl) (by kernel_rfl) (fun _ _ _ h => h) (Or.inl ⟨by rfl, ?_⟩) hHeld ?_
  · intro w hSw
    (try dsimp only at hSw)
    go_simp
  (try dsimp only)
  (try simp only [Act.put, List.setIfInBounds_toArray, List.set_cons_zero, List.set_cons_succ])
  refine til_take (i := 19) (d := 58) (v := .agg #[.int .i64 ev, .int .i64 ef, .int .i64 0, .string ⟨#[]⟩, .slice none 0 0, .slice none 0 0]) rfl rfl (by kernel_rfl) (by kernel_rfl) (by kernel_rfl) (by kernel_rfl) (by kernel_rfl) (fun _ _ _ h => h) (Or.inl ⟨by rfl, ?_⟩) hHeld ?_
  · intro w hSw
    (try dsimp only at hSw)
    go_simp
  (try dsimp only)
  (try simp only [Act.put, List.setIfInBounds_toArray, List.set_cons_zero, List.set_cons_succ])
  refine til_one (i := 16) (by kernel_rfl) rfl (fun K16 hK16 => ?_)
  go_simp
  refine hK16.out _ _ (fun _ => hHeld) ?_
  (try dsimp only)
  (try simp only [Act.put, List.setIfInBounds_toArray, List.set_cons_zero, List.set_cons_succ])
  refine til_one (i := 20) (by kernel_rfl) rfl (fun K20 hK20 => ?_)
  go_simp
  go_at_call 38
  refine HC.out.mono ?_
  rintro e w5 ⟨g, c, B, m, d, rfl, hJ⟩
  have hS5 := HT.out w5 hJ.touch
  have hbz : Below w5.heap.size w5 (w5.alloc (.cells #[.pointer (some ⟨g, xs.length * 6, none⟩)] 38)) := (Below.refl _ _).alloc (Nat.le_refl _) _
  have z5 : w2.heap.size ≤ w5.heap.size := hJ.touch.size
  have hS5a := hS5.2.2 (w5.alloc (.cells #[.pointer (some ⟨g, xs.length * 6, none⟩)] 38)) hbz
  have row5 := hS5.1
  have ROW := Lib.hid (row5.stay (w' := w5.alloc (.cells #[.pointer (some ⟨g, xs.length * 6, none⟩)] 38)) (fun k hk => hbz.block k (row5.low hk).2))
  have NEW := Lib.hid ((GRow.made (K := ptrK) (base := 0) (l := [some ⟨g, xs.length * 6, none⟩]) w5 #[.pointer (some ⟨g, xs.length * 6, none⟩)] rfl (by simp [maxLen]) (Nat.zero_le _)).rd)
  have HJ := Lib.hid hJ
  have HBZ := Lib.hid hbz
  have HS5 := Lib.hid hS5.2.1
  have HS5A := Lib.hid hS5a
  clear hJ hbz row5 z5 hS5 hS5a
  refine hK20.out _ _ (fun _ => HS5.out) ?_
  (try dsimp only)
  (try simp only [Act.put, List.setIfInBounds_toArray, List.set_cons_zero, List.set_cons_succ])
  refine til_one (i := 21) (by kernel_rfl) rfl (fun K21 hK21 => ?_)
  go_simp
  refine hK21.out _ _ (fun _ => HS5A.out) ?_
  (try dsimp only)
  (try simp only [Act.put, List.setIfInBounds_toArray, List.set_cons_zero, List.set_cons_succ])
  refine til_one (i := 22) (by kernel_rfl) rfl (fun K22 hK22 => ?_)
  refine step_row_app (KK := ptrK) rfl (.tmp 43) (.tmp 60) rfl 0 _ (ps ++ [some (⟨pb, po, none⟩ : Addr)]) rfl ROW.out _ 1 1 [some (⟨g, xs.length * 6, none⟩ : Addr)] rfl NEW.out (by have := HPL.out; simp; omega) (Nat.zero_le _) ?_
  intro v9 w9 row9 grown9 at9
  obtain ⟨A9, c9, hv9, _⟩ := row9.form
  generalize (ps ++ [some (⟨pb, po, none⟩ : Addr)] ++ [some (⟨g, xs.length * 6, none⟩ : Addr)]).length = m9 at hv9
  subst hv9
  have grown9x := grown9
  obtain ⟨y1, y2, BI, TO⟩ := more_one HBW.out (Nat.le_trans (Nat.le_add_right _ 2) (Nat.le_of_eq (S2.out.symm))) HOWN.out hO'.out hf'.out HJ.out HBZ.out row9 grown9 at9 HTW.out
  have B1 := Lib.hid (BI.mono (H := fun j => F j ∨ w.heap.size ≤ j) (fun j hj => hj.elim (fun h => .inl (HFF.out j h).1) .inr))
  have T1 := Lib.hid (TO.mono (G := F) (fun j _ hj => (HFF.out j hj).1))
  clear row9 grown9 at9 BI TO
  have hS9 := HT9.out w5 HJ.out.touch w9 grown9x HBZ.out y1
  have HS9 := Lib.hid hS9
  clear hS9 grown9x
  refine hK22.out _ _ (fun _ => HS9.out) ?_
  (try dsimp only)
  (try simp only [Act.put, List.setIfInBounds_toArray])
  refine til_take (i := 23) (d := 62) (v := .pointer (some ⟨b, 0, none⟩)) rfl rfl (by kernel_rfl) (by kernel_rfl) (by kernel_rfl) (by kernel_rfl) (by kernel_rfl) (fun _ _ _ h => h) (Or.inl ⟨by rfl, ?_⟩) HS9.out ?_
  · intro w hSw
    (try dsimp only at hSw)
    go_simp
  (try dsimp only)
  (try simp only [Act.put])
  refine til_take (i := 24) (d := 63) (v := .pointer (some ⟨b, 1, none⟩)) rfl rfl (by kernel_rfl) (by kernel_rfl) (by kernel_rfl) (by kernel_rfl) (by kernel_rfl) (fun _ _ _ h => h) (Or.inl ⟨by rfl, ?_⟩) HS9.out ?_
  · intro w hSw
    (try dsimp only at hSw)
    go_simp
  (try dsimp only)
  (try simp only [Act.put])
  refine til_one (i := 25) (by kernel_rfl) rfl (fun K25 hK25 => ?_)
  go_simp
  refine hK25.out _ _ (fun h => absurd h (by decide)) ?_
  (try dsimp only)
  (try simp only [Act.put])
  refine til_done (by kernel_rfl) ?_ _
  -- END
  go_wp2
  go_end0
  exact ⟨rfl, B1.out, T1.out⟩

end Go.Proofs.YthpkcapooeedeaaDoor
