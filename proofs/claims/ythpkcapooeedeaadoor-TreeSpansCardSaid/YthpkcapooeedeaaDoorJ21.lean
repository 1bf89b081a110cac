/- Package tree: clone: what holds while values are still to be copied. -/
import Derived.Test.YthpkcapooeedeaaDoorJ20
namespace Go.Proofs.YthpkcapooeedeaaDoor
open Go.RowKit
set_option linter.unusedVariables false

/-- Where an element's cells are among all. -/
theorem RowK.all_split {α : Type} (K : RowK α) : ∀ (l : List α) (j : Nat) (u : Value), (K.all l)[j]? = some u → ∃ (k r : Nat) (a : α), l[k]? = some a ∧ r < K.n ∧ j = k * K.n + r ∧ (K.enc a)[r]? = some u
  | [], j, u, h => by cases h
  | a :: t, j, u, h => by
    by_cases hj : j < K.n
    · refine ⟨0, j, a, rfl, hj, by omega, ?_⟩
      have : (K.enc a ++ K.all t)[j]? = some u := h
      rwa [List.getElem?_append_left (by rw [K.len]; exact hj)] at this
    · have : (K.enc a ++ K.all t)[j]? = some u := h
      rw [List.getElem?_append_right (by rw [K.len]; omega), K.len] at this
      obtain ⟨k, r, b, h1, h2, h3, h4⟩ := RowK.all_split K t _ u this
      exact ⟨k + 1, r, b, by simpa using h1, h2, by rw [Nat.add_mul]; omega, h4⟩
theorem rdg_of_cells {w : World} {g o : Nat} {xs : List V6} (hg : 0 < xs.length → g < w.heap.size) (h : ∀ k x, xs[k]? = some x → CellsAt w ⟨g, o + k * 6, none⟩ x) : RdG valK w (some ⟨g, o, none⟩) xs.length xs :=
  ⟨rfl, fun hm => ⟨g, o, rfl, hg hm, fun j u hu => by
    obtain ⟨k, r, a, h1, h2, h3, h4⟩ := RowK.all_split valK xs j u hu
    obtain ⟨b, o', e, _, hc⟩ := h k a h1
    injection e with e1 e2
    subst e1 e2
    have := hc r u h4
    rw [h3, show valK.n = 6 from rfl, ← Nat.add_assoc]
    exact this⟩⟩

/-- A value that is still to be copied: where it lies, what it is, its cells. -/
structure Pd where
  p : Addr
  t : Tree
  x : V6
def pdRow (es : List Pd) : List (Option Addr) := es.map fun e => some e.p
def pdSize : List Pd → Nat
  | [] => 0
  | e :: r => sizeT e.t + pdSize r
theorem pdSize_app : ∀ a b : List Pd, pdSize (a ++ b) = pdSize a + pdSize b
  | [], b => by simp [pdSize]
  | e :: a, b => by
    show sizeT e.t + pdSize (a ++ b) = sizeT e.t + pdSize a + pdSize b
    rw [pdSize_app a b]
    omega
theorem pdSize_len : ∀ es : List Pd, es.length ≤ pdSize es
  | [] => Nat.le_refl _
  | e :: r => by
    have := pdSize_len r
    have := sizeT_pos e.t
    unfold pdSize
    simp
    omega
/-- A value's items. -/
def pds (g : Nat) : Nat → List Tree → List V6 → List Pd
  | i, t :: ts, x :: xs => ⟨⟨g, i * 6, none⟩, t, x⟩ :: pds g (i + 1) ts xs
  | _, _, _ => []
theorem pds_size (g : Nat) : ∀ (i : Nat) (ts : List Tree) (xs : List V6), xs.length = ts.length → pdSize (pds g i ts xs) = sizeL ts ∧ (pds g i ts xs).length = ts.length
  | i, [], xs, h => by cases xs <;> exact ⟨rfl, rfl⟩
  | i, t :: ts, x :: xs, h => by
    obtain ⟨g1, g2⟩ := pds_size g (i + 1) ts xs (by simpa using h)
    exact ⟨by show sizeT t + pdSize _ = sizeT t + sizeL ts; rw [g1], by show (pds g (i + 1) ts xs).length + 1 = ts.length + 1; rw [g2]⟩
theorem pds_row (g : Nat) : ∀ (i : Nat) (ts : List Tree) (xs : List V6), xs.length = ts.length → ∀ k, k < ts.length → (pdRow (pds g i ts xs))[k]? = some (some ⟨g, (i + k) * 6, none⟩)
  | i, t :: ts, x :: xs, h, 0, _ => rfl
  | i, t :: ts, x :: xs, h, k + 1, hk => by
    have := pds_row g (i + 1) ts xs (by simpa using h) k (by simpa using hk)
    rw [show i + (k + 1) = i + 1 + k by omega]
    exact this
theorem pds_mem {W : World} (g : Nat) : ∀ (i : Nat) (ts : List Tree) (xs : List V6), VLs W ts xs → ∀ e ∈ pds g i ts xs, ∃ k, xs[k]? = some e.x ∧ e.p = ⟨g, (i + k) * 6, none⟩ ∧ VIs W e.t e.x
  | i, [], xs, _ => by unfold pds; simp
  | i, t :: ts, [], h => by
    unfold VLs at h
    obtain ⟨x, r, h, _⟩ := h
    cases h
  | i, t :: ts, x :: xs, h => by
    unfold VLs at h
    obtain ⟨_, _, e1, v1, l1⟩ := h
    injection e1 with ea eb
    subst ea eb
    intro e he
    rcases List.mem_cons.1 he with rfl | he
    · exact ⟨0, rfl, rfl, v1⟩
    · obtain ⟨k, h1, h2, h3⟩ := pds_mem g (i + 1) ts xs l1 e he
      exact ⟨k + 1, by simpa using h1, by rw [h2, show i + (k + 1) = i + 1 + k by omega], h3⟩
/-- Two places are apart. -/
def Apart (p q : Addr) : Prop := p.block ≠ q.block ∨ p.off + 6 ≤ q.off ∨ q.off + 6 ≤ p.off
theorem pds_low (g : Nat) : ∀ (i : Nat) (ts : List Tree) (xs : List V6), ∀ e ∈ pds g i ts xs, e.p.block = g ∧ i * 6 ≤ e.p.off
  | i, [], xs => by unfold pds; simp
  | i, t :: ts, [] => by unfold pds; simp
  | i, t :: ts, x :: xs => by
    intro e he
    rcases List.mem_cons.1 he with rfl | he
    · exact ⟨rfl, Nat.le_refl _⟩
    · obtain ⟨h1, h2⟩ := pds_low g (i + 1) ts xs e he
      exact ⟨h1, by omega⟩
theorem pds_sep (g : Nat) : ∀ (i : Nat) (ts : List Tree) (xs : List V6), (pds g i ts xs).Pairwise fun a b => Apart a.p b.p
  | i, [], xs => by unfold pds; exact List.Pairwise.nil
  | i, t :: ts, [] => by unfold pds; exact List.Pairwise.nil
  | i, t :: ts, x :: xs => by
    refine List.Pairwise.cons (fun e he => ?_) (pds_sep g (i + 1) ts xs)
    obtain ⟨h1, h2⟩ := pds_low g (i + 1) ts xs e he
    exact .inr (.inl (show i * 6 + 6 ≤ e.p.off by omega))
theorem pds_back {w : World} (g : Nat) : ∀ (i : Nat) (ts : List Tree) (xs : List V6), xs.length = ts.length → (∀ e ∈ pds g i ts xs, ∃ x, CellsAt w e.p x ∧ VIs w e.t x) → ∃ ys : List V6, ys.length = ts.length ∧ VLs w ts ys ∧ ∀ k y, ys[k]? = some y → CellsAt w ⟨g, (i + k) * 6, none⟩ y
  | i, [], xs, _, _ => ⟨[], rfl, by unfold VLs; rfl, fun k y h => by cases h⟩
  | i, t :: ts, x :: xs, hl, h => by
    obtain ⟨y, h1, h2⟩ := h ⟨⟨g, i * 6, none⟩, t, x⟩ (by unfold pds; simp)
    obtain ⟨ys, g1, g2, g3⟩ := pds_back (w := w) g (i + 1) ts xs (by simpa using hl) (fun e he => h e (by unfold pds; simp [he]))
    refine ⟨y :: ys, by simp [g1], by unfold VLs; exact ⟨y, ys, rfl, h2, g2⟩, fun k z hz => ?_⟩
    cases k with
    | zero =>
      obtain rfl : y = z := by simpa using hz
      exact h1
    | succ k =>
      have := g3 k z (by simpa using hz)
      rwa [show i + (k + 1) = i + 1 + k by omega]

/-- A cell of a value. -/
def inC (p : Addr) (b o : Nat) : Prop := p.block = b ∧ p.off ≤ o ∧ o < p.off + 6
/-- What holds while copying. -/
structure ClInv (W wr : World) (base : Nat) (D : Nat → Prop) (root : Nat) (T : Tree) (es : List Pd) : Prop where
  dom : ∀ b, D b → base ≤ b ∧ b < wr.heap.size
  rt : D root
  ok : ∀ e ∈ es, ∃ b o : Nat, e.p = ⟨b, o, none⟩ ∧ D b ∧ (∀ j u, (v6Cells e.x)[j]? = some u → wr.cell? ⟨b, o + j, none⟩ = some u) ∧ (∀ i, wr.frozen? ⟨b, i, none⟩ = false) ∧ VIs W e.t e.x
  sep : es.Pairwise fun a b => Apart a.p b.p
  bel : Below W.heap.size W wr
  wand : ∀ w' : World, (∀ b, D b → b < w'.heap.size) → (∀ b o, D b → (∀ e ∈ es, ¬ inC e.p b o) → w'.cell? ⟨b, o, none⟩ = wr.cell? ⟨b, o, none⟩) → (∀ e ∈ es, ∃ x, CellsAt w' e.p x ∧ VIs w' e.t x) → ∃ X, CellsAt w' ⟨root, 0, none⟩ X ∧ VIs w' T X

theorem ClInv.stay {W wr w' : World} {base : Nat} {D : Nat → Prop} {root : Nat} {T : Tree} {es : List Pd} (h : ClInv W wr base D root T es) (hb : Below W.heap.size W w') (hs : wr.heap.size ≤ w'.heap.size) (hD : ∀ b, D b → w'.heap[b]? = wr.heap[b]?) : ClInv W w' base D root T es := by
  have hc : ∀ b o, D b → w'.cell? ⟨b, o, none⟩ = wr.cell? ⟨b, o, none⟩ := fun b o hb => by
    unfold World.cell?
    rw [show w'.heap[(⟨b, o, none⟩ : Addr).block]? = wr.heap[(⟨b, o, none⟩ : Addr).block]? from hD b hb]
  refine ⟨fun b hb => ⟨(h.dom b hb).1, Nat.lt_of_lt_of_le (h.dom b hb).2 hs⟩, h.rt, fun e he => ?_, h.sep, hb, fun w'' h1 h2 h3 => ?_⟩
  · obtain ⟨b, o, e1, hDb, hcc, hf, hv⟩ := h.ok e he
    refine ⟨b, o, e1, hDb, fun j u hu => (hc b _ hDb).trans (hcc j u hu), fun i => ?_, hv⟩
    rw [← hf i]
    unfold World.frozen?
    rw [show w'.heap[(⟨b, i, none⟩ : Addr).block]? = wr.heap[(⟨b, i, none⟩ : Addr).block]? from hD b hDb]
  · exact h.wand w'' h1 (fun b o hb hn => (h2 b o hb hn).trans (hc b o hb)) h3

end Go.Proofs.YthpkcapooeedeaaDoor

namespace Go.Proofs.YthpkcapooeedeaaDoor
open Go.RowKit
set_option linter.unusedVariables false

theorem v6_lt {x : V6} {j : Nat} {u : Value} (h : (v6Cells x)[j]? = some u) : j < 6 := by
  have := (List.getElem?_eq_some_iff.1 h).1
  simpa [v6Cells] using this
theorem ClInv.step {W wr w4 : World} {base : Nat} {D : Nat → Prop} {root : Nat} {T : Tree} {rest : List Pd} {p : Addr} {t : Tree} {x : V6} {b o : Nat} {items : List Tree} {names : List (List UInt8)} {xs : List V6} {A B : Option Addr} {c d g : Nat}
    (h : ClInv W wr base D root T (rest ++ [⟨p, t, x⟩])) (hp : p = ⟨b, o, none⟩) (ht : t = .mk t.kd t.fr t.to t.tx items names) (hn : x.n = xs.length) (hm : x.m = names.length) (hvl : VLs W items xs) (hbase : base ≤ wr.heap.size)
    (hA : GRow valK w4 wr.heap.size (.slice A x.n c) xs) (hB : GRow namK w4 wr.heap.size (.slice B x.m d) names) (hg : 0 < xs.length → A = some ⟨g, 0, none⟩) (hAB : ∀ k, (Value.slice A x.n c).ownBlock = some k → (Value.slice B x.m d).ownBlock ≠ some k) (hnc : x.n ≤ c) (hmd : x.m ≤ d)
    (c4 : w4.cell? ⟨b, o + 4, none⟩ = some (.slice A x.n c)) (c5 : w4.cell? ⟨b, o + 5, none⟩ = some (.slice B x.m d))
    (hk : ∀ b' o', b' < wr.heap.size → D b' → ¬ (b' = b ∧ (o' = o + 4 ∨ o' = o + 5)) → w4.cell? ⟨b', o', none⟩ = wr.cell? ⟨b', o', none⟩) (hf : ∀ b' i, D b' → w4.frozen? ⟨b', i, none⟩ = wr.frozen? ⟨b', i, none⟩)
    (hbel : Below W.heap.size W w4) (hs : wr.heap.size ≤ w4.heap.size) :
    ClInv W w4 base (fun k => D k ∨ (wr.heap.size ≤ k ∧ k < w4.heap.size)) root T (rest ++ pds g 0 items xs) := by
  subst hp
  have hlx := hvl.len
  obtain ⟨b1, o1, e1, hDb, hcc, hfz, hv⟩ := h.ok ⟨⟨b, o, none⟩, t, x⟩ (by simp)
  injection e1 with e1 e2
  subst e1 e2
  have hbw := (h.dom b hDb).2
  have hsep := List.pairwise_append.1 h.sep
  have hA0 : 0 < xs.length → wr.heap.size ≤ g ∧ g < w4.heap.size := fun h0 => hA.low (g := g) (by rw [hg h0]; rfl)
  have kid := pds_mem (W := W) g 0 items xs hvl
  refine ⟨fun k hk => ?_, .inl h.rt, fun e he => ?_, ?_, hbel, fun w' h1 h2 h3 => ?_⟩
  · rcases hk with hk | hk
    · exact ⟨(h.dom k hk).1, Nat.lt_of_lt_of_le (h.dom k hk).2 hs⟩
    · exact ⟨Nat.le_trans hbase hk.1, hk.2⟩
  · rcases List.mem_append.1 he with he | he
    · obtain ⟨b', o', e1, hDb', hcc', hfz', hv'⟩ := h.ok e (by simp [he])
      have hap := hsep.2.2 e he ⟨⟨b, o, none⟩, t, x⟩ (by simp)
      rw [e1] at hap
      refine ⟨b', o', e1, .inl hDb', fun j u hu => ?_, fun i => by rw [hf b' i hDb']; exact hfz' i, hv'⟩
      have hj := v6_lt hu
      rw [hk b' (o' + j) (h.dom b' hDb').2 hDb' (fun hh => by
        obtain ⟨h1, h2⟩ := hh
        subst h1
        unfold Apart at hap
        simp at hap
        omega)]
      exact hcc' j u hu
    · obtain ⟨k, g1, g2, g3⟩ := kid e he
      have hkl : k < xs.length := (List.getElem?_eq_some_iff.1 g1).1
      have hA' := hg (by omega)
      subst hA'
      rw [Nat.zero_add] at g2
      refine ⟨g, k * 6, g2, .inr (hA0 (by omega)), fun j u hu => ?_, fun i => hA.free i, g3⟩
      have hrd := hA.rd
      have := hrd.at rfl g1 hu
      simpa [show valK.n = 6 from rfl, Nat.add_assoc] using this
  · refine List.pairwise_append.2 ⟨hsep.1, pds_sep g 0 items xs, fun a ha e he => ?_⟩
    obtain ⟨b', o', e1, hDb', _⟩ := h.ok a (by simp [ha])
    obtain ⟨k, g1, g2, g3⟩ := kid e he
    have hkl : k < xs.length := (List.getElem?_eq_some_iff.1 g1).1
    refine .inl ?_
    rw [e1, g2]
    have := (h.dom b' hDb').2
    have := (hA0 (by omega)).1
    show b' ≠ g
    omega
  · -- the wand
    have old : ∀ b' o', D b' → (∀ e ∈ rest, ¬ inC e.p b' o') → w'.cell? ⟨b', o', none⟩ = w4.cell? ⟨b', o', none⟩ := fun b' o' hD hr => h2 b' o' (.inl hD) (fun e he => by
      rcases List.mem_append.1 he with he | he
      · exact hr e he
      · obtain ⟨k, g1, g2, g3⟩ := kid e he
        have hkl : k < xs.length := (List.getElem?_eq_some_iff.1 g1).1
        rintro ⟨i1, _⟩
        rw [g2] at i1
        have i1 : g = b' := i1
        have := (h.dom b' hD).2
        have := (hA0 (by omega)).1
        omega)
    have new : ∀ b' o', wr.heap.size ≤ b' → b' < w4.heap.size → (0 < xs.length → b' ≠ g) → w'.cell? ⟨b', o', none⟩ = w4.cell? ⟨b', o', none⟩ := fun b' o' hl hu hne => h2 b' o' (.inr ⟨hl, hu⟩) (fun e he => by
      rcases List.mem_append.1 he with he | he
      · obtain ⟨b2, o2, e1, hDb', _⟩ := h.ok e (by simp [he])
        rintro ⟨i1, _⟩
        rw [e1] at i1
        have i1 : b2 = b' := i1
        have := (h.dom b2 hDb').2
        omega
      · obtain ⟨k, g1, g2, g3⟩ := kid e he
        have hkl : k < xs.length := (List.getElem?_eq_some_iff.1 g1).1
        rintro ⟨i1, _⟩
        rw [g2] at i1
        exact hne (by omega) (Eq.symm i1))
    refine h.wand w' (fun b' hb' => h1 b' (.inl hb')) (fun b' o' hD hr => ?_) (fun e he => ?_)
    · rw [old b' o' hD (fun e he => hr e (by simp [he]))]
      refine hk b' o' (h.dom b' hD).2 hD (fun hh => ?_)
      refine hr ⟨⟨b, o, none⟩, t, x⟩ (by simp) ⟨hh.1.symm, ?_⟩
      rcases hh.2 with h | h
      · exact ⟨by show o ≤ o'; omega, by show o' < o + 6; omega⟩
      · exact ⟨by show o ≤ o'; omega, by show o' < o + 6; omega⟩
    · rcases List.mem_append.1 he with he | he
      · exact h3 e (by simp [he])
      · obtain rfl : e = ⟨⟨b, o, none⟩, t, x⟩ := by simpa using he
        obtain ⟨ys, y1, y2, y3⟩ := pds_back (w := w') g 0 items xs hlx (fun e he => h3 e (by simp [he]))
        have hin : ∀ j, j < 6 → ∀ e ∈ rest, ¬ inC e.p b (o + j) := fun j hj e he hh => by
          have hap := hsep.2.2 e he ⟨⟨b, o, none⟩, t, x⟩ (by simp)
          obtain ⟨i1, i2, i3⟩ := hh
          unfold Apart at hap
          simp only at hap
          omega
        refine ⟨{ x with A := A, c := c, B := B, d := d }, ⟨b, o, rfl, h1 b (.inl hDb), fun j u hu => ?_⟩, ?_⟩
        · have hj := v6_lt hu
          rw [old b (o + j) hDb (hin j hj)]
          have hj6 : j = 0 ∨ j = 1 ∨ j = 2 ∨ j = 3 ∨ j = 4 ∨ j = 5 := by omega
          rcases hj6 with rfl | rfl | rfl | rfl | rfl | rfl
          · exact (hk b _ hbw hDb (by omega)).trans (hcc 0 u hu)
          · exact (hk b _ hbw hDb (by omega)).trans (hcc 1 u hu)
          · exact (hk b _ hbw hDb (by omega)).trans (hcc 2 u hu)
          · exact (hk b _ hbw hDb (by omega)).trans (hcc 3 u hu)
          · rw [c4]; exact hu
          · rw [c5]; exact hu
        · rw [ht] at hv ⊢
          unfold VIs at hv ⊢
          obtain ⟨v1, v2, v3, v4, _, _, _, _⟩ := hv
          refine ⟨v1, v2, v3, v4, hnc, hmd, ?_, ys, ?_, y2⟩
          · have hr := hB.rd
            refine ⟨hm.symm, fun h0 => ?_⟩
            have h0 : 0 < x.m := h0
            obtain ⟨b3, o3, e3, g3, g4⟩ := hr.2 (by omega)
            have hl3 := hB.low (g := b3) (by rw [e3]; rfl)
            refine ⟨b3, o3, e3, h1 b3 (.inr hl3), fun j u hu => ?_⟩
            rw [new b3 _ hl3.1 hl3.2 (fun h0 hh => hAB g (by rw [hg h0]; rfl) (by rw [e3, hh]; rfl))]
            exact g4 j u hu
          · show RdG valK w' A x.n ys
            by_cases h0 : 0 < xs.length
            · have := rdg_of_cells (w := w') (g := g) (o := 0) (xs := ys) (fun _ => h1 g (.inr (hA0 h0))) (fun k y hy => by have := y3 k y hy; simpa using this)
              rw [hg h0, hn, hlx, ← y1]
              exact this
            · have : ys = [] := List.eq_nil_of_length_eq_zero (by omega)
              subst this
              exact ⟨by rw [hn]; simp; omega, fun h => absurd h (by omega)⟩

end Go.Proofs.YthpkcapooeedeaaDoor
