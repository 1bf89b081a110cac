/- Package tree: what a Builder stands for. -/
import Derived.Test.YthpkcapooeedeaaDoorRows
import Derived.Test.YthpkcapooeedeaaDoorJ22
import Derived.Test.YthpkcapooeedeaaDoorJ15
import Derived.Deep.RegionHeld3
import Derived.Deep.CutRange
import Derived.Deep.DeepMust
namespace Go.Proofs.YthpkcapooeedeaaDoor
open Go.RowKit
set_option linter.unusedVariables false

/-- What a slice reads as, in the blocks of G. -/
def RdH {α : Type} (K : RowK α) (w : World) (G : Nat → Prop) (A : Option Addr) (m : Nat) (l : List α) : Prop :=
  l.length = m ∧ (0 < m → ∃ b o : Nat, A = some ⟨b, o, none⟩ ∧ G b ∧ b < w.heap.size ∧ ∀ j u, (K.all l)[j]? = some u → w.cell? ⟨b, o + j, none⟩ = some u)
mutual
/-- What lies in the blocks of G stands for this value. -/
def VIsG (w : World) (G : Nat → Prop) : Tree → V6 → Prop
  | .mk kd fr tt tx items names, x => x.kd = kd ∧ x.fr = fr ∧ x.to = tt ∧ x.tx = tx ∧ x.n ≤ x.c ∧ x.m ≤ x.d ∧ RdH namK w G x.B x.m names ∧ ∃ xs, RdH valK w G x.A x.n xs ∧ VLsG w G items xs
def VLsG (w : World) (G : Nat → Prop) : List Tree → List V6 → Prop
  | [], xs => xs = []
  | t :: ts, xs => ∃ x r, xs = x :: r ∧ VIsG w G t x ∧ VLsG w G ts r
end

section
variable {α : Type} {K : RowK α} {w w' : World} {G H : Nat → Prop} {A : Option Addr} {m : Nat} {l : List α}
theorem RdH.stay (h : RdH K w G A m l) (hb : ∀ b, G b → b < w.heap.size → w'.heap[b]? = w.heap[b]?) (hs : w.heap.size ≤ w'.heap.size) (hm : ∀ b, b < w.heap.size → G b → H b) : RdH K w' H A m l :=
  ⟨h.1, fun hn => by
    obtain ⟨b, o, e, g, hl, hc⟩ := h.2 hn
    exact ⟨b, o, e, hm b hl g, by omega, fun j u hu => (World.cell?_of_block (by exact hb b g hl)).trans (hc j u hu)⟩⟩
theorem RdH.rd (h : RdH K w G A m l) : RdG K w A m l :=
  ⟨h.1, fun hn => by
    obtain ⟨b, o, e, g, hl, hc⟩ := h.2 hn
    exact ⟨b, o, e, hl, hc⟩⟩
theorem RdH.of_row {v : Value} {c : Nat} (h : GRow K w 0 (.slice A m c) l) (hm : l.length = m) (hG : ∀ g, (Value.slice A m c).ownBlock = some g → G g) : RdH K w G A m l :=
  ⟨hm, fun hn => by
    subst hm
    obtain ⟨b, o, e, hl, hc⟩ := h.rd.2 hn
    obtain ⟨A', c', e1, _, _, h4⟩ := h.form
    injection e1 with e1 _ _
    subst e1
    obtain ⟨g, e2, _, hgl⟩ := h4 hn
    subst e2
    injection e with e
    injection e with e3 e4
    subst e3 e4
    exact ⟨g, 0, rfl, hG g rfl, hl, hc⟩⟩
mutual
theorem VIsG.stay (hb : ∀ b, G b → b < w.heap.size → w'.heap[b]? = w.heap[b]?) (hs : w.heap.size ≤ w'.heap.size) (hm : ∀ b, b < w.heap.size → G b → H b) : ∀ (t : Tree) (x : V6), VIsG w G t x → VIsG w' H t x
  | .mk kd fr tt tx items names, x, h => by
    unfold VIsG at h ⊢
    obtain ⟨h1, h2, h3, h4, h5, h6, h7, xs, h8, h9⟩ := h
    exact ⟨h1, h2, h3, h4, h5, h6, h7.stay hb hs hm, xs, h8.stay hb hs hm, VLsG.stay hb hs hm items xs h9⟩
theorem VLsG.stay (hb : ∀ b, G b → b < w.heap.size → w'.heap[b]? = w.heap[b]?) (hs : w.heap.size ≤ w'.heap.size) (hm : ∀ b, b < w.heap.size → G b → H b) : ∀ (ts : List Tree) (xs : List V6), VLsG w G ts xs → VLsG w' H ts xs
  | [], xs, h => by unfold VLsG at h ⊢; exact h
  | t :: ts, xs, h => by
    unfold VLsG at h ⊢
    obtain ⟨x, r, rfl, h1, h2⟩ := h
    exact ⟨x, r, rfl, VIsG.stay hb hs hm t x h1, VLsG.stay hb hs hm ts r h2⟩
end
mutual
theorem VIsG.vis : ∀ (t : Tree) (x : V6), VIsG w G t x → VIs w t x
  | .mk kd fr tt tx items names, x, h => by
    unfold VIsG at h
    unfold VIs
    obtain ⟨h1, h2, h3, h4, h5, h6, h7, xs, h8, h9⟩ := h
    exact ⟨h1, h2, h3, h4, h5, h6, h7.rd, xs, h8.rd, VLsG.vls items xs h9⟩
theorem VLsG.vls : ∀ (ts : List Tree) (xs : List V6), VLsG w G ts xs → VLs w ts xs
  | [], xs, h => by unfold VLsG at h; unfold VLs; exact h
  | t :: ts, xs, h => by
    unfold VLsG at h
    unfold VLs
    obtain ⟨x, r, rfl, h1, h2⟩ := h
    exact ⟨x, r, rfl, VIsG.vis t x h1, VLsG.vls ts r h2⟩
end
theorem VLsG.snoc {t : Tree} {x : V6} : ∀ {ts : List Tree} {xs : List V6}, VLsG w G ts xs → VIsG w G t x → VLsG w G (ts ++ [t]) (xs ++ [x])
  | [], xs, h, hx => by
    unfold VLsG at h
    subst h
    show VLsG w G [t] [x]
    unfold VLsG
    exact ⟨x, [], rfl, hx, by unfold VLsG; rfl⟩
  | u :: ts, xs, h, hx => by
    unfold VLsG at h
    obtain ⟨y, r, rfl, h1, h2⟩ := h
    show VLsG w G (u :: (ts ++ [t])) (y :: (r ++ [x]))
    unfold VLsG
    exact ⟨y, _, rfl, h1, VLsG.snoc h2 hx⟩
theorem VLsG.len {ts : List Tree} {xs : List V6} (h : VLsG w G ts xs) : xs.length = ts.length := (VLsG.vls ts xs h).len
end

/-- What of the whole lies around a value that is open: p: its place, s: its step; r: what is open around it, the innermost first; x: its cells; ps: the places of those around it, the outermost first; S: the blocks of all that is open around it, and its own cells'. -/
def CtxIs (w : World) (G : Nat → Prop) (wb : Nat) : List (Tree × Stp) → Stp → Addr → V6 → List (Option Addr) → (Nat → Prop) → Prop
  | [], s, p, x, ps, S => p = ⟨wb, 0, none⟩ ∧ Own w wb 27 (v6Cells x).toArray ∧ ps = [] ∧ S wb
  | (t, s') :: r, s, p, x, ps, S => ∃ (X : V6) (xs : List V6) (P : Addr) (ps' : List (Option Addr)) (S' : Nat → Prop) (g : Nat), X.kd = t.kd ∧ X.fr = t.fr ∧ X.to = t.to ∧ X.tx = t.tx ∧ X.A = some ⟨g, 0, none⟩ ∧ p = ⟨g, xs.length * 6, none⟩ ∧ X.n = xs.length + 1 ∧
      GRow valK w 0 (.slice X.A X.n X.c) (xs ++ [x]) ∧ VLsG w G t.items xs ∧ GRow namK w 0 (.slice X.B X.m X.d) (if s.named then t.names ++ [s.name] else t.names) ∧ X.m = (if s.named then t.names ++ [s.name] else t.names).length ∧
      CtxIs w G wb r s' P X ps' S' ∧ ps = ps' ++ [some P] ∧ (∀ k, S' k → S k) ∧ S g ∧ ¬ S' g ∧ (∀ h, (Value.slice X.B X.m X.d).ownBlock = some h → S h ∧ ¬ S' h ∧ h ≠ g)
/-- The innermost value that is open. -/
structure TopIs (w : World) (G S : Nat → Prop) (t : Tree) (x : V6) (xs : List V6) : Prop where
  kd : x.kd = t.kd
  fr : x.fr = t.fr
  tt : x.to = t.to
  tx : x.tx = t.tx
  n : x.n = xs.length
  m : x.m = t.names.length
  rowA : GRow valK w 0 (.slice x.A x.n x.c) xs
  items : VLsG w G t.items xs
  rowB : GRow namK w 0 (.slice x.B x.m x.d) t.names
  offA : ∀ g, (Value.slice x.A x.n x.c).ownBlock = some g → ¬ S g ∧ ¬ G g
  offB : ∀ g, (Value.slice x.B x.m x.d).ownBlock = some g → ¬ S g ∧ ¬ G g ∧ (Value.slice x.A x.n x.c).ownBlock ≠ some g

theorem all_last {xs : List V6} {x y : V6} : (xs ++ [x]).set xs.length y = xs ++ [y] := by
  rw [List.set_append_right _ _ (Nat.le_refl _)]
  simp
section
variable {w w' : World} {G H : Nat → Prop} {wb : Nat}
theorem CtxIs.stay (hG : ∀ b, G b → b < w.heap.size → w'.heap[b]? = w.heap[b]?) (hs : w.heap.size ≤ w'.heap.size) (hm : ∀ b, b < w.heap.size → G b → H b) : ∀ (r : List (Tree × Stp)) (s : Stp) (p : Addr) (x : V6) (ps : List (Option Addr)) (S : Nat → Prop), CtxIs w G wb r s p x ps S →
    (∀ b, S b → b < w.heap.size → w'.heap[b]? = w.heap[b]?) → CtxIs w' H wb r s p x ps S
  | [], s, p, x, ps, S, h, hS => by
    obtain ⟨h1, h2, h3, h4⟩ := h
    exact ⟨h1, (hS wb h4 h2.inside).trans h2, h3, h4⟩
  | (t, s') :: r, s, p, x, ps, S, h, hS => by
    obtain ⟨X, xs, P, ps', S', g, a1, a2, a3, a4, a5, a6, a7, a8, a9, a10, am, a11, a12, a13, a14, a15, a17⟩ := h
    have hgl := a8.low (g := g) (by rw [a5]; rfl)
    refine ⟨X, xs, P, ps', S', g, a1, a2, a3, a4, a5, a6, a7, ?_, VLsG.stay hG hs hm _ _ a9, ?_, am, CtxIs.stay hG hs hm r s' P X ps' S' a11 (fun b hb => hS b (a13 b hb)), a12, a13, a14, a15, a17⟩
    · refine a8.stay (fun k hk => ?_)
      rw [a5] at hk
      obtain rfl := ownBlock_is hk
      exact hS _ a14 hgl.2
    · exact a10.stay (fun k hk => hS k (a17 k hk).1 (a10.low hk).2)
/-- A cell of the innermost written over. -/
theorem CtxIs.put {r : List (Tree × Stp)} {s : Stp} {p : Addr} {x y : V6} {ps : List (Option Addr)} {S : Nat → Prop} {j : Nat} {u : Value} (h : CtxIs w G wb r s p x ps S) (hSG : ∀ b, S b → ¬ G b) (hj : j < 6) (hy : v6Cells y = (v6Cells x).set j u) :
    CtxIs (w.setCell ⟨p.block, p.off + j, none⟩ u) G wb r s p y ps S := by
  cases r with
  | nil =>
    obtain ⟨h1, h2, h3, h4⟩ := h
    subst h1
    refine ⟨rfl, ?_, h3, h4⟩
    have := h2.put j u
    rw [hy]
    show Own (w.setCell ⟨wb, 0 + j, none⟩ u) wb _ _
    rw [Nat.zero_add]
    simpa using this
  | cons q r =>
    obtain ⟨t, s'⟩ := q
    obtain ⟨X, xs, P, ps', S', g, a1, a2, a3, a4, a5, a6, a7, a8, a9, a10, am, a11, a12, a13, a14, a15, a17⟩ := h
    subst a6
    have hne : ∀ k, k ≠ g → (w.setCell ⟨g, xs.length * 6 + j, none⟩ u).heap[k]? = w.heap[k]? := fun k hk => Below.heap_setCell _ _ _ _ hk
    have hGg : ¬ G g := hSG g a14
    refine ⟨X, xs, P, ps', S', g, a1, a2, a3, a4, a5, rfl, a7, ?_, ?_, ?_, am, ?_, a12, a13, a14, a15, a17⟩
    · rw [a5] at a8 ⊢
      have := a8.putAt (i := xs.length) (j := j) (a := y) (b := x) (u := u) (by simp) hj hy
      rw [all_last] at this
      exact this
    · exact VLsG.stay (fun b hb _ => hne b (fun e => hGg (e ▸ hb))) (by rw [set_size]; exact Nat.le_refl _) (fun b _ h => h) _ _ a9
    · exact a10.stay (fun k hk => hne k (a17 k hk).2.2)
    · exact CtxIs.stay (fun b hb _ => hne b (fun e => hGg (e ▸ hb))) (by rw [set_size]; exact Nat.le_refl _) (fun b _ h => h) _ _ _ _ _ _ a11 (fun b hb _ => hne b (fun e => a15 (e ▸ hb)))
/-- The innermost's cells. -/
theorem CtxIs.cells {r : List (Tree × Stp)} {s : Stp} {p : Addr} {x : V6} {ps : List (Option Addr)} {S : Nat → Prop} (h : CtxIs w G wb r s p x ps S) : ∃ b o : Nat, p = ⟨b, o, none⟩ ∧ S b ∧ CellsAt w p x ∧ ∀ i, w.frozen? ⟨b, i, none⟩ = false := by
  cases r with
  | nil =>
    obtain ⟨h1, h2, h3, h4⟩ := h
    subst h1
    exact ⟨wb, 0, rfl, h4, CellsAt.of_own h2, fun i => h2.free i⟩
  | cons q r =>
    obtain ⟨t, s'⟩ := q
    obtain ⟨X, xs, P, ps', S', g, a1, a2, a3, a4, a5, a6, a7, a8, a9, a10, am, a11, a12, a13, a14, a15, a17⟩ := h
    subst a6
    rw [a5] at a8
    refine ⟨g, xs.length * 6, rfl, a14, ?_, fun i => a8.free i⟩
    obtain ⟨b, o, e, hc⟩ := a8.rd.item (i := xs.length) (x := x) (by simp)
    injection e with e
    injection e with e1 e2
    subst e1 e2
    rwa [Nat.zero_add] at hc
/-- What is around has as many places as there are values. -/
theorem CtxIs.len : ∀ {r : List (Tree × Stp)} {s : Stp} {p : Addr} {x : V6} {ps : List (Option Addr)} {S : Nat → Prop}, CtxIs w G wb r s p x ps S → ps.length = r.length
  | [], s, p, x, ps, S, h => by
    obtain ⟨_, _, h3, _⟩ := h
    subst h3
    rfl
  | (t, s') :: r, s, p, x, ps, S, h => by
    obtain ⟨X, xs, P, ps', S', g, a1, a2, a3, a4, a5, a6, a7, a8, a9, a10, am, a11, a12, _⟩ := h
    subst a12
    simp [CtxIs.len a11]
/-- The value so far, whole. -/
def nowT (t : Tree) (s : Stp) : List (Tree × Stp) → Tree
  | [] => t
  | (u, s') :: r => nowT (addT t s u) s' r
theorem addT_kd (t : Tree) (s : Stp) (u : Tree) : (addT t s u).kd = u.kd ∧ (addT t s u).fr = u.fr ∧ (addT t s u).to = u.to ∧ (addT t s u).tx = u.tx ∧ (addT t s u).items = u.items ++ [t] ∧ (addT t s u).names = if s.named then u.names ++ [s.name] else u.names := by
  cases u
  exact ⟨rfl, rfl, rfl, rfl, rfl, rfl⟩
theorem vis_of {w : World} {t : Tree} {x : V6} {xs : List V6} (h1 : x.kd = t.kd) (h2 : x.fr = t.fr) (h3 : x.to = t.to) (h4 : x.tx = t.tx) (h5 : x.n ≤ x.c) (h6 : x.m ≤ x.d) (h7 : RdG namK w x.B x.m t.names) (h8 : RdG valK w x.A x.n xs) (h9 : VLs w t.items xs) : VIs w t x := by
  cases t
  unfold VIs
  exact ⟨h1, h2, h3, h4, h5, h6, h7, xs, h8, h9⟩
theorem VLs.snoc {w : World} {t : Tree} {x : V6} : ∀ {ts : List Tree} {xs : List V6}, VLs w ts xs → VIs w t x → VLs w (ts ++ [t]) (xs ++ [x])
  | [], xs, h, hx => by
    unfold VLs at h
    subst h
    show VLs w [t] [x]
    unfold VLs
    exact ⟨x, [], rfl, hx, by unfold VLs; rfl⟩
  | u :: ts, xs, h, hx => by
    unfold VLs at h
    obtain ⟨y, r, rfl, h1, h2⟩ := h
    show VLs w (u :: (ts ++ [t])) (y :: (r ++ [x]))
    unfold VLs
    exact ⟨y, _, rfl, h1, VLs.snoc h2 hx⟩
theorem GRow.cap {α : Type} {K : RowK α} {w : World} {A : Option Addr} {m c : Nat} {l : List α} {B : Nat} (h : GRow K w B (.slice A m c) l) : l.length = m ∧ m ≤ c := by
  obtain ⟨A', c', e, h1, _⟩ := h.form
  injection e with _ e2 e3
  omega
theorem CtxIs.now : ∀ (r : List (Tree × Stp)) (s : Stp) (p : Addr) (x : V6) (ps : List (Option Addr)) (S : Nat → Prop) (t : Tree), CtxIs w G wb r s p x ps S → VIs w t x → ∃ X, Own w wb 27 (v6Cells X).toArray ∧ VIs w (nowT t s r) X
  | [], s, p, x, ps, S, t, h, hx => ⟨x, h.2.1, hx⟩
  | (u, s') :: r, s, p, x, ps, S, t, h, hx => by
    obtain ⟨X, xs, P, ps', S', g, a1, a2, a3, a4, a5, a6, a7, a8, a9, a10, am, a11, a12, _⟩ := h
    obtain ⟨k1, k2, k3, k4, k5, k6⟩ := addT_kd t s u
    refine CtxIs.now r s' P X ps' S' (addT t s u) a11 (vis_of (xs := xs ++ [x]) (by rw [k1, a1]) (by rw [k2, a2]) (by rw [k3, a3]) (by rw [k4, a4]) a8.cap.2 a10.cap.2 ?_ ?_ ?_)
    · rw [k6]
      have := a10.rd
      rwa [a10.cap.1] at this
    · have := a8.rd
      rwa [a8.cap.1] at this
    · rw [k5]
      exact (VLsG.vls _ _ a9).snoc hx
theorem TopIs.vis {S : Nat → Prop} {t : Tree} {x : V6} {xs : List V6} (h : TopIs w G S t x xs) : VIs w t x :=
  vis_of h.kd h.fr h.tt h.tx h.rowA.cap.2 h.rowB.cap.2 (by have := h.rowB.rd; rwa [h.rowB.cap.1] at this) (by have := h.rowA.rd; rwa [h.rowA.cap.1] at this) (VLsG.vls _ _ h.items)
end

end Go.Proofs.YthpkcapooeedeaaDoor

namespace Go.Proofs.YthpkcapooeedeaaDoor
open Go.RowKit
set_option linter.unusedVariables false

def zeroX : V6 := ⟨0, 0, 0, [], none, 0, 0, none, 0, 0⟩
/-- A value stored in a list's cells. -/
def put6at (w : World) (g k : Nat) (x : V6) : World := (((((w.setCell ⟨g, k, none⟩ (.int .i64 x.kd)).setCell ⟨g, k + 1, none⟩ (.int .i64 x.fr)).setCell ⟨g, k + 2, none⟩ (.int .i64 x.to)).setCell ⟨g, k + 3, none⟩ (.string ⟨x.tx.toArray⟩)).setCell ⟨g, k + 4, none⟩ (.slice x.A x.n x.c)).setCell ⟨g, k + 5, none⟩ (.slice x.B x.m x.d)
theorem put6at_touch (w : World) (g k : Nat) (x : V6) : Touch (fun j => j = g) w (put6at w g k x) :=
  ((((((Touch.refl (fun j => j = g) w).setCell (p := ⟨g, k, none⟩) (.inl rfl) _).setCell (p := ⟨g, k + 1, none⟩) (.inl rfl) _).setCell (p := ⟨g, k + 2, none⟩) (.inl rfl) _).setCell (p := ⟨g, k + 3, none⟩) (.inl rfl) _).setCell (p := ⟨g, k + 4, none⟩) (.inl rfl) _).setCell (p := ⟨g, k + 5, none⟩) (.inl rfl) _
theorem put6at_row {w : World} {g m c : Nat} {xs : List V6} (z x : V6) (h : GRow valK w 0 (.slice (some ⟨g, 0, none⟩) m c) (xs ++ [z])) : GRow valK (put6at w g (xs.length * 6) x) 0 (.slice (some ⟨g, 0, none⟩) m c) (xs ++ [x]) := by
  have hl : ∀ u : V6, (xs ++ [u])[xs.length]? = some u := fun u => by simp
  have st : ∀ (w : World) (u v : V6) (j : Nat) (q : Value), GRow valK w 0 (.slice (some ⟨g, 0, none⟩) m c) (xs ++ [u]) → j < 6 → v6Cells v = (v6Cells u).set j q → GRow valK (w.setCell ⟨g, xs.length * 6 + j, none⟩ q) 0 (.slice (some ⟨g, 0, none⟩) m c) (xs ++ [v]) := fun w u v j q h hj he => by
    have := h.putAt (i := xs.length) (j := j) (a := v) (b := u) (u := q) (hl u) hj he
    rw [all_last] at this
    exact this
  have h1 := st w z ⟨x.kd, z.fr, z.to, z.tx, z.A, z.n, z.c, z.B, z.m, z.d⟩ 0 (.int .i64 x.kd) h (by decide) rfl
  have h2 := st _ _ ⟨x.kd, x.fr, z.to, z.tx, z.A, z.n, z.c, z.B, z.m, z.d⟩ 1 (.int .i64 x.fr) h1 (by decide) rfl
  have h3 := st _ _ ⟨x.kd, x.fr, x.to, z.tx, z.A, z.n, z.c, z.B, z.m, z.d⟩ 2 (.int .i64 x.to) h2 (by decide) rfl
  have h4 := st _ _ ⟨x.kd, x.fr, x.to, x.tx, z.A, z.n, z.c, z.B, z.m, z.d⟩ 3 (.string ⟨x.tx.toArray⟩) h3 (by decide) rfl
  have h5 := st _ _ ⟨x.kd, x.fr, x.to, x.tx, x.A, x.n, x.c, z.B, z.m, z.d⟩ 4 (.slice x.A x.n x.c) h4 (by decide) rfl
  exact st _ _ x 5 (.slice x.B x.m x.d) h5 (by decide) rfl

/-- What is behind the first region of addItem: the item is there. -/
def Added (w wc : World) (b o : Nat) (x y : V6) (xs : List V6) (sb : Nat) (sc : List Value) : Prop :=
  ∃ (g c : Nat), GRow valK wc 0 (.slice (some ⟨g, 0, none⟩) (xs.length + 1) c) (xs ++ [y]) ∧ ((Value.slice x.A x.n x.c).ownBlock = some g ∨ w.heap.size ≤ g) ∧ g ≠ b ∧ g ≠ sb ∧ wc.heap[b]? = (w.setCell ⟨b, o + 4, none⟩ (.slice (some ⟨g, 0, none⟩) (xs.length + 1) c)).heap[b]? ∧
    Touch (fun k => k = b ∨ (Value.slice x.A x.n x.c).ownBlock = some k) w wc ∧ Own wc sb 53 sc.toArray
/-- Both stores, in one order and in the other. -/
theorem added_one {w w2 wd w9 : World} {b o : Nat} {x y : V6} {xs : List V6} {sb : Nat} {sc : List Value} {A9 : Option Addr} {m9 c9 : Nat} (hb : b < w.heap.size) (hB2 : Below w.heap.size w w2) (hs : sb < w2.heap.size) (hsw : w.heap.size ≤ sb) (hS : Own w2 sb 53 sc.toArray) (hd : Below w2.heap.size w2 wd)
    (hne : ∀ g, (Value.slice x.A x.n x.c).ownBlock = some g → g ≠ b ∧ g < w.heap.size) (hr : GRow valK w9 0 (.slice A9 m9 c9) (xs ++ [zeroX])) (hg : wd.grownBy w9 (Value.slice x.A x.n x.c).ownBlock) (ha : (Value.slice A9 m9 c9).ownBlock = (Value.slice x.A x.n x.c).ownBlock ∨ (Value.slice A9 m9 c9).ownBlock = some wd.heap.size) :
    ∃ g, A9 = some ⟨g, 0, none⟩ ∧ m9 = xs.length + 1 ∧ xs.length + 1 ≤ c9 ∧ g ≠ b ∧ g < w9.heap.size ∧ b < w9.heap.size ∧ (∀ i, w9.frozen? ⟨g, i, none⟩ = false) ∧ (∀ i, w9.cell? ⟨b, i, none⟩ = w.cell? ⟨b, i, none⟩) ∧ (∀ i, w9.frozen? ⟨b, i, none⟩ = w.frozen? ⟨b, i, none⟩) ∧ (∀ k, k < w2.heap.size → w.heap.size ≤ k → w9.heap[k]? = w2.heap[k]? ∧ k ≠ g ∧ k ≠ b) ∧
      w9.cell? ⟨g, xs.length * 6, none⟩ = some (.int .i64 0) ∧ w9.cell? ⟨g, xs.length * 6 + 1, none⟩ = some (.int .i64 0) ∧ w9.cell? ⟨g, xs.length * 6 + 2, none⟩ = some (.int .i64 0) ∧ w9.cell? ⟨g, xs.length * 6 + 3, none⟩ = some (.string ⟨#[]⟩) ∧ w9.cell? ⟨g, xs.length * 6 + 4, none⟩ = some (.slice none 0 0) ∧ w9.cell? ⟨g, xs.length * 6 + 5, none⟩ = some (.slice none 0 0) ∧
      Added w (put6at (w9.setCell ⟨b, o + 4, none⟩ (.slice (some ⟨g, 0, none⟩) (xs.length + 1) c9)) g (xs.length * 6) y) b o x y xs sb sc ∧ Added w ((put6at w9 g (xs.length * 6) y).setCell ⟨b, o + 4, none⟩ (.slice (some ⟨g, 0, none⟩) (xs.length + 1) c9)) b o x y xs sb sc := by
  have z2 := hB2.size
  have zd := hd.size
  have z9 := hg.size
  have hcap := hr.cap
  have hl : (xs ++ [zeroX]).length = xs.length + 1 := by simp
  rw [hl] at hcap
  obtain ⟨hm9, hc9⟩ := hcap
  subst hm9
  obtain ⟨A', c', e, _, _, hA⟩ := hr.form
  injection e with e1 _ e3
  subst e1 e3
  obtain ⟨g, rfl, _, hg9⟩ := hA (by omega)
  have hgb : g ≠ b ∧ (∀ k, k < w2.heap.size → w.heap.size ≤ k → k ≠ g) ∧ ((Value.slice x.A x.n x.c).ownBlock = some g ∨ w.heap.size ≤ g) := by
    rcases ha with e | e
    · have e : (Value.slice x.A x.n x.c).ownBlock = some g := e.symm
      have := hne g e
      exact ⟨this.1, fun k _ h => by omega, .inl e⟩
    · have e : some g = some wd.heap.size := e
      injection e with e
      exact ⟨by omega, fun k h _ => by omega, .inr (by omega)⟩
  have old : ∀ k, k < w2.heap.size → (Value.slice x.A x.n x.c).ownBlock ≠ some k → w9.heap[k]? = w2.heap[k]? := fun k hk hn => (hg.block k (by omega) (fun e => hn e.symm)).trans (hd.block k hk)
  have hbo : w9.heap[b]? = w.heap[b]? := (old b (by omega) (fun e => (hne b e).1 rfl)).trans (hB2.block b hb)
  have hsk : ∀ k, k < w2.heap.size → w.heap.size ≤ k → w9.heap[k]? = w2.heap[k]? := fun k hk hw => old k hk (fun e => by have := (hne k e).2; omega)
  have hT9 : Touch (fun k => k = b ∨ (Value.slice x.A x.n x.c).ownBlock = some k) w w9 := by
    refine ⟨hg.os.trans (hd.os.trans hB2.os), hg.tape.trans (hd.tape.trans hB2.tape), hg.output.trans (hd.output.trans hB2.output), by omega, fun k hk hn => ?_⟩
    exact (old k (by omega) (fun e => hn (.inr e))).trans (hB2.block k hk)
  have rd := hr.rd
  have cz : ∀ j u, (v6Cells zeroX)[j]? = some u → w9.cell? ⟨g, xs.length * 6 + j, none⟩ = some u := fun j u hu => by
    have := rd.at rfl (i := xs.length) (a := zeroX) (by simp) (j := j) (u := u) hu
    simpa [show valK.n = 6 from rfl] using this
  have sbg := hgb.2.1 sb hs hsw
  refine ⟨g, rfl, rfl, hc9, hgb.1, hg9, by omega, fun i => hr.free i, fun i => World.cell?_of_block (by exact hbo), fun i => World.frozen?_of_block (by exact hbo), fun k h1 h2 => ⟨hsk k h1 h2, hgb.2.1 k h1 h2, by omega⟩, cz 0 _ rfl, cz 1 _ rfl, cz 2 _ rfl, cz 3 _ rfl, cz 4 _ rfl, cz 5 _ rfl, ?_, ?_⟩
  · have hr' : GRow valK (w9.setCell ⟨b, o + 4, none⟩ (.slice (some ⟨g, 0, none⟩) (xs.length + 1) c9)) 0 (.slice (some ⟨g, 0, none⟩) (xs.length + 1) c9) (xs ++ [zeroX]) := hr.stay (fun k hk => by
      obtain rfl := ownBlock_is hk
      exact Below.heap_setCell _ _ _ _ hgb.1)
    have ht := put6at_touch (w9.setCell ⟨b, o + 4, none⟩ (.slice (some ⟨g, 0, none⟩) (xs.length + 1) c9)) g (xs.length * 6) y
    refine ⟨g, c9, put6at_row zeroX y hr', hgb.2.2, hgb.1, fun e => sbg e.symm, ?_, ?_, ?_⟩
    · rw [ht.block b (by rw [set_size]; omega) (fun e => hgb.1 e.symm)]
      simp only [World.setCell, Array.getElem?_modify, hbo]
    · refine (hT9.setCell (p := ⟨b, o + 4, none⟩) (.inl (.inl rfl)) _).trans ht (fun k hk e => ?_)
      subst e
      rcases hgb.2.2 with h | h
      · exact .inr h
      · omega
    · refine ht.own ?_ (fun e => sbg e)
      exact Own.past ((hsk sb hs hsw).trans hS) (p := ⟨b, o + 4, none⟩) (by show sb ≠ b; omega) _
  · have ht := put6at_touch w9 g (xs.length * 6) y
    have hr' := put6at_row zeroX y hr
    refine ⟨g, c9, ?_, hgb.2.2, hgb.1, fun e => sbg e.symm, ?_, ?_, ?_⟩
    · exact hr'.stay (fun k hk => by
        obtain rfl := ownBlock_is hk
        exact Below.heap_setCell _ _ _ _ hgb.1)
    · have : (put6at w9 g (xs.length * 6) y).heap[b]? = w.heap[b]? := (ht.block b (by omega) (fun e => hgb.1 e.symm)).trans hbo
      simp only [World.setCell, Array.getElem?_modify, this]
    · refine Touch.setCell ?_ (p := ⟨b, o + 4, none⟩) (.inl (.inl rfl)) _
      refine hT9.trans ht (fun k hk e => ?_)
      subst e
      rcases hgb.2.2 with h | h
      · exact .inr h
      · omega
    · refine Own.past ?_ (p := ⟨b, o + 4, none⟩) (by show sb ≠ b; omega) _
      exact ht.own ((hsk sb hs hsw).trans hS) (fun e => sbg e)

end Go.Proofs.YthpkcapooeedeaaDoor
