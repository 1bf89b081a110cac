/- What a call may turn, as a set of blocks; what is read, with the set of its blocks. -/
import Derived.Test.YtfkbmecmancgpaaRow
namespace Go.Proofs.Ytfkbmecmancgpaa
open Go.RowKit
set_option linter.unusedVariables false

/-- Of the blocks that were there only those of F may differ. -/
structure Touch (F : Nat → Prop) (w w' : World) : Prop where
  os : w'.os = w.os
  tape : w'.tape = w.tape
  output : w'.output = w.output
  size : w.heap.size ≤ w'.heap.size
  block : ∀ k, k < w.heap.size → ¬ F k → w'.heap[k]? = w.heap[k]?

section
variable {F G : Nat → Prop} {w w' w'' : World}
theorem Touch.refl (F : Nat → Prop) (w : World) : Touch F w w := ⟨rfl, rfl, rfl, Nat.le_refl _, fun _ _ _ => rfl⟩
theorem Touch.trans (h : Touch F w w') (g : Touch G w' w'') (hs : ∀ k, k < w.heap.size → G k → F k) : Touch F w w'' :=
  ⟨g.os.trans h.os, g.tape.trans h.tape, g.output.trans h.output, Nat.le_trans h.size g.size,
   fun k hk hn => (g.block k (Nat.lt_of_lt_of_le hk h.size) (fun e => hn (hs k hk e))).trans (h.block k hk hn)⟩
theorem Touch.mono (h : Touch F w w') (hs : ∀ k, k < w.heap.size → F k → G k) : Touch G w w' :=
  ⟨h.os, h.tape, h.output, h.size, fun k hk hn => h.block k hk (fun e => hn (hs k hk e))⟩
theorem Touch.of_below {B : Nat} (h : Below B w w') (hs : ∀ k, k < w.heap.size → B ≤ k → F k) : Touch F w w' :=
  ⟨h.os, h.tape, h.output, h.size, fun k hk hn => h.block k (by
    by_cases hb : k < B
    · exact hb
    · exact absurd (hs k hk (by omega)) hn)⟩
theorem Touch.of_new (h : Below w.heap.size w w') : Touch F w w' := Touch.of_below h (fun k hk hB => absurd hB (by omega))
theorem Touch.below {B : Nat} (h : Touch F w w') (hs : ∀ k, k < w.heap.size → F k → B ≤ k) (hB : B ≤ w.heap.size) : Below B w w' :=
  ⟨h.os, h.tape, h.output, h.size, fun k hk => h.block k (by omega) (fun e => by have := hs k (by omega) e; omega)⟩
theorem Touch.of_turned {b : Nat} (h : Turned b w w') (hb : F b) : Touch F w w' :=
  ⟨h.1, h.2.1, h.2.2.1, h.2.2.2.1, fun k hk hn => h.2.2.2.2 k hk (fun e => hn (e ▸ hb))⟩
theorem Touch.alloc (h : Touch F w w') (o : Obj) : Touch F w (w'.alloc o) :=
  h.trans (Touch.of_new (F := F) ((Below.refl _ _).alloc (Nat.le_refl _) o)) (fun _ _ h => h)
theorem Touch.drewN (h : Touch F w w') (q : Nat) : Touch F w (w'.drewN q) := ⟨h.os, h.tape, h.output, h.size, h.block⟩
theorem Touch.setCell (h : Touch F w w') {p : Addr} (hp : F p.block ∨ w.heap.size ≤ p.block) (u : Value) : Touch F w (w'.setCell p u) :=
  ⟨h.os, h.tape, h.output, by have := h.size; simp [World.setCell]; omega, fun k hk hn => (Below.heap_setCell w' p u k (fun e => by
    rcases hp with hp | hp
    · exact hn (e ▸ hp)
    · omega)).trans (h.block k hk hn)⟩
theorem Touch.grown {row : Option Nat} (h : Touch F w w') (hg : w'.grownBy w'' row) (hr : ∀ k, row = some k → F k ∨ w.heap.size ≤ k) : Touch F w w'' :=
  ⟨hg.os.trans h.os, hg.tape.trans h.tape, hg.output.trans h.output, Nat.le_trans h.size hg.size, fun k hk hn => (hg.block k (Nat.lt_of_lt_of_le hk h.size) (fun e => by
    rcases hr k e.symm with hh | hh
    · exact hn hh
    · omega)).trans (h.block k hk hn)⟩
theorem Touch.own {b : Nat} {t : TypeId} {cs : Array Value} (h : Touch F w w') (ho : Own w b t cs) (hn : ¬ F b) : Own w' b t cs := (h.block b ho.inside hn).trans ho
theorem Touch.row {base : Nat} {e : TypeId} {v : Value} {n : Nat} {xs : List Value} (h : Touch F w w') (ho : w.ownsRow base e 1 v n xs) (hn : ∀ g, v.ownBlock = some g → ¬ F g) : w'.ownsRow base e 1 v n xs := by
  refine ⟨ho.1, ?_⟩
  rcases ho.2 with hh | ⟨g, c, cur, rfl, hb, hg, rest⟩
  · exact .inl hh
  · exact .inr ⟨g, c, cur, rfl, hb, (h.block g (Array.getElem?_eq_some_iff.1 hg).1 (hn g rfl)).trans hg, rest⟩

/-- What a slice of one-cell elements reads as; its cells lie in a block of G. -/
def RdS (w : World) (G : Nat → Prop) (A : Option Addr) (n : Nat) (xs : List Value) : Prop :=
  xs.length = n ∧ (0 < n → ∃ ad : Addr, A = some ad ∧ G ad.block ∧ ∀ j u, xs[j]? = some u → w.cell? (ad.add j) = some u)

variable {A : Option Addr} {n : Nat} {xs : List Value}
theorem RdS.live (h : RdS w G A n xs) : Rd w w.heap.size A n xs :=
  ⟨h.1, fun hn => by
    obtain ⟨ad, e, _, hc⟩ := h.2 hn
    have h0 : 0 < xs.length := by have := h.1; omega
    have := cell_inside (hc 0 xs[0] (List.getElem?_eq_getElem h0))
    rw [add_block] at this
    exact ⟨ad, e, this, hc⟩⟩
theorem RdS.stay (h : RdS w G A n xs) (ht : Touch F w w') (hd : ∀ k, k < w.heap.size → G k → ¬ F k) : RdS w' G A n xs :=
  ⟨h.1, fun hn => by
    obtain ⟨ad, e, hg, hc⟩ := h.2 hn
    refine ⟨ad, e, hg, fun j u hu => ?_⟩
    have := hc j u hu
    have hin := cell_inside this
    rw [add_block] at hin
    rw [World.cell?_of_block (w := w) (by rw [add_block]; exact ht.block _ hin (hd _ hin hg))]
    exact this⟩
theorem RdS.mono (h : RdS w F A n xs) (hs : ∀ k, k < w.heap.size → F k → G k) : RdS w G A n xs :=
  ⟨h.1, fun hn => by
    obtain ⟨ad, e, hg, hc⟩ := h.2 hn
    have h0 : 0 < xs.length := by have := h.1; omega
    have := cell_inside (hc 0 xs[0] (List.getElem?_eq_getElem h0))
    rw [add_block] at this
    exact ⟨ad, e, hs _ this hg, hc⟩⟩
theorem Rd.toS {B : Nat} (h : Rd w B A n xs) : RdS w (· < B) A n xs := h
theorem RdS.of_row {base c : Nat} {e : TypeId} (h : w.ownsRow base e 1 (.slice A n c) n xs) (hG : ∀ g, base ≤ g → g < w.heap.size → G g) : RdS w G A n xs := by
  refine ⟨by simpa using h.1, fun hn => ?_⟩
  have hl := h.lt
  rcases h.2 with ⟨_, h0⟩ | ⟨g, cap, cur, hv, hb, hg, _⟩
  · omega
  · injection hv with hA _ _
    subst hA
    have := hl g rfl
    exact ⟨_, rfl, hG _ this.1 this.2, h.cells (g := g) rfl⟩
end

end Go.Proofs.Ytfkbmecmancgpaa
