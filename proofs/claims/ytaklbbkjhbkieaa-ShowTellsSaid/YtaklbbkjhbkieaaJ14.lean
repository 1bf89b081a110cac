/- Slices of pointers to values, and of pairs of them; how much a value holds. -/
import Derived.Test.YtaklbbkjhbkieaaJ13
namespace Go.Proofs.Ytaklbbkjhbkieaa
open Go.RowKit
set_option linter.unusedVariables false

mutual
/-- How many values, and names, are in a value, itself counted. -/
def sizeT : Tree → Nat
  | .mk _ _ _ _ items names => 1 + names.length + sizeL items
def sizeL : List Tree → Nat
  | [] => 0
  | t :: ts => sizeT t + sizeL ts
end
theorem sizeT_pos : ∀ t : Tree, 1 ≤ sizeT t
  | .mk _ _ _ _ _ _ => by unfold sizeT; omega
theorem sizeL_len : ∀ ts : List Tree, ts.length ≤ sizeL ts
  | [] => Nat.le_refl _
  | t :: ts => by
    have := sizeL_len ts
    have := sizeT_pos t
    unfold sizeL
    simp
    omega
theorem sizeL_app : ∀ ts us : List Tree, sizeL (ts ++ us) = sizeL ts + sizeL us
  | [], us => by simp [sizeL]
  | t :: ts, us => by
    show sizeT t + sizeL (ts ++ us) = sizeT t + sizeL ts + sizeL us
    rw [sizeL_app ts us]
    omega
theorem sizeL_mem {t : Tree} : ∀ {ts : List Tree}, t ∈ ts → sizeT t ≤ sizeL ts
  | u :: ts, h => by
    rcases List.mem_cons.1 h with rfl | h
    · unfold sizeL; omega
    · have := sizeL_mem h
      unfold sizeL; omega

/-- The cells of a value at a place. -/
def CellsAt (w : World) (p : Addr) (x : V6) : Prop := ∃ b o : Nat, p = ⟨b, o, none⟩ ∧ b < w.heap.size ∧ ∀ j u, (v6Cells x)[j]? = some u → w.cell? ⟨b, o + j, none⟩ = some u
section
variable {w w' : World} {p : Addr} {x : V6}
theorem CellsAt.below (h : CellsAt w p x) (hb : Below w.heap.size w w') : CellsAt w' p x := by
  obtain ⟨b, o, rfl, h1, h2⟩ := h
  exact ⟨b, o, rfl, by have := hb.size; omega, fun j u hu => (hb.cell (p := ⟨b, o + j, none⟩) h1).trans (h2 j u hu)⟩
theorem CellsAt.of_own {b : Nat} {T : TypeId} (h : Own w b T (v6Cells x).toArray) : CellsAt w ⟨b, 0, none⟩ x :=
  ⟨b, 0, rfl, h.inside, fun j u hu => by rw [Nat.zero_add, h.at j]; simpa using hu⟩
/-- An item's cells. -/
theorem RdG.item {A : Option Addr} {m : Nat} {xs : List V6} (h : RdG valK w A m xs) {i : Nat} (hx : xs[i]? = some x) : ∃ b o : Nat, A = some ⟨b, o, none⟩ ∧ CellsAt w ⟨b, o + i * 6, none⟩ x := by
  have hi : i < xs.length := (List.getElem?_eq_some_iff.1 hx).1
  obtain ⟨b, o, e, hlt, _⟩ := h.2 (by have := h.1; omega)
  refine ⟨b, o, e, b, o + i * 6, rfl, hlt, fun j u hu => ?_⟩
  have := h.at e hx (j := j) (u := u) hu
  rw [show valK.n = 6 from rfl, ← Nat.add_assoc] at this
  exact this
end

/-- Appending elements, as one step of a region that draws. -/
theorem step_row_app {α : Type} {KK : RowK α} {ops : Array Oper} {o : Oper} {a : Act} {w : World} {K : Act → World → Prop} {Q : Exit → Act → World → Prop} {E : Prop} (hgd : o.guard = none) (s x : Operand) (ho : o.op = .call { callee := .builtin .append, args := #[s, x], argTypes := #[KK.S, KK.S] })
    (base : Nat) (v : Value) (l : List α) (hs : a.eval s = v) (hown : GRow KK w base v l) (A : Option Addr) (m c : Nat) (news : List α) (hx : a.eval x = .slice A m c) (hr : RdG KK w A m news)
    (h63 : l.length + m ≤ 1000000000) (hbase : base ≤ w.heap.size)
    (hK : ∀ v' w', GRow KK w' base v' (l ++ news) → w.grownBy w' v.ownBlock → (v'.ownBlock = v.ownBlock ∨ v'.ownBlock = some w.heap.size) → K (a.put o.dst v') w') : if Region.wanted o (yielded ops a.tmps) = true then Oper.wp Try.prog o a w K Q else E := by
  have hw : Region.wanted o (yielded ops a.tmps) = true := by simp [Region.wanted, hgd]
  rw [if_pos hw]
  obtain ⟨v', w', hrun, h2, h3, h5⟩ := run_row_append w base o.type v l hown A m c news hr h63 hbase
  unfold Oper.wp execOp
  simp only [ho, resolve, invoke, builtin, Sem.run_bind, Sem.run_pure, Result.andThen_ok, List.map_toArray, List.map_cons, List.map_nil, hs, hx, hrun]
  exact hK v' w' h2 h3 h5

end Go.Proofs.Ytaklbbkjhbkieaa
