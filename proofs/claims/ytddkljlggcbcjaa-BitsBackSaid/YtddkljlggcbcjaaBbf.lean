/- A buffer of bools of the call's own (as XBuf). -/
import Derived.Test.YtddkljlggcbcjaaLaw08
namespace Go.Proofs.Ytddkljlggcbcjaa
open Go.RowKit

/-- A slice of bools that came in. -/
def IsBools (w : World) (A : Option Addr) (len cap : Nat) (l : List Bool) : Prop :=
  (A = none ∧ len = 0 ∧ cap = 0 ∧ l = []) ∨ ∃ ad : Addr, A = some ad ∧ len ≤ cap ∧ l.length = len ∧ ∀ i, i < len → w.cell? (ad.add i) = some (.bool (l.getD i false))
theorem Rd.of_bools {w : World} {A : Option Addr} {len cap : Nat} {l : List Bool} (h : IsBools w A len cap l) : Rd w w.heap.size A len (bools l) := by
  rcases h with ⟨rfl, rfl, rfl, rfl⟩ | ⟨ad, rfl, _, hl, hc⟩
  · exact ⟨rfl, fun h => absurd h (by omega)⟩
  · refine ⟨by rw [bools_length, hl], fun hn => ⟨ad, rfl, ?_, fun j u hu => ?_⟩⟩
    · have := cell_inside (hc 0 hn)
      rwa [add_block] at this
    · unfold bools at hu
      rw [List.getElem?_map, Option.map_eq_some_iff] at hu
      obtain ⟨b, hb, rfl⟩ := hu
      have hj : j < len := by have := (List.getElem?_eq_some_iff.1 hb).1; omega
      rw [hc j hj, List.getD_eq_getElem?_getD, hb]
      rfl

theorem bools_append (l m : List Bool) : bools (l ++ m) = bools l ++ bools m := by simp [bools]

/-- v is a slice of the call's own (its block is none below base) that holds l. -/
def Bbf (w : World) (base : Nat) (v : Value) (l : List Bool) : Prop :=
  ∃ g c : Nat, v = .slice (some ⟨g, 0, none⟩) l.length c ∧ w.ownsRow base 4 1 v l.length (bools l)

section
variable {w w' : World} {base : Nat} {v : Value} {l : List Bool}
theorem Bbf.form (h : Bbf w base v l) : ∃ g c : Nat, v = .slice (some ⟨g, 0, none⟩) l.length c ∧ base ≤ g ∧ g < w.heap.size := by
  obtain ⟨g, c, rfl, ho⟩ := h
  obtain ⟨g', c', e, h1, h2, _⟩ := own_form ho (by intro e; cases e)
  injection e with e1 _ _
  injection e1 with e1
  injection e1 with e1
  exact ⟨g, c, rfl, by omega, by omega⟩
theorem Bbf.stay (h : Bbf w base v l) {B : Nat} (hb : Below B w w') (hB : w.heap.size ≤ B) : Bbf w' base v l := by
  obtain ⟨g0, c0, e, _, hlt⟩ := h.form
  obtain ⟨g, c, rfl, ho⟩ := h
  refine ⟨g, c, rfl, own_stay ho hb fun k hk => ?_⟩
  injection e with e1 _ _
  injection e1 with e1
  injection e1 with e1
  rw [ownBlock_is hk]
  omega
theorem Bbf.rd (h : Bbf w base v l) {g c n : Nat} (hv : v = .slice (some ⟨g, 0, none⟩) n c) : Rd w w.heap.size (some ⟨g, 0, none⟩) l.length (bools l) := by
  obtain ⟨g', c', rfl, ho⟩ := h
  injection hv with e1 e2 e3
  injection e1 with e1
  injection e1 with e1
  subst e1
  exact Rd.of_owned ho
/-- A slice that was just made of constants is one. -/
theorem Bbf.made (w : World) (cs : Array Value) (l : List Bool) (hc : cs = (bools l).toArray) (hl : l.length ≤ maxLen) (hb : base ≤ w.heap.size) : Bbf (w.alloc (.cells cs 4)) base (.slice (some ⟨w.heap.size, 0, none⟩) l.length l.length) l := by
  subst hc
  refine ⟨_, _, rfl, ⟨by simp [bools_length], .inr ⟨w.heap.size, l.length, _, rfl, hb, heap_alloc_new w _, Nat.le_refl _, hl, by simp [bools_length], ?_⟩⟩⟩
  simp [List.take_of_length_le, bools_length]
end

section
variable {ops : Array Oper} {rest : List Oper} {o : Oper} {a : Act} {Q : Exit → Act → World → Prop}

/-- Appending bytes that lie in a slice. -/
theorem bbf_append (w : World) (hgd : o.guard = none) (s x : Operand) (ho : o.op = .call { callee := .builtin .append, args := #[s, x], argTypes := #[27, 27] })
    (base : Nat) (v : Value) (l : List Bool) (hs : a.eval s = v) (hown : Bbf w base v l) (B : Nat) (A : Option Addr) (m c : Nat) (news : List Bool) (hx : a.eval x = .slice A m c) (hr : Rd w B A m (bools news))
    (h63 : l.length + m ≤ 140737488355328 - 4096) (hbase : base ≤ w.heap.size)
    (h : ∀ v' w', Bbf w' base v' (l ++ news) → Below base w w' → wpList Try.prog ops Q rest (a.put o.dst v') w') : wpList Try.prog ops Q (o :: rest) a w := by
  obtain ⟨i0, hi, hz0, hz1, hz2⟩ := info_parts bool_info
  have hm : news.length = m := by have := hr.1; rwa [bools_length] at this
  obtain ⟨g0, c0, ev, hg0, _⟩ := hown.form
  obtain ⟨g, c', rfl, hown⟩ := hown
  refine wpList_append_rd w hgd s x _ ho base 4 i0 _ 1 Try.underlying27 hi hz0 hz1 hz2 rfl _ l.length (bools l) hs hown B A m c (bools news) hx hr (bools_one _) (by unfold maxLen; omega) (by omega) hbase ?_
  intro v' w' h2 hg hnil hat
  have hne : v' ≠ .slice none 0 0 := fun e => by have := hnil.1 e; simp at this
  obtain ⟨g2, c2, e2, _⟩ := own_form h2 hne
  refine h v' w' ⟨g2, c2, by rw [e2, List.length_append, hm], ?_⟩ ((Below.refl base w).grown hg hbase fun k hk => ?_)
  · rw [List.length_append, hm, bools_append]
    exact h2
  · injection ev with e1 _ _
    injection e1 with e1
    injection e1 with e1
    rw [ownBlock_is hk]
    omega

end

end Go.Proofs.Ytddkljlggcbcjaa
