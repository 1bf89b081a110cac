/- Slices of the call's own whose elements take several cells: whatever the element: what they hold, appending, cutting. -/
import Derived.Test.YtkianpaihdidnaaLaw12H
namespace Go.Proofs.Ytkianpaihdidnaa
open Go.RowKit
set_option linter.unusedVariables false

/-- How elements lie in a slice: their type, the slices' type, how many cells and bytes each takes, and which. -/
structure RowK (α : Type) where
  T : TypeId
  S : TypeId
  n : Nat
  bytes : Nat
  zero : Value
  enc : α → List Value
  pos : 0 < n
  len : ∀ a, (enc a).length = n
  one : ∀ a, ∀ u ∈ enc a, u.oneCell' = true
  under : Try.prog.underlying S = some (.slice T)
  info : (Try.prog.info? T).map (fun i => (i.zero, i.size, i.bytes)) = some (some zero, n, bytes)
  zlen : zero.cells.size = n
  small : bytes ≤ 1000

section
variable {α : Type} (K : RowK α)
/-- The cells of elements, one behind the other. -/
def RowK.all : List α → List Value
  | [] => []
  | a :: t => K.enc a ++ RowK.all t
theorem RowK.all_len : ∀ l : List α, (K.all l).length = l.length * K.n
  | [] => by simp [RowK.all]
  | a :: t => by simp [RowK.all, K.len, RowK.all_len t, Nat.add_mul]; omega
theorem RowK.all_append : ∀ l m : List α, K.all (l ++ m) = K.all l ++ K.all m
  | [], m => rfl
  | a :: t, m => by simp [RowK.all, RowK.all_append t m]
theorem RowK.all_one : ∀ l : List α, ∀ u ∈ K.all l, u.oneCell' = true
  | [], u, h => by cases h
  | a :: t, u, h => by
    rcases List.mem_append.1 h with h | h
    · exact K.one a u h
    · exact RowK.all_one t u h
theorem RowK.all_at : ∀ (l : List α) (i : Nat) (a : α), l[i]? = some a → ∀ j, j < K.n → (K.all l)[i * K.n + j]? = (K.enc a)[j]?
  | [], i, a, h => by cases h
  | u :: t, 0, a, h => by
    intro j hj
    obtain rfl : u = a := by simpa using h
    show (K.enc u ++ K.all t)[0 * K.n + j]? = _
    rw [Nat.zero_mul, Nat.zero_add, List.getElem?_append_left (by rw [K.len]; exact hj)]
  | u :: t, i + 1, a, h => by
    intro j hj
    have := RowK.all_at t i a (by simpa using h) j hj
    rw [← this]
    show (K.enc u ++ K.all t)[(i + 1) * K.n + j]? = _
    rw [List.getElem?_append_right (by rw [K.len, Nat.add_mul]; omega), K.len]
    congr 1
    rw [Nat.add_mul]
    omega
theorem RowK.all_take : ∀ (l : List α) (k : Nat), K.all (l.take k) = (K.all l).take (k * K.n)
  | [], k => by simp [RowK.all]
  | a :: t, 0 => by simp [RowK.all]
  | a :: t, k + 1 => by
    rw [List.take_succ_cons]
    show K.enc a ++ K.all (t.take k) = (K.enc a ++ K.all t).take ((k + 1) * K.n)
    have e1 : (K.enc a).take ((k + 1) * K.n) = K.enc a := List.take_of_length_le (by rw [K.len, Nat.add_mul]; omega)
    have e2 : (k + 1) * K.n - K.n = k * K.n := by rw [Nat.add_mul]; omega
    rw [RowK.all_take t k, List.take_append, K.len, e1, e2]

/-- What a slice of such elements reads as. -/
def RdG (w : World) (A : Option Addr) (m : Nat) (l : List α) : Prop :=
  l.length = m ∧ (0 < m → ∃ b o : Nat, A = some ⟨b, o, none⟩ ∧ b < w.heap.size ∧ ∀ j u, (K.all l)[j]? = some u → w.cell? ⟨b, o + j, none⟩ = some u)
/-- A slice of such elements of the call's own: its block is none below base. -/
def GRow (w : World) (base : Nat) (v : Value) (l : List α) : Prop := w.ownsRow base K.T K.n v l.length (K.all l)

variable {K} {w w' : World} {base : Nat} {v : Value} {l : List α}
theorem GRow.nil (w : World) (base : Nat) : GRow K w base (.slice none 0 0) [] := ⟨by simp [RowK.all], .inl ⟨rfl, rfl⟩⟩
theorem GRow.form (h : GRow K w base v l) : ∃ A c, v = .slice A l.length c ∧ l.length ≤ c ∧ c ≤ maxLen ∧ (0 < l.length → ∃ g, A = some ⟨g, 0, none⟩ ∧ base ≤ g ∧ g < w.heap.size) := by
  rcases h.2 with ⟨rfl, h0⟩ | ⟨g, c, cur, rfl, hb, hg, h1, h2, _⟩
  · exact ⟨none, 0, by rw [h0], by omega, by decide, fun h => by omega⟩
  · exact ⟨_, c, rfl, h1, h2, fun _ => ⟨g, rfl, hb, (Array.getElem?_eq_some_iff.1 hg).1⟩⟩
theorem GRow.stay (h : GRow K w base v l) (hk : ∀ g, v.ownBlock = some g → w'.heap[g]? = w.heap[g]?) : GRow K w' base v l := by
  refine ⟨h.1, ?_⟩
  rcases h.2 with hn | ⟨g, c, cur, rfl, hbg, hg, rest⟩
  · exact .inl hn
  · exact .inr ⟨g, c, cur, rfl, hbg, (hk g rfl).trans hg, rest⟩
theorem GRow.low (h : GRow K w base v l) {g : Nat} (hg : v.ownBlock = some g) : base ≤ g ∧ g < w.heap.size := by
  rcases h.2 with ⟨rfl, _⟩ | ⟨g', c, cur, rfl, hb, hh, _⟩
  · cases hg
  · obtain rfl : g' = g := by simpa [Value.ownBlock] using hg
    exact ⟨hb, (Array.getElem?_eq_some_iff.1 hh).1⟩
theorem GRow.mono {B : Nat} (h : GRow K w base v l) (hB : B ≤ base) : GRow K w B v l := by
  refine ⟨h.1, ?_⟩
  rcases h.2 with hn | ⟨g, c, cur, rfl, hbg, rest⟩
  · exact .inl hn
  · exact .inr ⟨g, c, cur, rfl, by omega, rest⟩
theorem GRow.rd {A : Option Addr} {m c : Nat} (h : GRow K w base (.slice A m c) l) : RdG K w A l.length l := by
  refine ⟨rfl, fun hn => ?_⟩
  rcases h.2 with ⟨hv, h0⟩ | ⟨g, c', cur, hv, hb, hg, _⟩
  · omega
  · injection hv with hA hn' hc
    subst hA hn' hc
    have hc := h.cells (g := g) rfl
    refine ⟨g, 0, rfl, (Array.getElem?_eq_some_iff.1 hg).1, fun j u hu => ?_⟩
    have := hc j u hu
    rwa [add_none] at this
/-- An element's cells. -/
theorem RdG.at {A : Option Addr} {m : Nat} (h : RdG K w A m l) {b o : Nat} (hA : A = some ⟨b, o, none⟩) {i : Nat} {a : α} (ha : l[i]? = some a) {j : Nat} {u : Value} (hu : (K.enc a)[j]? = some u) : w.cell? ⟨b, o + (i * K.n + j), none⟩ = some u := by
  have hi : i < l.length := (List.getElem?_eq_some_iff.1 ha).1
  obtain ⟨b', o', e, _, hc⟩ := h.2 (by have := h.1; omega)
  rw [hA] at e
  injection e with e
  injection e with e1 e2
  subst e1 e2
  have hj : j < K.n := by
    have := (List.getElem?_eq_some_iff.1 hu).1
    rwa [K.len] at this
  exact hc _ _ ((K.all_at l i a ha j hj).trans hu)
/-- Elements just made. -/
theorem GRow.made (w : World) (cs : Array Value) (hc : cs = (K.all l).toArray) (hl : l.length ≤ maxLen) (hb : base ≤ w.heap.size) : GRow K (w.alloc (.cells cs K.T)) base (.slice (some ⟨w.heap.size, 0, none⟩) l.length l.length) l := by
  subst hc
  refine ⟨K.all_len l, .inr ⟨w.heap.size, l.length, _, rfl, hb, heap_alloc_new w _, Nat.le_refl _, hl, by simp [K.all_len], ?_⟩⟩
  rw [List.take_of_length_le]
  simp [K.all_len]
/-- Cut off behind the first k. -/
theorem GRow.cut {A : Option Addr} {m c k : Nat} (h : GRow K w base (.slice A m c) l) (hk : k ≤ l.length) : GRow K w base (.slice A k c) (l.take k) := by
  have hl : (l.take k).length = k := by simp; omega
  unfold GRow at h ⊢
  rw [hl]
  refine ⟨by rw [K.all_len, hl], ?_⟩
  rcases h.2 with ⟨hv, h0⟩ | ⟨g, c', cur, hv, hb, hg, h1, h2, h3, h4⟩
  · injection hv with hA hm hc
    obtain rfl : k = 0 := by omega
    exact .inl ⟨by rw [hA, hc], rfl⟩
  · injection hv with hA hm hc
    refine .inr ⟨g, c', cur, by rw [hA, hc], hb, hg, by omega, h2, h3, ?_⟩
    rw [K.all_take, ← h4, List.take_take, Nat.min_eq_left (Nat.mul_le_mul_right _ hk)]
/-- One element of one cell written over. -/
theorem GRow.put {g m c i : Nat} {a : α} {u : Value} (h1 : K.n = 1) (h : GRow K w base (.slice (some ⟨g, 0, none⟩) m c) l) (hi : i < l.length) (hu : K.enc a = [u]) : GRow K (w.setCell ⟨g, i, none⟩ u) base (.slice (some ⟨g, 0, none⟩) m c) (l.set i a) := by
  have hset : ∀ (l : List α) (i : Nat), i < l.length → K.all (l.set i a) = (K.all l).set i u := by
    intro l
    induction l with
    | nil => intro i h; simp at h
    | cons b t ih =>
      intro i hi
      obtain ⟨x, hx⟩ : ∃ x, K.enc b = [x] := by
        have := K.len b
        rw [h1] at this
        exact List.length_eq_one_iff.1 this
      cases i with
      | zero => show K.enc a ++ K.all t = (K.enc b ++ K.all t).set 0 u; rw [hu, hx]; rfl
      | succ i =>
        show K.enc b ++ K.all (t.set i a) = (K.enc b ++ K.all t).set (i + 1) u
        rw [hx, ih i (by simpa using hi)]; rfl
  unfold GRow at h ⊢
  rw [List.length_set, hset l i hi]
  refine ⟨by rw [List.length_set]; exact h.1, ?_⟩
  rcases h.2 with ⟨hv, h0⟩ | ⟨g', c', cur, hv, hb, hg, g1, g2, g3, g4⟩
  · cases hv
  · injection hv with hA hm hc
    injection hA with hA
    injection hA with hA
    subst hA
    refine .inr ⟨g, c', cur.setIfInBounds i u, by rw [hm, hc], hb, ?_, g1, g2, by simpa using g3, ?_⟩
    · simp [World.setCell, Array.getElem?_modify, hg]
    · rw [Array.toList_setIfInBounds, List.take_set, g4]

theorem GRow.free {g m c : Nat} (h : GRow K w base (.slice (some ⟨g, 0, none⟩) m c) l) (i : Nat) : w.frozen? ⟨g, i, none⟩ = false := by
  rcases h.2 with ⟨hv, h0⟩ | ⟨g', c', cur, hv, hb, hg, _⟩
  · cases hv
  · injection hv with hA hm hc
    injection hA with hA
    injection hA with hA
    subst hA
    simp [World.frozen?, hg]

theorem run_row_append (w : World) (base : Nat) (ty : TypeId) (v : Value) (l : List α) (hown : GRow K w base v l) (A : Option Addr) (m c : Nat) (news : List α) (hr : RdG K w A m news)
    (h63 : l.length + m ≤ 1000000000) (hbase : base ≤ w.heap.size) :
    ∃ v' w', (Builtin.append_ #[K.S, K.S] ty #[v, .slice A m c]).run Try.prog w = .ok v' w' ∧ GRow K w' base v' (l ++ news) ∧ w.grownBy w' v.ownBlock ∧ (v'.ownBlock = v.ownBlock ∨ v'.ownBlock = some w.heap.size) := by
  obtain ⟨i, hi, hz, hsize, hby⟩ := info_parts K.info
  have hl : (l ++ news).length = l.length + m := by rw [List.length_append, hr.1]
  cases A with
  | none =>
    have hm : m = 0 := by
      by_cases h : 0 < m
      · obtain ⟨b, o, e, _⟩ := hr.2 h
        cases e
      · omega
    subst hm
    obtain rfl : news = [] := List.eq_nil_of_length_eq_zero hr.1
    refine ⟨v, w, ?_, by simpa using hown, ⟨rfl, rfl, rfl, Nat.le_refl _, fun _ _ _ => rfl⟩, .inl rfl⟩
    have ht := K.under
    rcases hown.2 with ⟨rfl, h0⟩ | ⟨g, cap, cur, rfl, _, _, hnc, _⟩
    · simp [Builtin.append_, run_underlying ht, sizeOf, typeInfo, hi, Builtin.lenOf, Builtin.firstCells]
    · simp [Builtin.append_, run_underlying ht, sizeOf, typeInfo, hi, Builtin.lenOf, Builtin.firstCells, hnc, storeCells]
  | some ad =>
    have hc : ∀ j u, (K.all news)[j]? = some u → w.cell? (ad.add j) = some u := by
      intro j u hu
      have hm : 0 < m := by
        have h1 := hr.1
        have h2 := (List.getElem?_eq_some_iff.1 hu).1
        rw [K.all_len] at h2
        rcases Nat.eq_zero_or_pos news.length with h | h
        · rw [h] at h2; simp at h2
        · omega
      obtain ⟨b, o, e, _, h⟩ := hr.2 hm
      have e' : ad = ⟨b, o, none⟩ := Option.some.inj e
      rw [e', add_none]
      exact h j u hu
    have hbytes : (l.length + m) * K.bytes ≤ 140737488355328 := by
      have := Nat.mul_le_mul h63 K.small
      omega
    obtain ⟨v', w', h1, h2, h3, _, h5⟩ := run_append_own_at (P := Try.prog) w base K.S ty K.T i _ K.n K.bytes K.under hi hz hsize hby K.zlen K.pos v l.length (K.all l) hown ad m c (K.all news) (by rw [K.all_len, hr.1]) hc (K.all_one news) (by unfold maxLen; omega) hbytes hbase
    refine ⟨v', w', h1, ?_, h3, h5⟩
    unfold GRow
    rw [hl, K.all_append]
    exact h2

/-- Appending elements. -/
theorem row_append {ops : Array Oper} {rest : List Oper} {o : Oper} {a : Act} {Q : Exit → Act → World → Prop} (w : World) (hgd : o.guard = none) (s x : Operand) (ho : o.op = .call { callee := .builtin .append, args := #[s, x], argTypes := #[K.S, K.S] })
    (base : Nat) (v : Value) (l : List α) (hs : a.eval s = v) (hown : GRow K w base v l) (A : Option Addr) (m c : Nat) (news : List α) (hx : a.eval x = .slice A m c) (hr : RdG K w A m news)
    (h63 : l.length + m ≤ 1000000000) (hbase : base ≤ w.heap.size)
    (h : ∀ v' w', GRow K w' base v' (l ++ news) → w.grownBy w' v.ownBlock → (v'.ownBlock = v.ownBlock ∨ v'.ownBlock = some w.heap.size) → wpList Try.prog ops Q rest (a.put o.dst v') w') : wpList Try.prog ops Q (o :: rest) a w :=
  wpList_plain hgd fun _ hK => by
    obtain ⟨v', w', hrun, h2, h3, h5⟩ := run_row_append w base o.type v l hown A m c news hr h63 hbase
    unfold Oper.wp execOp
    simp only [ho, resolve, invoke, builtin, Sem.run_bind, Sem.run_pure, Result.andThen_ok, List.map_toArray, List.map_cons, List.map_nil, hs, hx, hrun]
    exact hK _ _ (h v' w' h2 h3 h5)
end

end Go.Proofs.Ytkianpaihdidnaa
