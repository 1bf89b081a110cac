/- Slices of tokens of the call's own, and appending onto them. -/
import Derived.Test.YtoahnbjpmbhpfaaDoorLexN
namespace Go.Proofs.YtoahnbjpmbhpfaaDoor
open Go.RowKit
set_option linter.unusedVariables false

/-- The cells of tokens, one behind the other. -/
def tokAll : List Tok → List Value
  | [] => []
  | t :: ts => tokCells t ++ tokAll ts
theorem tokAll_len : ∀ ts : List Tok, (tokAll ts).length = ts.length * 5
  | [] => rfl
  | t :: ts => by simp [tokAll, tokCells, tokAll_len ts]; omega
theorem tokAll_append : ∀ ts us : List Tok, tokAll (ts ++ us) = tokAll ts ++ tokAll us
  | [], us => rfl
  | t :: ts, us => by simp [tokAll, tokAll_append ts us]
theorem tokAll_one : ∀ ts : List Tok, ∀ u ∈ tokAll ts, u.oneCell' = true
  | [], u, h => by cases h
  | t :: ts, u, h => by
    rcases List.mem_append.1 h with h | h
    · simp [tokCells] at h
      rcases h with rfl | rfl | rfl | rfl | rfl <;> rfl
    · exact tokAll_one ts u h
theorem tokAll_at : ∀ (ts : List Tok) (i : Nat) (t : Tok), ts[i]? = some t → ∀ j, j < 5 → (tokAll ts)[i * 5 + j]? = (tokCells t)[j]?
  | [], i, t, h => by cases h
  | u :: ts, 0, t, h => by
    intro j hj
    obtain rfl : u = t := by simpa using h
    show (tokCells u ++ tokAll ts)[0 * 5 + j]? = _
    rw [Nat.zero_mul, Nat.zero_add, List.getElem?_append_left hj]
  | u :: ts, i + 1, t, h => by
    intro j hj
    have := tokAll_at ts i t (by simpa using h) j hj
    rw [← this]
    show (tokCells u ++ tokAll ts)[(i + 1) * 5 + j]? = _
    rw [List.getElem?_append_right (by simp [tokCells]; omega)]
    congr 1
    simp [tokCells]
    omega

/-- What a slice of tokens reads as. -/
def RdT (w : World) (A : Option Addr) (m : Nat) (ts : List Tok) : Prop :=
  ts.length = m ∧ (0 < m → ∃ b o : Nat, A = some ⟨b, o, none⟩ ∧ b < w.heap.size ∧ ∀ j u, (tokAll ts)[j]? = some u → w.cell? ⟨b, o + j, none⟩ = some u)
/-- A slice of tokens of the call's own. -/
def TRow (w : World) (base : Nat) (v : Value) (ts : List Tok) : Prop := w.ownsRow base 30 5 v ts.length (tokAll ts)

section
variable {w w' : World} {base : Nat} {v : Value} {ts : List Tok}
theorem TRow.nil (w : World) (base : Nat) : TRow w base (.slice none 0 0) [] := ⟨rfl, .inl ⟨rfl, rfl⟩⟩
theorem TRow.form (h : TRow w base v ts) : ∃ A c, v = .slice A ts.length c ∧ ts.length ≤ c ∧ c ≤ maxLen ∧ (0 < ts.length → ∃ g, A = some ⟨g, 0, none⟩ ∧ base ≤ g ∧ g < w.heap.size) := by
  rcases h.2 with ⟨rfl, h0⟩ | ⟨g, c, cur, rfl, hb, hg, h1, h2, _⟩
  · exact ⟨none, 0, by rw [h0], by omega, by decide, fun h => by omega⟩
  · exact ⟨_, c, rfl, h1, h2, fun _ => ⟨g, rfl, hb, (Array.getElem?_eq_some_iff.1 hg).1⟩⟩
theorem TRow.stay (h : TRow w base v ts) (hk : ∀ g, v.ownBlock = some g → w'.heap[g]? = w.heap[g]?) : TRow w' base v ts := by
  refine ⟨h.1, ?_⟩
  rcases h.2 with hn | ⟨g, c, cur, rfl, hbg, hg, rest⟩
  · exact .inl hn
  · exact .inr ⟨g, c, cur, rfl, hbg, (hk g rfl).trans hg, rest⟩
theorem TRow.low (h : TRow w base v ts) {g : Nat} (hg : v.ownBlock = some g) : base ≤ g ∧ g < w.heap.size := by
  rcases h.2 with ⟨rfl, _⟩ | ⟨g', c, cur, rfl, hb, hh, _⟩
  · cases hg
  · obtain rfl : g' = g := by simpa [Value.ownBlock] using hg
    exact ⟨hb, (Array.getElem?_eq_some_iff.1 hh).1⟩
theorem TRow.rd {A : Option Addr} {n c : Nat} (h : TRow w base (.slice A n c) ts) : RdT w A ts.length ts := by
  refine ⟨rfl, fun hn => ?_⟩
  rcases h.2 with ⟨hv, h0⟩ | ⟨g, c', cur, hv, hb, hg, _⟩
  · omega
  · injection hv with hA hn' hc
    subst hA hn' hc
    have hc := h.cells (g := g) rfl
    refine ⟨g, 0, rfl, (Array.getElem?_eq_some_iff.1 hg).1, fun j u hu => ?_⟩
    have := hc j u hu
    rwa [add_none] at this
/-- A slice with this one token, just made. -/
theorem TRow.one (w : World) (t : Tok) (hb : base ≤ w.heap.size) : TRow (w.alloc (.cells (tokCells t).toArray 30)) base (.slice (some ⟨w.heap.size, 0, none⟩) 1 1) [t] :=
  ⟨by simp [tokAll, tokCells], .inr ⟨w.heap.size, 1, _, rfl, hb, heap_alloc_new w _, Nat.le_refl _, by decide, by simp [tokCells], by simp [tokAll, tokCells]⟩⟩
theorem TRow.toks (h : TRow w base v ts) (hl : ts.length ≤ 1000000) : Toks w v ts := by
  obtain ⟨A, c, rfl, h1, h2, h3⟩ := h.form
  have hr := h.rd
  refine ⟨A, c, rfl, h1, hl, fun hn => ?_⟩
  obtain ⟨b, o, rfl, hlt, hcell⟩ := hr.2 hn
  refine ⟨b, o, rfl, hlt, fun i t ht => ?_⟩
  have hat := tokAll_at ts i t ht
  refine ⟨?_, ?_, ?_, ?_, ?_⟩
  · exact hcell (i * 5 + 0) _ (hat 0 (by decide))
  · exact hcell (i * 5 + 1) _ (hat 1 (by decide))
  · exact hcell (i * 5 + 2) _ (hat 2 (by decide))
  · exact hcell (i * 5 + 3) _ (hat 3 (by decide))
  · exact hcell (i * 5 + 4) _ (hat 4 (by decide))
end

theorem tok_info : (Tryd.prog.info? 30).map (fun i => (i.zero, i.size, i.bytes)) = some (some (.agg #[.int .i64 0, .bool false, .int .i64 0, .int .i64 0, .string ⟨#[]⟩]), 5, 48) := by kernel_rfl

theorem run_tok_append (w : World) (base : Nat) (ty : TypeId) (v : Value) (ts : List Tok) (hown : TRow w base v ts) (A : Option Addr) (m c : Nat) (news : List Tok) (hr : RdT w A m news)
    (h63 : ts.length + m ≤ 1000000000) (hbase : base ≤ w.heap.size) :
    ∃ v' w', (Builtin.append_ #[24, 24] ty #[v, .slice A m c]).run Tryd.prog w = .ok v' w' ∧ TRow w' base v' (ts ++ news) ∧ w.grownBy w' v.ownBlock ∧ (v'.ownBlock = v.ownBlock ∨ v'.ownBlock = some w.heap.size) := by
  obtain ⟨i, hi, hz, hsize, hby⟩ := info_parts tok_info
  have hl : (ts ++ news).length = ts.length + m := by rw [List.length_append, hr.1]
  cases A with
  | none =>
    have hm : m = 0 := by
      by_cases h : 0 < m
      · obtain ⟨b, o, e, _⟩ := hr.2 h
        cases e
      · omega
    subst hm
    obtain rfl : news = [] := List.eq_nil_of_length_eq_zero hr.1
    refine ⟨v, w, ?_, by simpa using hown, ⟨rfl, rfl, rfl, Nat.le_refl _, fun _ _ _ => rfl⟩, .inl rfl⟩
    have ht := Tryd.underlying24
    rcases hown.2 with ⟨rfl, h0⟩ | ⟨g, cap, cur, rfl, _, _, hnc, _⟩
    · simp [Builtin.append_, run_underlying ht, sizeOf, typeInfo, hi, Builtin.lenOf, Builtin.firstCells]
    · simp [Builtin.append_, run_underlying ht, sizeOf, typeInfo, hi, Builtin.lenOf, Builtin.firstCells, hnc, storeCells]
  | some ad =>
    have hc : ∀ j u, (tokAll news)[j]? = some u → w.cell? (ad.add j) = some u := by
      intro j u hu
      have hm : 0 < m := by
        have h1 := hr.1
        have h2 := (List.getElem?_eq_some_iff.1 hu).1
        rw [tokAll_len] at h2
        omega
      obtain ⟨b, o, e, _, h⟩ := hr.2 hm
      injection e with e
      subst e
      rw [add_none]
      exact h j u hu
    obtain ⟨v', w', h1, h2, h3, _, h5⟩ := run_append_own_at (P := Tryd.prog) w base 24 ty 30 i _ 5 48 Tryd.underlying24 hi hz hsize hby rfl (by decide) v ts.length (tokAll ts) hown ad m c (tokAll news) (by rw [tokAll_len, hr.1]) hc (tokAll_one news) (by unfold maxLen; omega) (by omega) hbase
    refine ⟨v', w', h1, ?_, h3, h5⟩
    unfold TRow
    rw [hl, tokAll_append]
    exact h2

/-- Appending tokens. -/
theorem tok_append {ops : Array Oper} {rest : List Oper} {o : Oper} {a : Act} {Q : Exit → Act → World → Prop} (w : World) (hgd : o.guard = none) (s x : Operand) (ho : o.op = .call { callee := .builtin .append, args := #[s, x], argTypes := #[24, 24] })
    (base : Nat) (v : Value) (ts : List Tok) (hs : a.eval s = v) (hown : TRow w base v ts) (A : Option Addr) (m c : Nat) (news : List Tok) (hx : a.eval x = .slice A m c) (hr : RdT w A m news)
    (h63 : ts.length + m ≤ 1000000000) (hbase : base ≤ w.heap.size)
    (h : ∀ v' w', TRow w' base v' (ts ++ news) → w.grownBy w' v.ownBlock → (v'.ownBlock = v.ownBlock ∨ v'.ownBlock = some w.heap.size) → wpList Tryd.prog ops Q rest (a.put o.dst v') w') : wpList Tryd.prog ops Q (o :: rest) a w :=
  wpList_plain hgd fun _ hK => by
    obtain ⟨v', w', hrun, h2, h3, h5⟩ := run_tok_append w base o.type v ts hown A m c news hr h63 hbase
    unfold Oper.wp execOp
    simp only [ho, resolve, invoke, builtin, Sem.run_bind, Sem.run_pure, Result.andThen_ok, List.map_toArray, List.map_cons, List.map_nil, hs, hx, hrun]
    exact hK _ _ (h v' w' h2 h3 h5)

end Go.Proofs.YtoahnbjpmbhpfaaDoor
