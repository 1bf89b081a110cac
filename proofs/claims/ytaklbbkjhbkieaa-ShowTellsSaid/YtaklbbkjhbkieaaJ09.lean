/- Where the document's parts end: plain mathematics. -/
import Derived.Test.YtaklbbkjhbkieaaRows
import Derived.Test.YtaklbbkjhbkieaaJ07
namespace Go.Proofs.Ytaklbbkjhbkieaa
open Go.RowKit
set_option linter.unusedVariables false

/-- A part of a text of n bytes that begins at k. -/
def PBd (n k : Nat) (p : PartR) : Prop := p.pt ≤ n ∧ (p.fault = 0 → k ≤ p.pt ∧ p.beg = true)
theorem PBd.brk {n k : Nat} {kd : Int} {fr : Nat} {ts : List Tree} {ns : List (List UInt8)} {f : Int} {pt : Nat} (h : pt ≤ n) (hf : f ≠ 0) : PBd n k (brkR kd fr ts ns f pt) := ⟨h, fun e => absurd e hf⟩
theorem PBd.well {n k : Nat} {t : Tree} {pt : Nat} (h : pt ≤ n) (hk : k ≤ pt) : PBd n k ⟨t, true, pt, 0⟩ := ⟨h, fun _ => ⟨hk, rfl⟩⟩

theorem scanL_bd (l : List UInt8) : (scanL l).2.1 ≤ l.length := (scanR_bd l.length l).1
theorem quotedR_bd (l : List UInt8) (k : Nat) (hk : k < l.length) : PBd l.length k (quotedR l k) := by
  have hb := scanL_bd (l.drop (k + 1))
  rw [List.length_drop] at hb
  unfold quotedR
  split
  · exact .brk (Nat.le_refl _) (by decide)
  · split
    · rename_i h1 h2
      exact .brk (by omega) h1
    · exact .well (by omega) (by omega)
theorem numW_bd : ∀ (l : List UInt8) (a : Int) (k : Nat), k ≤ (numW a l k).1 ∧ (numW a l k).1 ≤ k + l.length
  | [], a, k => ⟨Nat.le_refl _, Nat.le_add_right _ _⟩
  | c :: t, a, k => by
    unfold numW
    split
    · have := numW_bd t (nxI a c.toNat) (k + 1)
      simp only [List.length_cons]
      omega
    · exact ⟨Nat.le_refl _, Nat.le_add_right _ _⟩
theorem numberR_bd (l : List UInt8) (cl : Bool) (k : Nat) (hk : k < l.length) : PBd l.length k (numberR l cl k) := by
  have hb := numW_bd (l.drop k) 0 0
  rw [List.length_drop] at hb
  unfold numberR
  split
  · exact .brk (by omega) (by decide)
  · split
    · exact .brk (Nat.le_refl _) (by decide)
    · exact .well (by omega) (by omega)
theorem wordW_bd : ∀ (l p : List UInt8), (wordW p l).1 ≤ p.length + l.length ∧ ((wordW p l).2 ≠ 0 → (wordW p l).1 < p.length + l.length)
  | [], p => ⟨by unfold wordW; simp, fun h => absurd rfl h⟩
  | c :: t, p => by
    unfold wordW
    split
    · have := wordW_bd t (p ++ [c])
      simp only [List.length_append, List.length_cons, List.length_nil] at this ⊢
      refine ⟨by omega, fun h => by have := this.2 h; omega⟩
    · simp only [List.length_cons]
      exact ⟨by omega, fun _ => by omega⟩
theorem wordR_bd (l : List UInt8) (k : Nat) (hk : k < l.length) : PBd l.length k (wordR l k) := by
  have hb := wordW_bd (l.drop k) []
  rw [List.length_drop, List.length_nil] at hb
  unfold wordR
  split
  · exact .brk (by omega) (by decide)
  · split
    · exact .brk (Nat.le_refl _) (by decide)
    · rename_i h1 h2
      have := hb.2 h2
      exact .well (by omega) (by omega)

theorem arrGo_bd (l : List UInt8) (sm : Nat → PartR) (hsm : ∀ k, k < l.length → PBd l.length k (sm k)) (fr : Nat) : ∀ (f k : Nat) (items : List Tree), PBd l.length k (arrGo l sm fr f k items)
  | 0, k, items => .brk (Nat.le_refl _) (by decide)
  | f + 1, k, items => by
    unfold arrGo
    split
    · exact .brk (Nat.le_refl _) (by decide)
    · rename_i hk
      have hb := hsm k (by omega)
      split
      · rename_i h
        exact .brk hb.1 h
      · rename_i h
        have h0 : (sm k).fault = 0 := Classical.not_not.1 h
        have hk2 := (hb.2 h0).1
        have hbl := blankR_le l (sm k).pt hb.1
        split
        · exact .brk (Nat.le_refl _) (by decide)
        · split
          · exact .well (by omega) (by omega)
          · split
            · exact .brk (by omega) (by decide)
            · have hbl2 := blankR_le l (blankR l (sm k).pt + 1) (by omega)
              have := arrGo_bd l sm hsm fr f (blankR l (blankR l (sm k).pt + 1)) (if (sm k).beg = true then items ++ [(sm k).val] else items)
              exact ⟨this.1, fun e => ⟨by have := (this.2 e).1; omega, (this.2 e).2⟩⟩
theorem arrR_bd (l : List UInt8) (sm : Nat → PartR) (hsm : ∀ k, k < l.length → PBd l.length k (sm k)) (k : Nat) (hk : k < l.length) : PBd l.length k (arrR l sm k) := by
  have hbl := blankR_le l (k + 1) (by omega)
  unfold arrR
  split
  · rename_i h
    exact .well (by omega) (by omega)
  · have := arrGo_bd l sm hsm k (l.length + 1 - blankR l (k + 1)) (blankR l (k + 1)) []
    exact ⟨this.1, fun e => ⟨by have := (this.2 e).1; omega, (this.2 e).2⟩⟩

theorem nameR_bd (l : List UInt8) (k : Nat) : (∀ f p, nameR l k = (none, f, p) → f ≠ 0 ∧ p ≤ l.length) ∧ (∀ nm v r, nameR l k = (some (nm, v), r) → k < v ∧ v < l.length) := by
  unfold nameR
  split
  · exact ⟨fun f p e => by cases e; exact ⟨by decide, Nat.le_refl _⟩, fun nm v r e => by cases e⟩
  rename_i hk
  split
  · exact ⟨fun f p e => by cases e; exact ⟨by decide, by omega⟩, fun nm v r e => by cases e⟩
  have hb := quotedR_bd l k (by omega)
  split
  · rename_i h
    exact ⟨fun f p e => by cases e; exact ⟨h, hb.1⟩, fun nm v r e => by cases e⟩
  rename_i h
  have h0 : (quotedR l k).fault = 0 := Classical.not_not.1 h
  have hk2 := (hb.2 h0).1
  have hbl := blankR_le l (quotedR l k).pt hb.1
  split
  · exact ⟨fun f p e => by cases e; exact ⟨by decide, Nat.le_refl _⟩, fun nm v r e => by cases e⟩
  split
  · exact ⟨fun f p e => by cases e; exact ⟨by decide, hbl.2⟩, fun nm v r e => by cases e⟩
  have hbl2 := blankR_le l (blankR l (quotedR l k).pt + 1) (by omega)
  split
  · exact ⟨fun f p e => by cases e; exact ⟨by decide, Nat.le_refl _⟩, fun nm v r e => by cases e⟩
  · exact ⟨fun f p e => (by cases e), fun nm v r e => by cases e; exact ⟨by omega, by omega⟩⟩

theorem objGo_bd (l : List UInt8) (sm : Nat → PartR) (hsm : ∀ k, k < l.length → PBd l.length k (sm k)) (fr : Nat) : ∀ (f k : Nat) (items : List Tree) (names : List (List UInt8)), PBd l.length k (objGo l sm fr f k items names)
  | 0, k, items, names => .brk (Nat.le_refl _) (by decide)
  | f + 1, k, items, names => by
    have hn := nameR_bd l k
    unfold objGo
    rcases hr : nameR l k with ⟨_ | ⟨nm, v⟩, r⟩
    · obtain ⟨h1, h2⟩ := hn.1 r.1 r.2 hr
      exact .brk h2 h1
    · obtain ⟨hk, hk2⟩ := hn.2 nm v r hr
      show PBd _ _ (if (sm v).fault ≠ 0 then _ else _)
      have hb := hsm v hk2
      split
      · rename_i h
        exact .brk hb.1 h
      · rename_i h
        have h0 : (sm v).fault = 0 := Classical.not_not.1 h
        have hk3 := (hb.2 h0).1
        have hbl := blankR_le l (sm v).pt hb.1
        split
        · exact .brk (Nat.le_refl _) (by decide)
        · split
          · exact .well (by omega) (by omega)
          · split
            · exact .brk (by omega) (by decide)
            · have hbl2 := blankR_le l (blankR l (sm v).pt + 1) (by omega)
              have := objGo_bd l sm hsm fr f (blankR l (blankR l (sm v).pt + 1)) (if (sm v).beg = true then items ++ [(sm v).val] else items) (if (sm v).beg = true then names ++ [nm] else names)
              exact ⟨this.1, fun e => ⟨by have := (this.2 e).1; omega, (this.2 e).2⟩⟩
theorem objR_bd (l : List UInt8) (sm : Nat → PartR) (hsm : ∀ k, k < l.length → PBd l.length k (sm k)) (k : Nat) (hk : k < l.length) : PBd l.length k (objR l sm k) := by
  have hbl := blankR_le l (k + 1) (by omega)
  unfold objR
  split
  · rename_i h
    exact .well (by omega) (by omega)
  · have := objGo_bd l sm hsm k (l.length + 1 - blankR l (k + 1)) (blankR l (k + 1)) [] []
    exact ⟨this.1, fun e => ⟨by have := (this.2 e).1; omega, (this.2 e).2⟩⟩
theorem someR_bd (l : List UInt8) (cl : Bool) : ∀ (n k : Nat), k < l.length → PBd l.length k (someR l cl n k)
  | 0, k, hk => by
    unfold someR
    split
    · exact quotedR_bd l k hk
    split
    · exact numberR_bd l cl k hk
    split
    · exact wordR_bd l k hk
    · exact ⟨Nat.le_of_lt hk, fun e => by
        exfalso
        revert e
        show ¬ (if _ then (12 : Int) else 8) = 0
        split <;> decide⟩
  | n + 1, k, hk => by
    unfold someR
    split
    · exact quotedR_bd l k hk
    split
    · exact numberR_bd l cl k hk
    split
    · exact wordR_bd l k hk
    split
    · exact arrR_bd l _ (someR_bd l cl n) k hk
    split
    · exact objR_bd l _ (someR_bd l cl n) k hk
    · exact ⟨Nat.le_of_lt hk, fun e => absurd e (show ¬ (8 : Int) = 0 by decide)⟩

end Go.Proofs.Ytaklbbkjhbkieaa

namespace Go.Proofs.Ytaklbbkjhbkieaa
open Go.RowKit
set_option linter.unusedVariables false

theorem inside_of {w u : World} {b : Nat} (h : b < w.heap.size) (e : u.heap[b]? = w.heap[b]?) : b < u.heap.size := by
  rw [Array.getElem?_eq_getElem h] at e
  exact (Array.getElem?_eq_some_iff.1 e).1
theorem cell_of {w u : World} {b o : Nat} (e : u.heap[b]? = w.heap[b]?) : u.cell? ⟨b, o, none⟩ = w.cell? ⟨b, o, none⟩ := by
  unfold World.cell?
  rw [e]
theorem RdG.agree {α : Type} {K : RowK α} {w u : World} {A : Option Addr} {m : Nat} {l : List α} (h : RdG K w A m l) (hk : ∀ b o : Nat, A = some ⟨b, o, none⟩ → b < w.heap.size → u.heap[b]? = w.heap[b]?) : RdG K u A m l := by
  refine ⟨h.1, fun hm => ?_⟩
  obtain ⟨b, o, e, hlt, hc⟩ := h.2 hm
  have he := hk b o e hlt
  exact ⟨b, o, e, inside_of hlt he, fun j v hv => (cell_of he).trans (hc j v hv)⟩
theorem slice_own (g n c : Nat) : (Value.slice (some ⟨g, 0, none⟩) n c).ownBlock = some g := by simp [Value.ownBlock]
theorem GRow.rd_at {α : Type} {K : RowK α} {w u : World} {base m c : Nat} {A : Option Addr} {l : List α} (h : GRow K w base (.slice A m c) l) (hk : ∀ g, (Value.slice A m c).ownBlock = some g → u.heap[g]? = w.heap[g]?) : RdG K u A l.length l :=
  (h.stay hk).rd

theorem VLs.snoc {w : World} {t : Tree} {x : V6} : ∀ {ts : List Tree} {xs : List V6}, VLs w ts xs → VIs w t x → VLs w (ts ++ [t]) (xs ++ [x])
  | [], xs, h, hx => by
    unfold VLs at h
    subst h
    show VLs w [t] [x]
    unfold VLs
    exact ⟨x, [], rfl, hx, by unfold VLs; rfl⟩
  | u :: ts, xs, h, hx => by
    unfold VLs at h
    obtain ⟨y, r, rfl, h1, h2⟩ := h
    show VLs w (u :: (ts ++ [t])) (y :: (r ++ [x]))
    unfold VLs
    exact ⟨y, _, rfl, h1, VLs.snoc h2 hx⟩
/-- What the call has made of an array, or an object: the part, the value, its items and names. -/
structure ArX (W w : World) (kd : Int) (fr : Nat) (A : Option Addr) (c : Nat) (B : Option Addr) (d : Nat) (ts : List Tree) (ns : List (List UInt8)) (xs : List V6) : Prop where
  part : Own w W.heap.size 44 zero9
  val : Own w (W.heap.size + 1) 27 #[.int .i64 kd, .int .i64 fr, .int .i64 0, .string ⟨#[]⟩, .slice A ts.length c, .slice B ns.length d]
  bel : Below W.heap.size W w
  row : GRow valK w (W.heap.size + 2) (.slice A ts.length c) xs
  kept : ∀ u : World, (∀ b, W.heap.size + 2 ≤ b → b < w.heap.size → (Value.slice A ts.length c).ownBlock ≠ some b → (Value.slice B ns.length d).ownBlock ≠ some b → u.heap[b]? = w.heap[b]?) → VLs u ts xs
  nam : GRow namK w (W.heap.size + 2) (.slice B ns.length d) ns
  apart : ∀ g, (Value.slice A ts.length c).ownBlock = some g → (Value.slice B ns.length d).ownBlock ≠ some g

section
variable {W w w' : World} {kd : Int} {fr : Nat} {A : Option Addr} {c : Nat} {B : Option Addr} {d : Nat} {ts : List Tree} {ns : List (List UInt8)} {xs : List V6}
theorem ArX.start (W : World) (kd : Int) (fr : Nat) : ArX W ((W.alloc (.cells zero9 44)).alloc (.cells (leaf6 kd fr) 27)) kd fr none 0 none 0 [] [] [] := by
  have h := Mk.start W kd fr
  exact ⟨h.part, h.val, h.bel, GRow.nil _ _, fun u _ => (by unfold VLs; rfl), GRow.nil _ _, fun g e => by simp [Value.ownBlock] at e⟩
theorem ArX.big (h : ArX W w kd fr A c B d ts ns xs) : W.heap.size + 2 ≤ w.heap.size := h.val.inside
theorem ArX.len (h : ArX W w kd fr A c B d ts ns xs) : xs.length = ts.length := (h.kept w (fun _ _ _ _ _ => rfl)).len
theorem ArX.stay (h : ArX W w kd fr A c B d ts ns xs) (hb : Below w.heap.size w w') : ArX W w' kd fr A c B d ts ns xs :=
  ⟨h.part.stay hb h.part.inside, h.val.stay hb h.val.inside, h.bel.trans (hb.mono h.bel.size), h.row.stay (fun g e => hb.block g (h.row.low e).2),
   fun u hu => h.kept u (fun b h1 h2 h3 h4 => (hu b h1 (Nat.lt_of_lt_of_le h2 hb.size) h3 h4).trans (hb.block b h2)), h.nam.stay (fun g e => hb.block g (h.nam.low e).2), h.apart⟩
/-- An item is appended. -/
theorem ArX.push {w5 : World} {v' : Value} {t : Tree} {x : V6} {B0 E0 : Nat} (h : ArX W w kd fr A c B d ts ns xs) (hk : VKept B0 E0 w t x) (hB : W.heap.size + 2 ≤ B0) (hE : E0 ≤ w.heap.size)
    (hA : ∀ g, (Value.slice A ts.length c).ownBlock = some g → g < B0) (hN : ∀ g, (Value.slice B ns.length d).ownBlock = some g → g < B0 ∨ E0 ≤ g)
    (hr : GRow valK w5 (W.heap.size + 2) v' (xs ++ [x])) (hg : w.grownBy w5 (Value.slice A ts.length c).ownBlock) (hat : v'.ownBlock = (Value.slice A ts.length c).ownBlock ∨ v'.ownBlock = some w.heap.size) :
    ∃ A' c', v' = .slice A' (ts ++ [t]).length c' ∧ ArX W (w5.setCell ⟨W.heap.size + 1, 4, none⟩ v') kd fr A' c' B d (ts ++ [t]) ns (xs ++ [x]) := by
  have hlen := h.len
  have hbig := h.big
  obtain ⟨A', c', e', _⟩ := hr.form
  have hl : (xs ++ [x]).length = (ts ++ [t]).length := by simp [hlen]
  rw [hl] at e'
  subst e'
  have hap : ∀ g, (Value.slice A ts.length c).ownBlock = some g → W.heap.size + 2 ≤ g ∧ g < w.heap.size := fun g e => h.row.low e
  have hne : ∀ b, b < W.heap.size + 2 → some b ≠ (Value.slice A ts.length c).ownBlock := fun b hb e => by have := (hap b e.symm).1; omega
  have o1 : Own w5 W.heap.size 44 zero9 := (hg.block _ h.part.inside (hne _ (by omega))).trans h.part
  have o2 : Own w5 (W.heap.size + 1) 27 #[.int .i64 kd, .int .i64 fr, .int .i64 0, .string ⟨#[]⟩, .slice A ts.length c, .slice B ns.length d] := (hg.block _ h.val.inside (hne _ (by omega))).trans h.val
  have hset : ∀ b, W.heap.size + 2 ≤ b → (w5.setCell ⟨W.heap.size + 1, 4, none⟩ (.slice A' (ts ++ [t]).length c')).heap[b]? = w5.heap[b]? := fun b hb => Below.heap_setCell w5 _ _ b (by show b ≠ W.heap.size + 1; omega)
  refine ⟨A', c', rfl, ⟨o1.past (by show W.heap.size ≠ W.heap.size + 1; omega) _, ?_, ?_, hr.stay (fun g e => hset g (hr.low e).1), ?_, ?_, ?_⟩⟩
  · have := o2.put 4 (.slice A' (ts ++ [t]).length c')
    simpa using this
  · exact (h.bel.grown hg h.bel.size (fun g e => by have := (hap g e).1; omega)).setCell (Nat.le_succ _) _
  · intro u hu
    have hu' : ∀ b, W.heap.size + 2 ≤ b → b < w.heap.size → (Value.slice A ts.length c).ownBlock ≠ some b → (Value.slice B ns.length d).ownBlock ≠ some b → u.heap[b]? = w.heap[b]? := by
      intro b h1 h2 h3 h4
      have h5 : (Value.slice A' (ts ++ [t]).length c').ownBlock ≠ some b := by
        rcases hat with e | e
        · rw [e]; exact h3
        · rw [e]; intro e2; have := Option.some.inj e2; omega
      have hs : b < (w5.setCell ⟨W.heap.size + 1, 4, none⟩ (.slice A' (ts ++ [t]).length c')).heap.size := by
        have := hg.size
        simp [World.setCell]
        omega
      exact (hu b h1 hs h5 h4).trans ((hset b h1).trans (hg.block b h2 (fun e => h3 e.symm)))
    have hx : VIs u t x := hk u (fun b h1 h2 => hu' b (by omega) (by omega) (fun e => by have := hA b e; omega) (fun e => by rcases hN b e with h | h <;> omega))
    exact (h.kept u hu').snoc hx
  · refine h.nam.stay (fun g e => (hset g (h.nam.low e).1).trans (hg.block g (h.nam.low e).2 (fun e2 => h.apart g e2.symm e)))
  · intro g e e2
    have hlt := (h.nam.low e2).2
    rcases hat with q | q
    · rw [q] at e; exact h.apart g e e2
    · rw [q] at e
      have := Option.some.inj e
      omega
/-- A name is appended. -/
theorem ArX.pushN {w5 : World} {v' : Value} {nm : List UInt8} (h : ArX W w kd fr A c B d ts ns xs)
    (hr : GRow namK w5 (W.heap.size + 2) v' (ns ++ [nm])) (hg : w.grownBy w5 (Value.slice B ns.length d).ownBlock) (hat : v'.ownBlock = (Value.slice B ns.length d).ownBlock ∨ v'.ownBlock = some w.heap.size) :
    ∃ B' d', v' = .slice B' (ns ++ [nm]).length d' ∧ ArX W (w5.setCell ⟨W.heap.size + 1, 5, none⟩ v') kd fr A c B' d' ts (ns ++ [nm]) xs := by
  have hbig := h.big
  obtain ⟨B', d', e', _⟩ := hr.form
  subst e'
  have hap : ∀ g, (Value.slice B ns.length d).ownBlock = some g → W.heap.size + 2 ≤ g ∧ g < w.heap.size := fun g e => h.nam.low e
  have hne : ∀ b, b < W.heap.size + 2 → some b ≠ (Value.slice B ns.length d).ownBlock := fun b hb e => by have := (hap b e.symm).1; omega
  have o1 : Own w5 W.heap.size 44 zero9 := (hg.block _ h.part.inside (hne _ (by omega))).trans h.part
  have o2 : Own w5 (W.heap.size + 1) 27 #[.int .i64 kd, .int .i64 fr, .int .i64 0, .string ⟨#[]⟩, .slice A ts.length c, .slice B ns.length d] := (hg.block _ h.val.inside (hne _ (by omega))).trans h.val
  have hset : ∀ b, W.heap.size + 2 ≤ b → (w5.setCell ⟨W.heap.size + 1, 5, none⟩ (.slice B' (ns ++ [nm]).length d')).heap[b]? = w5.heap[b]? := fun b hb => Below.heap_setCell w5 _ _ b (by show b ≠ W.heap.size + 1; omega)
  refine ⟨B', d', rfl, ⟨o1.past (by show W.heap.size ≠ W.heap.size + 1; omega) _, ?_, ?_, ?_, ?_, hr.stay (fun g e => hset g (hr.low e).1), ?_⟩⟩
  · have := o2.put 5 (.slice B' (ns ++ [nm]).length d')
    simpa using this
  · exact (h.bel.grown hg h.bel.size (fun g e => by have := (hap g e).1; omega)).setCell (Nat.le_succ _) _
  · exact h.row.stay (fun g e => (hset g (h.row.low e).1).trans (hg.block g (h.row.low e).2 (fun e2 => h.apart g e e2.symm)))
  · intro u hu
    refine h.kept u (fun b h1 h2 h3 h4 => ?_)
    have h5 : (Value.slice B' (ns ++ [nm]).length d').ownBlock ≠ some b := by
      rcases hat with e | e
      · rw [e]; exact h4
      · rw [e]; intro e2; have := Option.some.inj e2; omega
    have hs : b < (w5.setCell ⟨W.heap.size + 1, 5, none⟩ (.slice B' (ns ++ [nm]).length d')).heap.size := by
      have := hg.size
      simp [World.setCell]
      omega
    exact (hu b h1 hs h3 h5).trans ((hset b h1).trans (hg.block b h2 (fun e => h4 e.symm)))
  · intro g e e2
    have hlt := (h.row.low e).2
    rcases hat with q | q
    · rw [q] at e2; exact h.apart g e e2
    · rw [q] at e2
      have := Option.some.inj e2
      omega
/-- The value as it is at last. -/
theorem ArX.done {w' : World} (h : ArX W w kd fr A c B d ts ns xs) (to' : Nat) (hs : w.heap.size ≤ w'.heap.size) (hw : ∀ b, W.heap.size + 2 ≤ b → b < w.heap.size → w'.heap[b]? = w.heap[b]?) :
    VKept W.heap.size w'.heap.size w' (.mk kd fr to' [] ts ns) ⟨kd, fr, to', [], A, ts.length, c, B, ns.length, d⟩ := by
  intro u hu
  have hlen := h.len
  obtain ⟨A1, c1, e1, l1, _⟩ := h.row.form
  obtain ⟨B1, d1, e2, l2, _⟩ := h.nam.form
  have e1' : A = A1 ∧ ts.length = xs.length ∧ c = c1 := by injection e1 with a b c; exact ⟨a, b, c⟩
  have e2' : B = B1 ∧ ns.length = ns.length ∧ d = d1 := by injection e2 with a b c; exact ⟨a, b, c⟩
  have hag : ∀ b, W.heap.size + 2 ≤ b → b < w.heap.size → u.heap[b]? = w.heap[b]? := fun b h1 h2 => (hu b (by omega) (by omega)).trans (hw b h1 h2)
  unfold VIs
  refine ⟨rfl, rfl, rfl, rfl, ?_, ?_, ?_, xs, ?_, h.kept u (fun b h1 h2 _ _ => hag b h1 h2)⟩
  · show ts.length ≤ c
    rw [← hlen, e1'.2.2]
    exact l1
  · show ns.length ≤ d
    rw [e2'.2.2]
    exact l2
  · exact h.nam.rd_at (fun g e => hag g (h.nam.low e).1 (h.nam.low e).2)
  · have := h.row.rd_at (u := u) (fun g e => hag g (h.row.low e).1 (h.row.low e).2)
    rw [hlen] at this
    exact this
/-- The cells that the walk reads and writes. -/
theorem ArX.facts (h : ArX W w kd fr A c B d ts ns xs) {n m : Nat} (hn : ts.length = n) (hm : ns.length = m) :
    w.cell? ⟨W.heap.size + 1, 0, none⟩ = some (.int .i64 kd) ∧ w.cell? ⟨W.heap.size + 1, 1, none⟩ = some (.int .i64 fr) ∧ w.cell? ⟨W.heap.size + 1, 2, none⟩ = some (.int .i64 0) ∧ w.cell? ⟨W.heap.size + 1, 3, none⟩ = some (.string ⟨#[]⟩) ∧
    w.cell? ⟨W.heap.size + 1, 4, none⟩ = some (.slice A n c) ∧ w.cell? ⟨W.heap.size + 1, 5, none⟩ = some (.slice B m d) ∧
    w.frozen? ⟨W.heap.size + 1, 2, none⟩ = false ∧ w.frozen? ⟨W.heap.size + 1, 4, none⟩ = false ∧ w.frozen? ⟨W.heap.size + 1, 5, none⟩ = false := by
  subst hn hm
  exact ⟨h.val.at 0, h.val.at 1, h.val.at 2, h.val.at 3, h.val.at 4, h.val.at 5, h.val.free 2, h.val.free 4, h.val.free 5⟩
theorem put9_high {w : World} {g b : Nat} (h : b ≠ g) (kd fr t : Int) (tx : ByteArray) (A : Option Addr) (n c : Nat) (B : Option Addr) (m d : Nat) (bg : Bool) (k f : Int) : (put9 w g kd fr t tx A n c B m d bg k f).heap[b]? = w.heap[b]? := by
  have e : ∀ (u : World) (i : Nat) (v : Value), (u.setCell ⟨g, i, none⟩ v).heap[b]? = u.heap[b]? := fun u i v => Below.heap_setCell u _ v b h
  unfold put9
  simp only [e]
theorem put9_size {w : World} {g : Nat} (kd fr t : Int) (tx : ByteArray) (A : Option Addr) (n c : Nat) (B : Option Addr) (m d : Nat) (bg : Bool) (k f : Int) : (put9 w g kd fr t tx A n c B m d bg k f).heap.size = w.heap.size := by
  unfold put9
  simp [World.setCell]
/-- The part's cells, and what they are, once it is written behind 'broken'. -/
theorem ArX.broke {w4 : World} (h : ArX W w kd fr A c B d ts ns xs) {n m : Nat} (hn : ts.length = n) (hm : ns.length = m) (hb : Below w.heap.size w w4) (f kk : Int) :
    Own w4 W.heap.size 44 zero9 ∧ Own (put9 w4 W.heap.size kd fr 0 ⟨#[]⟩ A n c B m d true kk f) W.heap.size 44 (cells9 kd fr 0 ⟨#[]⟩ A n c B m d true kk f) ∧
    Below W.heap.size W (put9 w4 W.heap.size kd fr 0 ⟨#[]⟩ A n c B m d true kk f) ∧
    VKept W.heap.size (put9 w4 W.heap.size kd fr 0 ⟨#[]⟩ A n c B m d true kk f).heap.size (put9 w4 W.heap.size kd fr 0 ⟨#[]⟩ A n c B m d true kk f) (.mk kd fr 0 [] ts ns) ⟨kd, fr, 0, [], A, n, c, B, m, d⟩ := by
  subst hn hm
  have h4 := h.stay hb
  exact ⟨h4.part, put9_own h4.part _ _ _ _ _ _ _ _ _ _ _ _ _, put9_below h4.bel _ _ _ _ _ _ _ _ _ _ _ _ _,
    h4.done 0 (Nat.le_of_eq (put9_size _ _ _ _ _ _ _ _ _ _ _ _ _).symm) (fun b h1 _ => put9_high (by omega) _ _ _ _ _ _ _ _ _ _ _ _ _)⟩
/-- The part of a whole value. -/
theorem ArX.well (h : ArX W w kd fr A c B d ts ns xs) {n m : Nat} (hn : ts.length = n) (hm : ns.length = m) (to' : Nat) (t kk : Int) (ht : t = to') :
    Own (w.setCell ⟨W.heap.size + 1, 2, none⟩ (.int .i64 t)) W.heap.size 44 zero9 ∧
    Own (put9 (w.setCell ⟨W.heap.size + 1, 2, none⟩ (.int .i64 t)) W.heap.size kd fr t ⟨#[]⟩ A n c B m d true kk 0) W.heap.size 44 (cells9 kd fr t ⟨#[]⟩ A n c B m d true kk 0) ∧
    Below W.heap.size W (put9 (w.setCell ⟨W.heap.size + 1, 2, none⟩ (.int .i64 t)) W.heap.size kd fr t ⟨#[]⟩ A n c B m d true kk 0) ∧
    VKept W.heap.size (put9 (w.setCell ⟨W.heap.size + 1, 2, none⟩ (.int .i64 t)) W.heap.size kd fr t ⟨#[]⟩ A n c B m d true kk 0).heap.size (put9 (w.setCell ⟨W.heap.size + 1, 2, none⟩ (.int .i64 t)) W.heap.size kd fr t ⟨#[]⟩ A n c B m d true kk 0) (.mk kd fr to' [] ts ns) ⟨kd, fr, to', [], A, n, c, B, m, d⟩ := by
  subst hn hm ht
  have o := h.part.past (p := ⟨W.heap.size + 1, 2, none⟩) (by show W.heap.size ≠ W.heap.size + 1; omega) (.int .i64 (to' : Int))
  refine ⟨o, put9_own o _ _ _ _ _ _ _ _ _ _ _ _ _, put9_below (h.bel.setCell (p := ⟨W.heap.size + 1, 2, none⟩) (Nat.le_succ _) _) _ _ _ _ _ _ _ _ _ _ _ _ _, h.done to' ?_ (fun b h1 _ => (put9_high (by omega) _ _ _ _ _ _ _ _ _ _ _ _ _).trans (Below.heap_setCell w _ _ b (by show b ≠ W.heap.size + 1; omega)))⟩
  rw [put9_size]
  simp [World.setCell]
end

end Go.Proofs.Ytaklbbkjhbkieaa
