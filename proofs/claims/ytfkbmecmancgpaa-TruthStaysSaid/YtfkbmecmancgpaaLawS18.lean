/- TruthStays: the acts' loop. -/
import Derived.Test.YtfkbmecmancgpaaPck18
import Derived.Test.YtfkbmecmancgpaaRgL
namespace Go.Proofs.Ytfkbmecmancgpaa
open Go.RowKit
set_option linter.unusedVariables false
set_option linter.unusedSimpArgs false

/-- The law under way: the things (a row, and the cell that leads to it), the variables. -/
structure StSt (W w : World) (q b : Nat) (tag : Nat → Nat) (s : St18) (nd : Nat → Nd18) (n : Nat) (ts vs : List Nat) (vT vV : Value) : Prop where
  lb : Lb18 W w b tag s nd n
  cell : Own w q 27 #[vT]
  tq : tag q = 0
  low : W.heap.size ≤ q
  rT : w.ownsRow W.heap.size 3 1 vT ts.length (nums ts)
  tT : ∀ k, vT.ownBlock = some k → tag k = 0
  rV : w.ownsRow W.heap.size 3 1 vV vs.length (nums vs)
  tV : ∀ k, vV.ownBlock = some k → tag k = 0
  apart : ∀ k, vT.ownBlock = some k → vV.ownBlock ≠ some k
  ins : ∀ t ∈ ts, t < n
  full : ts ≠ []
  vars : ∀ x, x ∈ vs ↔ x < n ∧ nd x = .var
  nodup : vs.Nodup
  zero : ∀ x, x < n → nd x = .var → s.val x = 0

theorem StSt.qT {W w : World} {q b : Nat} {tag : Nat → Nat} {s : St18} {nd : Nat → Nd18} {n : Nat} {ts vs : List Nat} {vT vV : Value} (h : StSt W w q b tag s nd n ts vs vT vV) : vT.ownBlock ≠ some q ∧ vV.ownBlock ≠ some q := by
  have hq : w.heap[q]? = some (.cells #[vT] 27 (0, 0)) := h.cell
  constructor
  · intro e
    rcases h.rT.2 with ⟨h', _⟩ | ⟨g, c, cur, h', _, hg, _⟩
    · rw [h'] at e; cases e
    · rw [h'] at e
      simp [Value.ownBlock] at e
      rw [e, hq] at hg
      injection hg with hg
      injection hg with _ hg _
      exact absurd hg (by decide)
  · intro e
    rcases h.rV.2 with ⟨h', _⟩ | ⟨g, c, cur, h', _, hg, _⟩
    · rw [h'] at e; cases e
    · rw [h'] at e
      simp [Value.ownBlock] at e
      rw [e, hq] at hg
      injection hg with hg
      injection hg with _ hg _
      exact absurd hg (by decide)

theorem stst_start {W w : World} {b : Nat} {tag : Nat → Nat} (hL : Lb18 W w b tag st0 nd0 2) :
    StSt W (((w.alloc (.cells #[.int .i64 0, .int .i64 1] 3)).alloc (.cells #[] 3)).alloc (.cells #[.slice (some ⟨w.heap.size, 0, none⟩) 2 2] 27)) (w.heap.size + 1 + 1) b tag st0 nd0 2 [0, 1] [] (.slice (some ⟨w.heap.size, 0, none⟩) 2 2) (.slice (some ⟨w.heap.size + 1, 0, none⟩) 0 0) := by
  have hz : ∀ k, w.heap.size ≤ k → tag k = 0 := fun k hk => by
    by_cases e : tag k = 0
    · exact e
    · have := hL.bk.live k e; omega
  have hW := hL.bel.size
  have s1 : (w.alloc (.cells #[.int .i64 0, .int .i64 1] 3)).heap.size = w.heap.size + 1 := by simp
  have s2 : ((w.alloc (.cells #[.int .i64 0, .int .i64 1] 3)).alloc (.cells #[] 3)).heap.size = w.heap.size + 1 + 1 := by simp
  have r1 := World.ownsRow_lit (base := W.heap.size) (e := 3) (size := 1) w #[.int .i64 0, .int .i64 1] 2 hW (by unfold maxLen; omega) rfl
  have r2 := World.ownsRow_lit (base := W.heap.size) (e := 3) (size := 1) (w.alloc (.cells #[.int .i64 0, .int .i64 1] 3)) #[] 0 (by omega) (by unfold maxLen; omega) rfl
  have c3 := Own.fresh ((w.alloc (.cells #[.int .i64 0, .int .i64 1] 3)).alloc (.cells #[] 3)) 27 #[.slice (some ⟨w.heap.size, 0, none⟩) 2 2]
  rw [s1] at r2
  rw [s2] at c3
  have hb : Below w.heap.size w (((w.alloc (.cells #[.int .i64 0, .int .i64 1] 3)).alloc (.cells #[] 3)).alloc (.cells #[.slice (some ⟨w.heap.size, 0, none⟩) 2 2] 27)) :=
    (((Below.refl w.heap.size w).alloc (Nat.le_refl _) _).alloc (by omega) _).alloc (by omega) _
  exact {
    lb := hL.more hb
    cell := c3
    tq := hz _ (by omega)
    low := by omega
    rT := (r1.alloc _).alloc _
    tT := fun k hk => by simp [Value.ownBlock] at hk; exact hz _ (by omega)
    rV := r2.alloc _
    tV := fun k hk => by simp [Value.ownBlock] at hk; exact hz _ (by omega)
    apart := fun k hk e => by simp [Value.ownBlock] at hk e; omega
    ins := fun t ht => by simp at ht; omega
    full := by simp
    vars := fun x => ⟨fun h => (by cases h), fun h => (by cases h.2)⟩
    nodup := List.nodup_nil
    zero := fun x _ h => by cases h }

/-- One more thing: the row of things is another one, the cell leads to it. -/
theorem StSt.thing {W w w' : World} {q b : Nat} {tag tag' : Nat → Nat} {s s' : St18} {nd nd' : Nat → Nd18} {n n' : Nat} {ts vs : List Nat} {vT vV vT' : Value} (h : StSt W w q b tag s nd n ts vs vT vV)
    (hlb : Lb18 W w' b tag' s' nd' n') (ht : Touch (fun k => tag k ≠ 0 ∨ k = q ∨ vT.ownBlock = some k) w w') (htag : ∀ k, k < w.heap.size → tag' k = tag k) {r : Nat} (hr : r < n') (hn : n ≤ n')
    (hrow : w'.ownsRow W.heap.size 3 1 vT' (ts.length + 1) (nums (ts ++ [r]))) (hat : vT'.ownBlock = vT.ownBlock ∨ ∃ k, vT'.ownBlock = some k ∧ w.heap.size ≤ k ∧ tag' k = 0) (hc : Own w' q 27 #[vT'])
    (hnd : ∀ y, y < n → nd' y = nd y) (hv : ∀ y, y < n → s'.val y = s.val y) (hnv : ∀ y, n ≤ y → y < n' → nd' y ≠ .var) : StSt W w' q b tag' s' nd' n' (ts ++ [r]) vs vT' vV where
  lb := hlb
  cell := hc
  tq := by rw [htag q h.cell.inside]; exact h.tq
  low := h.low
  rT := by rw [List.length_append]; exact hrow
  tT := fun k hk => by
    rcases hat with e | ⟨g, e, _, h0⟩
    · rw [e] at hk; rw [htag k (own_lt h.rT k hk).2]; exact h.tT k hk
    · rw [e] at hk; injection hk with hk; subst hk; exact h0
  rV := ht.row h.rV (fun g hg e => by
    rcases e with e | e | e
    · exact e (h.tV g hg)
    · exact h.qT.2 (e ▸ hg)
    · exact h.apart g e hg)
  tV := fun k hk => by rw [htag k (own_lt h.rV k hk).2]; exact h.tV k hk
  apart := fun k hk e => by
    rcases hat with e' | ⟨g, e', h1, _⟩
    · rw [e'] at hk; exact h.apart k hk e
    · rw [e'] at hk; injection hk with hk; subst hk; have := (own_lt h.rV _ e).2; omega
  ins := fun t htm => by
    rcases List.mem_append.1 htm with e | e
    · have := h.ins t e; omega
    · simp at e; omega
  full := by simp
  vars := fun x => by
    rw [h.vars]
    constructor
    · rintro ⟨a, e⟩; exact ⟨by omega, by rw [hnd x a]; exact e⟩
    · rintro ⟨a, e⟩
      by_cases hx : x < n
      · exact ⟨hx, by rw [← hnd x hx]; exact e⟩
      · exact absurd e (hnv x (by omega) a)
  nodup := h.nodup
  zero := fun x a e => by
    by_cases hx : x < n
    · rw [hv x hx]; exact h.zero x hx (by rw [← hnd x hx]; exact e)
    · exact absurd e (hnv x (by omega) a)

def RelA (acts : List ActV) (W : World) (q b : Nat) (v7 v45 : Value) (wr : World) : Prop :=
  ∃ (k : Nat) (tag : Nat → Nat) (s : St18) (nd : Nat → Nd18) (n : Nat) (ts vs : List Nat) (vT : Value), v45 = .int .i64 k ∧ k ≤ acts.length ∧ n ≤ 2 + k ∧ ts.length ≤ 2 + k ∧ StSt W wr q b tag s nd n ts vs vT v7

/-- Nothing that was there turns. -/
theorem StSt.more {W w w' : World} {q b : Nat} {tag : Nat → Nat} {s : St18} {nd : Nat → Nd18} {n : Nat} {ts vs : List Nat} {vT vV : Value} (h : StSt W w q b tag s nd n ts vs vT vV) (hb : Below w.heap.size w w') : StSt W w' q b tag s nd n ts vs vT vV where
  lb := h.lb.more hb
  cell := h.cell.stay hb h.cell.inside
  tq := h.tq
  low := h.low
  rT := own_stay h.rT hb (fun g hg => (own_lt h.rT g hg).2)
  tT := h.tT
  rV := own_stay h.rV hb (fun g hg => (own_lt h.rV g hg).2)
  tV := h.tV
  apart := h.apart
  ins := h.ins
  full := h.full
  vars := h.vars
  nodup := h.nodup
  zero := h.zero

/-- Behind And or Or: its answer is appended to the things, and the cell leads to them. -/
theorem thing_next {W w w6 w7 w8 : World} {q b : Nat} {tag tag' : Nat → Nat} {s s' : St18} {nd nd' : Nat → Nd18} {n n' one r cT : Nat} {zs : List Int} {ts vs : List Nat} {AT : Option Addr} {vV v7 : Value} (h : StSt W w q b tag s nd n ts vs (.slice AT ts.length cT) vV)
    (hL : Lb18 W w6 b tag' s' nd' n') (hT : Touch (fun k => tag k ≠ 0) w w6) (ht : ∀ k, k < w.heap.size → tag' k = tag k) (hJ : Jn18 nd n s nd' n' s' one zs r)
    (hown : w7.ownsRow W.heap.size 3 1 v7 (ts.length + 1) (nums ts ++ [.int .i64 r])) (hT7 : Touch (fun k => (Value.slice AT ts.length cT).ownBlock = some k) w6 w7) (hT8 : Touch (fun k => k = q) w7 w8)
    (hq : Own w8 q 27 #[v7]) (hat : v7.ownBlock = (Value.slice AT ts.length cT).ownBlock ∨ ∃ g, v7.ownBlock = some g ∧ w6.heap.size ≤ g) : StSt W w8 q b tag' s' nd' n' (ts ++ [r]) vs v7 vV := by
  have hz6 : ∀ k, w6.heap.size ≤ k → tag' k = 0 := fun k hk => by
    by_cases e : tag' k = 0
    · exact e
    · have := hL.bk.live k e; omega
  have htT : ∀ k, (Value.slice AT ts.length cT).ownBlock = some k → tag' k = 0 := fun k hk => by rw [ht k (own_lt h.rT k hk).2]; exact h.tT k hk
  have htq : tag' q = 0 := by rw [ht q h.cell.inside]; exact h.tq
  have hT68 : Touch (fun k => (Value.slice AT ts.length cT).ownBlock = some k ∨ k = q) w6 w8 := (hT7.mono (G := fun k => (Value.slice AT ts.length cT).ownBlock = some k ∨ k = q) (fun _ _ e => .inl e)).trans (hT8.mono (G := fun k => (Value.slice AT ts.length cT).ownBlock = some k ∨ k = q) (fun _ _ e => .inr e)) (fun _ _ h => h)
  have hb8 : Below W.heap.size W w8 := hL.bel.trans (hT68.below (fun k _ e => by
    rcases e with e | e
    · exact (own_lt h.rT k e).1
    · rw [e]; exact h.low) hL.bel.size)
  have hne : v7.ownBlock ≠ some q := by
    rcases hat with e | ⟨g, e, hg⟩
    · rw [e]; exact h.qT.1
    · rw [e]; intro e2; injection e2 with e2; have := h.cell.inside; have := hT.size; omega
  refine h.thing (hL.aside hT68 (fun k e => ?_) hb8) ?_ ht hJ.lt hJ.le.1 ?_ ?_ hq hJ.nds hJ.val hJ.novar
  · rcases e with e | e
    · exact htT k e
    · rw [e]; exact htq
  · refine (hT.mono (G := fun k => tag k ≠ 0 ∨ k = q ∨ (Value.slice AT ts.length cT).ownBlock = some k) (fun _ _ e => .inl e)).trans (hT68.mono (G := fun k => tag k ≠ 0 ∨ k = q ∨ (Value.slice AT ts.length cT).ownBlock = some k) (fun _ _ e => ?_)) (fun _ _ h => h)
    rcases e with e | e
    · exact .inr (.inr e)
    · exact .inr (.inl e)
  · rw [nums_app]
    exact hT8.row hown (fun g hg e => hne (e ▸ hg))
  · rcases hat with e | ⟨g, e, hg⟩
    · exact .inl e
    · exact .inr ⟨g, e, by have := hT.size; omega, hz6 g hg⟩

/-- Behind Var: its thing is appended to the variables and to the things. -/
theorem var_next {W w w6 w7 wb w8 w9 : World} {q b : Nat} {tag tag' : Nat → Nat} {s s' : St18} {nd : Nat → Nd18} {n cT : Nat} {ts vs : List Nat} {AT : Option Addr} {vV v7 v8 : Value} (h : StSt W w q b tag s nd n ts vs (.slice AT ts.length cT) vV)
    (hL : Lb18 W w6 b tag' s' (ndA nd n .var) (n + 1)) (hT : Touch (fun k => tag k ≠ 0) w w6) (ht : ∀ k, k < w.heap.size → tag' k = tag k) (hv : ∀ y, y < n → s'.val y = s.val y) (h0 : s'.val n = 0)
    (hown7 : w7.ownsRow W.heap.size 3 1 v7 (vs.length + 1) (nums vs ++ [.int .i64 n])) (hT7 : Touch (fun k => vV.ownBlock = some k) w6 w7) (hat7 : v7.ownBlock = vV.ownBlock ∨ ∃ g, v7.ownBlock = some g ∧ w6.heap.size ≤ g)
    (hTb : Touch (fun _ => False) w7 wb)
    (hown8 : w8.ownsRow W.heap.size 3 1 v8 (ts.length + 1) (nums ts ++ [.int .i64 n])) (hT8 : Touch (fun k => (Value.slice AT ts.length cT).ownBlock = some k) wb w8) (hat8 : v8.ownBlock = (Value.slice AT ts.length cT).ownBlock ∨ ∃ g, v8.ownBlock = some g ∧ w7.heap.size ≤ g)
    (hT9 : Touch (fun k => k = q) w8 w9) (hq : Own w9 q 27 #[v8]) : StSt W w9 q b tag' s' (ndA nd n .var) (n + 1) (ts ++ [n]) (vs ++ [n]) v8 v7 := by
  have hz6 : ∀ k, w6.heap.size ≤ k → tag' k = 0 := fun k hk => by
    by_cases e : tag' k = 0
    · exact e
    · have := hL.bk.live k e; omega
  have hs6 := hT.size
  have hs7 := hT7.size
  have htT : ∀ k, (Value.slice AT ts.length cT).ownBlock = some k → tag' k = 0 ∧ k < w.heap.size := fun k hk => ⟨by rw [ht k (own_lt h.rT k hk).2]; exact h.tT k hk, (own_lt h.rT k hk).2⟩
  have htV : ∀ k, vV.ownBlock = some k → tag' k = 0 ∧ k < w.heap.size := fun k hk => ⟨by rw [ht k (own_lt h.rV k hk).2]; exact h.tV k hk, (own_lt h.rV k hk).2⟩
  have htq : tag' q = 0 := by rw [ht q h.cell.inside]; exact h.tq
  have hql := h.cell.inside
  have hT69 : Touch (fun k => (Value.slice AT ts.length cT).ownBlock = some k ∨ k = q ∨ vV.ownBlock = some k) w6 w9 :=
    (((hT7.mono (G := fun k => (Value.slice AT ts.length cT).ownBlock = some k ∨ k = q ∨ vV.ownBlock = some k) (fun _ _ e => .inr (.inr e))).trans (hTb.mono (G := fun k => (Value.slice AT ts.length cT).ownBlock = some k ∨ k = q ∨ vV.ownBlock = some k) (fun _ _ e => e.elim)) (fun _ _ h => h)).trans
      (hT8.mono (G := fun k => (Value.slice AT ts.length cT).ownBlock = some k ∨ k = q ∨ vV.ownBlock = some k) (fun _ _ e => .inl e)) (fun _ _ h => h)).trans (hT9.mono (G := fun k => (Value.slice AT ts.length cT).ownBlock = some k ∨ k = q ∨ vV.ownBlock = some k) (fun _ _ e => .inr (.inl e))) (fun _ _ h => h)
  have hb9 : Below W.heap.size W w9 := hL.bel.trans (hT69.below (fun k _ e => by
    rcases e with e | e | e
    · exact (own_lt h.rT k e).1
    · rw [e]; exact h.low
    · exact (own_lt h.rV k e).1) hL.bel.size)
  have hne8 : v8.ownBlock ≠ some q := by
    rcases hat8 with e | ⟨g, e, hg⟩
    · rw [e]; exact h.qT.1
    · rw [e]; intro e2; injection e2 with e2; omega
  have hne7 : v7.ownBlock ≠ some q := by
    rcases hat7 with e | ⟨g, e, hg⟩
    · rw [e]; exact h.qT.2
    · rw [e]; intro e2; injection e2 with e2; omega
  have hap7 : ∀ k, (Value.slice AT ts.length cT).ownBlock = some k → v7.ownBlock ≠ some k := by
    intro k hk
    rcases hat7 with e | ⟨g, e, hg⟩
    · rw [e]; exact h.apart k hk
    · rw [e]; intro e2; injection e2 with e2; have := (htT k hk).2; omega
  exact {
    lb := hL.aside hT69 (fun k e => by
      rcases e with e | e | e
      · exact (htT k e).1
      · rw [e]; exact htq
      · exact (htV k e).1) hb9
    cell := hq
    tq := htq
    low := h.low
    rT := by
      rw [List.length_append, nums_app]
      exact hT9.row hown8 (fun g hg e => hne8 (e ▸ hg))
    tT := fun k hk => by
      rcases hat8 with e | ⟨g, e, hg⟩
      · rw [e] at hk; exact (htT k hk).1
      · rw [e] at hk; injection hk with hk; exact hz6 k (by omega)
    rV := by
      rw [List.length_append, nums_app]
      exact hT9.row (hT8.row (hTb.row hown7 (fun _ _ f => f)) (fun g hg e => hap7 g e hg)) (fun g hg e => hne7 (e ▸ hg))
    tV := fun k hk => by
      rcases hat7 with e | ⟨g, e, hg⟩
      · rw [e] at hk; exact (htV k hk).1
      · rw [e] at hk; injection hk with hk; exact hz6 k (by omega)
    apart := fun k hk e2 => by
      rcases hat8 with e | ⟨g, e, hg⟩
      · rw [e] at hk; exact hap7 k hk e2
      · rw [e] at hk; injection hk with hk; have := (own_lt hown7 k e2).2; omega
    ins := fun t htm => by
      rcases List.mem_append.1 htm with e | e
      · have := h.ins t e; omega
      · simp at e; omega
    full := by simp
    vars := fun x => by
      rw [List.mem_append, h.vars]
      unfold ndA
      constructor
      · rintro (⟨a, e⟩ | e)
        · exact ⟨by omega, by rw [if_neg (by omega)]; exact e⟩
        · simp at e; subst e; exact ⟨by omega, by rw [if_pos rfl]⟩
      · rintro ⟨a, e⟩
        by_cases hx : x = n
        · right; simp [hx]
        · rw [if_neg hx] at e; exact .inl ⟨by omega, e⟩
    nodup := by
      rw [List.nodup_append]
      refine ⟨h.nodup, by simp, ?_⟩
      intro a ha c hc e
      simp at hc
      have := ((h.vars a).1 ha).1
      omega
    zero := fun x a e => by
      by_cases hx : x = n
      · rw [hx]; exact h0
      · unfold ndA at e
        rw [if_neg hx] at e
        rw [hv x (by omega)]
        exact h.zero x (by omega) e }

/-- The picks so far. -/
def RelF (ts : List Nat) (l : List Int) (w1 : World) (v12 v59 : Value) (wr : World) : Prop :=
  ∃ j : Nat, v59 = .int .i64 j ∧ j ≤ l.length ∧ wr.ownsRow w1.heap.size 3 1 v12 j (nums ((l.take j).map (pickT ts))) ∧ Below w1.heap.size w1 wr

/-- When all variables are set, all is known. -/
theorem known_all {nd : Nat → Nd18} {n : Nat} {s : St18} (hm : Mid18 nd n s [] none) (hv : ∀ x, x < n → nd x = .var → s.val x ≠ 0) : ∀ x, x < n → s.val x ≠ 0 := by
  intro x
  induction x using Nat.strongRecOn with
  | ind x ih =>
    intro hx
    cases hnd : nd x with
    | fix =>
      have := hm.made.fix x hx hnd
      rcases (show x = 0 ∨ x = 1 by omega) with rfl | rfl
      · rw [hm.no]; decide
      · rw [hm.yes]; decide
    | var => exact hv x hx hnd
    | join o ds =>
      have ho := hm.made.one x hx o ds hnd
      rw [hm.fixed x hx o ds hnd]
      by_cases hmem : o ∈ ds.map s.val
      · rw [kj_one hmem]; omega
      · rw [kj_oth ho]
        · exact (oth_ne ho).2.2
        · intro v hvm
          obtain ⟨d, hd, rfl⟩ := List.mem_map.1 hvm
          have hdx := hm.made.elder x hx o ds hnd d hd
          have h0 := ih d hdx (by omega)
          have h3 := hm.v3 d
          exact oth_of ho (by omega) (fun e => hmem (e ▸ hvm))

/-- The variables under way to be set: what the things' values were (row gW). -/
structure StB (W w : World) (q b gW : Nat) (tag : Nat → Nat) (s : St18) (nd : Nat → Nd18) (n : Nat) (ts vs wl : List Nat) (vT vV : Value) : Prop where
  lb : Lb18 W w b tag s nd n
  cell : Own w q 27 #[vT]
  tq : tag q = 0
  rT : w.ownsRow W.heap.size 3 1 vT ts.length (nums ts)
  tT : ∀ k, vT.ownBlock = some k → tag k = 0
  rV : w.ownsRow W.heap.size 3 1 vV vs.length (nums vs)
  tV : ∀ k, vV.ownBlock = some k → tag k = 0
  rW : w.ownsRow W.heap.size 3 1 (.slice (some ⟨gW, 0, none⟩) ts.length ts.length) ts.length (nums wl)
  tW : tag gW = 0
  low : W.heap.size ≤ gW
  qW : q ≠ gW
  aT : vT.ownBlock ≠ some gW
  aV : vV.ownBlock ≠ some gW
  ins : ∀ t ∈ ts, t < n
  vars : ∀ x, x ∈ vs ↔ x < n ∧ nd x = .var
  nodup : vs.Nodup
  was : ∀ k, k < ts.length → wl.getD k 2 ≠ 0 → s.val (ts.getD k 2) = wl.getD k 2

theorem StB.len {W w : World} {q b gW : Nat} {tag : Nat → Nat} {s : St18} {nd : Nat → Nd18} {n : Nat} {ts vs wl : List Nat} {vT vV : Value} (h : StB W w q b gW tag s nd n ts vs wl vT vV) : wl.length = ts.length := by
  have := h.rW.1
  rw [nums_len] at this
  omega

/-- One is set. -/
theorem StB.set {W w w' : World} {q b gW : Nat} {tag : Nat → Nat} {s s' : St18} {nd : Nat → Nd18} {n x v : Nat} {ts vs wl : List Nat} {vT vV : Value} (h : StB W w q b gW tag s nd n ts vs wl vT vV) (hl : Lb18 W w' b tag s' nd n) (ht : Touch (fun k => tag k ≠ 0) w w') (hw : Went18 nd s s' x v) : StB W w' q b gW tag s' nd n ts vs wl vT vV where
  lb := hl
  cell := ht.own h.cell (fun e => e h.tq)
  tq := h.tq
  rT := ht.row h.rT (fun k hk e => e (h.tT k hk))
  tT := h.tT
  rV := ht.row h.rV (fun k hk e => e (h.tV k hk))
  tV := h.tV
  rW := ht.row h.rW (fun k hk e => by simp [Value.ownBlock] at hk; exact e (hk ▸ h.tW))
  tW := h.tW
  low := h.low
  qW := h.qW
  aT := h.aT
  aV := h.aV
  ins := h.ins
  vars := h.vars
  nodup := h.nodup
  was := fun k hk hne => by
    have h1 := h.was k hk hne
    rw [hw.ext _ (by rw [h1]; exact hne), h1]

/-- One value is noted. -/
theorem StB.note {W w : World} {q b gW : Nat} {tag : Nat → Nat} {s : St18} {nd : Nat → Nd18} {n : Nat} {ts vs wl : List Nat} {vT vV : Value} (h : StB W w q b gW tag s nd n ts vs wl vT vV) (j : Nat) (hj : j < ts.length) :
    StB W (w.setCell ⟨gW, j, none⟩ (.int .i64 (s.val (ts.getD j 2) : Nat))) q b gW tag s nd n ts vs (wl.set j (s.val (ts.getD j 2))) vT vV := by
  have ht := touch_set w gW j (.int .i64 (s.val (ts.getD j 2) : Nat))
  exact {
    lb := h.lb.aside ht (fun k e => by rw [e]; exact h.tW) (h.lb.bel.setCell (p := ⟨gW, j, none⟩) h.low _)
    cell := ht.own h.cell h.qW
    tq := h.tq
    rT := ht.row h.rT (fun g hg e => h.aT (e ▸ hg))
    tT := h.tT
    rV := ht.row h.rV (fun g hg e => h.aV (e ▸ hg))
    tV := h.tV
    rW := by
      have := (h.rW.stored j (.int .i64 (s.val (ts.getD j 2) : Nat))).1
      unfold nums at this ⊢
      rw [List.map_set]
      exact this
    tW := h.tW
    low := h.low
    qW := h.qW
    aT := h.aT
    aV := h.aV
    ins := h.ins
    vars := h.vars
    nodup := h.nodup
    was := fun k hk hne => by
      have hl := h.len
      have hg : (wl.set j (s.val (ts.getD j 2))).getD k 2 = if j = k then s.val (ts.getD j 2) else wl.getD k 2 := by
        rw [List.getD_eq_getElem?_getD, List.getElem?_set]
        by_cases e : j = k
        · subst e
          rw [if_pos rfl, if_pos (by omega), if_pos rfl]
          rfl
        · rw [if_neg e, if_neg e, List.getD_eq_getElem?_getD]
      rw [hg] at hne ⊢
      by_cases e : j = k
      · subst e
        rw [if_pos rfl]
      · rw [if_neg e] at hne ⊢
        exact h.was k hk hne }

/-- So many variables are set. -/
def RelB (W : World) (q b gW : Nat) (tag : Nat → Nat) (nd : Nat → Nd18) (n : Nat) (ts vs : List Nat) (vT vV v110 : Value) (wr : World) : Prop :=
  ∃ (i : Nat) (s : St18) (wl : List Nat), v110 = .int .i64 i ∧ i ≤ vs.length ∧ StB W wr q b gW tag s nd n ts vs wl vT vV ∧ (∀ j, j < i → s.val (vs.getD j 2) ≠ 0) ∧ ∀ j, i ≤ j → j < vs.length → s.val (vs.getD j 2) = 0
def RelC (W : World) (q b gW : Nat) (tag : Nat → Nat) (s : St18) (nd : Nat → Nd18) (n : Nat) (ts vs : List Nat) (vT vV v131 : Value) (wr : World) : Prop :=
  ∃ (j : Nat) (wl : List Nat), v131 = .int .i64 j ∧ j ≤ ts.length ∧ StB W wr q b gW tag s nd n ts vs wl vT vV
end Go.Proofs.Ytfkbmecmancgpaa
