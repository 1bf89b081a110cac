/- A book: one more thing (add, Var). -/
import Derived.Test.YtfkbmecmancgpaaSet18
namespace Go.Proofs.Ytfkbmecmancgpaa
open Go.RowKit
set_option linter.unusedVariables false
set_option linter.unusedSimpArgs false

def addS (s : St18) (th : Th18) : St18 := ⟨s.vals ++ [0], fun y => if y = s.vals.length then some th else s.opn y⟩
theorem addS_opn (s : St18) (th : Th18) (y : Nat) : (addS s th).opn y = if y = s.vals.length then some th else s.opn y := rfl
theorem addS_val (s : St18) (th : Th18) (y : Nat) : (addS s th).val y = if y = s.vals.length then 0 else s.val y := by
  unfold St18.val addS
  rw [List.getD_eq_getElem?_getD]
  show ((s.vals ++ [0])[y]?).getD 2 = _
  by_cases h : y = s.vals.length
  · subst h
    rw [if_pos rfl, List.getElem?_append_right (Nat.le_refl _), Nat.sub_self]
    rfl
  · rw [if_neg h, List.getD_eq_getElem?_getD]
    by_cases h2 : y < s.vals.length
    · rw [List.getElem?_append_left h2]
    · rw [List.getElem?_append_right (by omega), List.getElem?_eq_none (l := s.vals) (by omega), List.getElem?_eq_none (by simp; omega)]

theorem u8_info : (Try.prog.info? 5).map (fun i => (i.zero, i.size, i.bytes)) = some (some (.int .u8 0), 1, 1) := by kernel_rfl

def tagA (tag : Nat → Nat) (p n : Nat) (v : Value) : Nat → Nat := fun k => if k = p then 2 * n + 4 else if v.ownBlock = some k then 2 else tag k

section
variable {W w' : World} {b : Nat} {tag : Nat → Nat} {s : St18} {vv vv' : Value} {mb : Nat} {pb : Nat → Nat} {uv : Nat → Value}

theorem BkR.added (h : BkR W b tag s vv mb pb uv) (hopn : ∀ x, (s.opn x).isSome = true → x < s.vals.length) {th : Th18} (hth : th.users = []) {F : Nat → Prop} (ht : Touch F W w') (hF : ∀ k, F k → k = b ∨ k = mb ∨ vv.ownBlock = some k)
    (hb : Own w' b 44 #[vv', .map (some mb)]) (hr : w'.ownsRow 0 5 1 vv' (s.vals.length + 1) (bytesV (s.vals ++ [0])))
    (hm : Opm w' mb (s.vals.length + 1) (fun z => if z = s.vals.length then some W.heap.size else (s.opn z).map fun _ => pb z))
    (hp : Own w' W.heap.size 47 #[.int .i64 th.left, .int .i64 th.one, .slice none 0 0])
    (hv : vv'.ownBlock = vv.ownBlock ∨ ∃ q, vv'.ownBlock = some q ∧ W.heap.size < q ∧ q < w'.heap.size) :
    Bk w' b (tagA tag W.heap.size s.vals.length vv') (addS s th) ∧ (∀ k, k < W.heap.size → tagA tag W.heap.size s.vals.length vv' k = tag k) := by
  have hnew : ∀ k, W.heap.size ≤ k → tag k = 0 := fun k hk => by
    by_cases e : tag k = 0
    · exact e
    · have := h.live k e; omega
  have htag : ∀ k, k < W.heap.size → tagA tag W.heap.size s.vals.length vv' k = tag k := by
    intro k hk
    unfold tagA
    rw [if_neg (by omega)]
    split
    · rename_i e
      rcases hv with hv | ⟨q, hq, hq1, _⟩
      · exact (h.trow k (hv ▸ e)).symm
      · rw [hq] at e; injection e with e; omega
    · rfl
  refine ⟨⟨vv', mb, fun x => if x = s.vals.length then W.heap.size else pb x, fun x => if x = s.vals.length then .slice none 0 0 else uv x, ?_⟩, htag⟩
  have hbl : b < W.heap.size := h.book.inside
  have hml : mb < W.heap.size := h.map.lt
  have hold : ∀ x t, (addS s th).opn x = some t → x ≠ s.vals.length → s.opn x = some t := by
    intro x t hx hne
    rw [addS_opn, if_neg hne] at hx
    exact hx
  have hnF : ∀ k, tag k ≠ 1 → tag k ≠ 2 → tag k ≠ 3 → ¬ F k := by
    intro k h1 h2 h3 hf
    rcases hF k hf with rfl | rfl | e
    · exact h1 h.tbook
    · exact h3 h.tmap
    · exact h2 (h.trow k e)
  exact {
    book := hb
    tbook := by rw [htag b hbl]; exact h.tbook
    row := by
      show w'.ownsRow 0 5 1 vv' (s.vals ++ [0]).length (bytesV (s.vals ++ [0]))
      rw [List.length_append]
      exact hr
    trow := by
      intro k hk
      unfold tagA
      rcases hv with hv | ⟨q, hq, hq1, hq2⟩
      · have := (own_lt h.row k (hv ▸ hk)).2
        rw [if_neg (by omega), if_pos hk]
      · rw [hq] at hk
        injection hk with hk
        subst hk
        rw [if_neg (by omega), if_pos hq]
    map := by
      have : (fun x => ((addS s th).opn x).map fun _ => if x = s.vals.length then W.heap.size else pb x) = (fun z => if z = s.vals.length then some W.heap.size else (s.opn z).map fun _ => pb z) := by
        funext x
        rw [addS_opn]
        by_cases e : x = s.vals.length
        · rw [if_pos e, if_pos e, if_pos e]; rfl
        · rw [if_neg e, if_neg e, if_neg e]
      show Opm w' mb (s.vals ++ [0]).length _
      rw [List.length_append]
      show Opm w' mb (s.vals.length + 1) (fun x => ((addS s th).opn x).map fun _ => if x = s.vals.length then W.heap.size else pb x)
      rw [this]
      exact hm
    tmap := by rw [htag mb hml]; exact h.tmap
    cell := by
      intro x t hx
      by_cases e : x = s.vals.length
      · subst e
        rw [addS_opn, if_pos rfl] at hx
        injection hx with hx
        subst hx
        simp only [if_true]
        exact hp
      · have := hold x t hx e
        simp only [e, if_false]
        exact ht.own (h.cell x t this) (hnF _ (by rw [h.tcell x t this]; omega) (by rw [h.tcell x t this]; omega) (by rw [h.tcell x t this]; omega))
    tcell := by
      intro x t hx
      by_cases e : x = s.vals.length
      · subst e
        simp only [if_true]
        unfold tagA
        rw [if_pos rfl]
      · have := hold x t hx e
        simp only [e, if_false]
        rw [htag _ ((h.cell x t this).inside)]
        exact h.tcell x t this
    urow := by
      intro x t hx
      by_cases e : x = s.vals.length
      · subst e
        rw [addS_opn, if_pos rfl] at hx
        injection hx with hx
        subst hx
        simp only [if_true]
        rw [hth]
        exact World.ownsRow_nil _ _ _ _
      · have := hold x t hx e
        simp only [e, if_false]
        exact ht.row (h.urow x t this) (fun g hg => hnF _ (by rw [h.turow x t this g hg]; omega) (by rw [h.turow x t this g hg]; omega) (by rw [h.turow x t this g hg]; omega))
    turow := by
      intro x t hx k hk
      by_cases e : x = s.vals.length
      · subst e
        simp only [if_true] at hk
        cases hk
      · have := hold x t hx e
        simp only [e, if_false] at hk
        rw [htag k (own_lt (h.urow x t this) k hk).2]
        exact h.turow x t this k hk
    live := by
      intro k hk
      by_cases hkl : k < W.heap.size
      · exact Nat.lt_of_lt_of_le hkl ht.size
      · unfold tagA at hk
        by_cases e : k = W.heap.size
        · subst e; exact hp.inside
        · rw [if_neg e] at hk
          by_cases e2 : vv'.ownBlock = some k
          · exact (own_lt hr k e2).2
          · rw [if_neg e2] at hk
            exact absurd (hnew k (by omega)) hk }
end
end Go.Proofs.Ytfkbmecmancgpaa
