/- A region that draws its order, one of whose operations, a store that waits for those that read what it turns, comes late: what holds till then (F), what holds throughout (G). -/
import Derived.Test.YtfkbmecmancgpaaKit
import Derived.Deep.RegionHeld
namespace Go.Proofs.Ytfkbmecmancgpaa
open Go.RowKit
set_option linter.unusedVariables false

section
variable {P : Program} {ops : Array Oper} {Q : Exit → Act → World → Prop} {md : Region.Mode} {F G : World → Prop} {st : Nat}

/-- What holds when just these have come up: G, and F as long as number st hasn't. -/
def Till (F G : World → Prop) (st : Nat) (listed : Array Bool) (w : World) : Prop := G w ∧ (listed.getD st true = false → F w)

theorem till_come {l : Array Bool} {p : Prop} (h : l.getD st true = true) : l.getD st true = false → p := fun e => by rw [h] at e; cases e

def wpAnyL (P : Program) (md : Region.Mode) (ops : Array Oper) (Q : Exit → Act → World → Prop) (F G : World → Prop) (st : Nat) : Nat → Array Bool → Act → World → Prop
  | 0, listed, a, w => Region.ready md ops listed = [] ∧ Q .normal a w
  | n + 1, listed, a, w =>
    (Region.ready md ops listed = [] → Q .normal a w) ∧
    ∀ i ∈ Region.ready md ops listed, wpOp P ops Q i (fun a' w' => Till F G st (listed.setIfInBounds i true) w' ∧ wpAnyL P md ops Q F G st n (listed.setIfInBounds i true) a' w') a w

theorem wpAny_of_till : ∀ (n : Nat) (listed : Array Bool) (a : Act) (w : World), wpAnyL P md ops Q F G st n listed a w → wpAny P md ops Q n listed a w
  | 0, _, _, _, h => h
  | n + 1, _, _, _, h => ⟨h.1, fun i hi => wpOp_mono (fun a' w' h' => wpAny_of_till n _ a' w' h'.2) (h.2 i hi)⟩

theorem region_till {id : Nat} {a : Act} {w : World} (hm : P.follows .mixedOrders = true) (h : wpAnyL P .any ops Q F G st ops.size (Array.replicate ops.size false) a w.drew) : (Code.region id ops true).wp P Q a w :=
  wp_region_any hm (wpAny_of_till _ _ _ _ h)

theorem getD_set_other {l : Array Bool} {i j : Nat} (d : Bool) (h : i ≠ j) : (l.setIfInBounds i true).getD j d = l.getD j d := getD_set_ne d h

/-- Number i may be taken first: it yields its value wherever T holds, and T holds till it comes up. -/
theorem wpAnyL_first {i : Nat} {oi : Oper} {v : Value} {T : World → Prop} {C : Array Bool → Prop} (hi : ops[i]? = some oi) (hsel : ∀ (j : Nat) (o : Oper) cs b, ops[j]? = some o → o.op ≠ .select cs b)
    (hQ : ∀ c a w, Q (.panic c) (a.put oi.dst v) w → Q (.panic c) a w) (hst : i ≠ st)
    (hT : ∀ listed w, C listed → Till F G st listed w → T w) (hC : ∀ listed j, C listed → i ∈ Region.ready md ops listed → j ∈ Region.ready md ops listed → j ≠ i → C (listed.setIfInBounds j true)) :
    ∀ (n : Nat) (listed : Array Bool) (a : Act) (w : World),
      (∀ j oj, ops[j]? = some oj → j ≠ i → listed.getD j true = false → (∀ e ∈ oj.after, Region.binds md e = true → e.on ≠ i) → oi.apart ops oj = true) →
      C listed → i ∈ Region.ready md ops listed → YieldsIf P ops T oi v a → Till F G st listed w →
      wpAnyL P md ops Q F G st n (listed.setIfInBounds i true) (a.put oi.dst v) w → wpAnyL P md ops Q F G st (n + 1) listed a w := by
  have hback : ∀ listed w, Till F G st (listed.setIfInBounds i true) w → Till F G st listed w := fun listed w h => ⟨h.1, fun e => h.2 (by rw [getD_set_other _ hst]; exact e)⟩
  have hforth : ∀ listed w, Till F G st listed w → Till F G st (listed.setIfInBounds i true) w := fun listed w h => ⟨h.1, fun e => h.2 (by rw [getD_set_other _ hst] at e; exact e)⟩
  intro n
  induction n with
  | zero =>
    intro listed a w _ hc hr hy hS H
    refine ⟨fun h => (by rw [h] at hr; cases hr), fun j hj => ?_⟩
    by_cases hji : j = i
    · subst hji
      exact hy.wpOp hi (hT _ _ hc hS) ⟨hforth _ _ hS, H⟩
    · have h1 := ready_mono hj hji
      rw [H.1] at h1
      cases h1
  | succ n ih =>
    intro listed a w hfree hc hr hy hS H
    refine ⟨fun h => (by rw [h] at hr; cases hr), fun j hj => ?_⟩
    by_cases hji : j = i
    · subst hji
      exact hy.wpOp hi (hT _ _ hc hS) ⟨hforth _ _ hS, H⟩
    · have h1 := H.2 j (ready_mono hj hji)
      obtain ⟨hjun, oj, hoj, hall⟩ := mem_ready.1 hj
      have hnot : ∀ e ∈ oj.after, Region.binds md e = true → e.on ≠ i := fun e he hb heq => by
        have h2 := hall e he hb
        have h0 := (mem_ready.1 hr).1
        rw [heq] at h2
        rcases Nat.lt_or_ge i listed.size with h' | h'
        · simp [h'] at h0 h2; rw [h0] at h2; cases h2
        · simp [Array.getElem?_eq_none h'] at h2
      have h2 := wpOp_putIf hoj (hfree j oj hoj hji hjun hnot) (fun cs b => hsel i oi cs b hi) (fun cs b => hsel j oj cs b hoj) hQ hy h1
      have hfree' : ∀ k ok, ops[k]? = some ok → k ≠ i → (listed.setIfInBounds j true).getD k true = false →
          (∀ e ∈ ok.after, Region.binds md e = true → e.on ≠ i) → oi.apart ops ok = true := fun k ok hk hki hun hno => by
        refine hfree k ok hk hki ?_ hno
        by_cases hjk : j = k
        · subst hjk; exact hjun
        · rw [getD_set_other _ hjk] at hun; exact hun
      refine wpOp_mono (fun a' w' h3 => ?_) h2
      have h4 : Till F G st (listed.setIfInBounds j true) w' := by
        have := h3.2.1
        rw [Array.setIfInBounds_comm _ _ (Ne.symm hji)] at this
        exact hback _ _ this
      refine ⟨h4, ih (listed.setIfInBounds j true) a' w' hfree' (hC _ _ hc hr hj hji) (ready_mono hr (Ne.symm hji)) h3.1 h4 ?_⟩
      rw [Array.setIfInBounds_comm _ _ hji]
      exact h3.2.2

/-- .. by what holds throughout. -/
theorem takeG {i : Nat} {oi : Oper} {v : Value} {n : Nat} {listed : Array Bool} {a : Act} {w : World} (hi : ops[i]? = some oi) (hst : (i == st) = false)
    (hs : Region.noSelect ops = true) (hf : Region.free md ops listed i = true) (hr : (Region.ready md ops listed).contains i = true)
    (hQ : ∀ c a w, Q (.panic c) (a.put oi.dst v) w → Q (.panic c) a w) (hy : YieldsIf P ops G oi v a) (hS : Till F G st listed w)
    (h : Till F G st (listed.setIfInBounds i true) w → wpAnyL P md ops Q F G st n (listed.setIfInBounds i true) (a.put oi.dst v) w) : wpAnyL P md ops Q F G st (n + 1) listed a w := by
  have hne : i ≠ st := fun e => by rw [e] at hst; simp at hst
  refine wpAnyL_first (C := fun _ => True) hi (Region.noSelect_spec hs) hQ hne (fun _ _ _ h => h.1) (fun _ _ _ _ _ _ => trivial) n listed a w (Region.free_spec hi hf) trivial (by simpa using hr) hy hS (h ⟨hS.1, fun e => hS.2 (by rw [getD_set_other _ hne] at e; exact e)⟩)

/-- .. by what holds till number st, which waits for it. -/
theorem takeF {i : Nat} {oi ost : Oper} {v : Value} {n : Nat} {listed : Array Bool} {a : Act} {w : World} (hi : ops[i]? = some oi) (hst : (i == st) = false) (ho : ops[st]? = some ost) (hw : (ost.after.any fun e => Region.binds md e && e.on == i) = true)
    (hs : Region.noSelect ops = true) (hf : Region.free md ops listed i = true) (hr : (Region.ready md ops listed).contains i = true) (hl : listed.getD st true = false)
    (hQ : ∀ c a w, Q (.panic c) (a.put oi.dst v) w → Q (.panic c) a w) (hy : YieldsIf P ops F oi v a) (hS : Till F G st listed w)
    (h : Till F G st (listed.setIfInBounds i true) w → wpAnyL P md ops Q F G st n (listed.setIfInBounds i true) (a.put oi.dst v) w) : wpAnyL P md ops Q F G st (n + 1) listed a w := by
  have hne : i ≠ st := fun e => by rw [e] at hst; simp at hst
  refine wpAnyL_first (C := fun l => l.getD st true = false) hi (Region.noSelect_spec hs) hQ hne (fun l w hc h => h.2 hc) ?_ n listed a w (Region.free_spec hi hf) hl (by simpa using hr) hy hS (h ⟨hS.1, fun e => hS.2 (by rw [getD_set_other _ hne] at e; exact e)⟩)
  intro l j hc hri hrj hji
  have hjs : j ≠ st := by
    intro e
    subst e
    obtain ⟨_, oj, hoj, hall⟩ := mem_ready.1 hrj
    rw [ho] at hoj
    injection hoj with hoj
    subst hoj
    obtain ⟨e, he, hb⟩ := Array.any_eq_true'.1 hw
    simp only [Bool.and_eq_true, beq_iff_eq] at hb
    have h2 := hall e he hb.1
    have h0 := (mem_ready.1 hri).1
    rw [hb.2] at h2
    rcases Nat.lt_or_ge i l.size with h' | h'
    · simp [h'] at h0 h2; rw [h0] at h2; cases h2
    · simp [Array.getElem?_eq_none h'] at h2
  rw [getD_set_other _ hjs]
  exact hc

/-- Whichever of those that may come up comes up. -/
def AllTill (P : Program) (md : Region.Mode) (ops : Array Oper) (Q : Exit → Act → World → Prop) (F G : World → Prop) (st : Nat) (n : Nat) (listed : Array Bool) (a : Act) (w : World) (rs : List Nat) : Prop :=
  ∀ i ∈ rs, wpOp P ops Q i (fun a' w' => Till F G st (listed.setIfInBounds i true) w' ∧ wpAnyL P md ops Q F G st n (listed.setIfInBounds i true) a' w') a w
theorem AllTill.nil {n : Nat} {listed : Array Bool} {a : Act} {w : World} : AllTill P md ops Q F G st n listed a w [] := fun _ h => by cases h
theorem AllTill.cons {n : Nat} {listed : Array Bool} {a : Act} {w : World} {i : Nat} {o : Oper} {rs : List Nat} (ho : ops[i]? = some o)
    (h : ∀ K' : Act → World → Prop, Shut (∀ a w, Till F G st (listed.setIfInBounds i true) w → (Till F G st (listed.setIfInBounds i true) w → wpAnyL P md ops Q F G st n (listed.setIfInBounds i true) a w) → K' a w) → if Region.wanted o (yielded ops a.tmps) = true then Oper.wp P o a w K' Q else K' (a.put o.dst undef) w)
    (hs : AllTill P md ops Q F G st n listed a w rs) : AllTill P md ops Q F G st n listed a w (i :: rs) := fun j hj => by
  rcases List.mem_cons.1 hj with rfl | hj
  · exact wpOp_step ho (fun K' hK => h K' (fun a w hS hW => hK a w ⟨hS, hW hS⟩))
  · exact hs j hj
theorem till_ready {rs : List Nat} {n : Nat} {listed : Array Bool} {a : Act} {w : World} (hr : Region.ready md ops listed = rs) (hne : rs ≠ []) (h : AllTill P md ops Q F G st n listed a w rs) : wpAnyL P md ops Q F G st (n + 1) listed a w :=
  ⟨fun h0 => absurd (hr ▸ h0) hne, hr ▸ h⟩
theorem till_done {listed : Array Bool} {a : Act} {w : World} (hr : Region.ready md ops listed = []) (h : Q .normal a w) : ∀ n, wpAnyL P md ops Q F G st n listed a w
  | 0 => ⟨hr, h⟩
  | _ + 1 => ⟨fun _ => h, by rw [hr]; simp⟩
end
end Go.Proofs.Ytfkbmecmancgpaa
