/- A book: one more thing, as plain mathematics. -/
import Derived.Test.YtfkbmecmancgpaaSrC18
namespace Go.Proofs.Ytfkbmecmancgpaa
set_option linter.unusedVariables false

def usersOn (r : Nat) (s : St18) (d : Nat) : St18 := s.setOpn d ((s.opn d).map fun t => { t with users := t.users ++ [r] })
/-- So far k of those that it hangs on know of it. -/
def joinK (s : St18) (one : Nat) (U : List Nat) (k : Nat) : St18 := (U.take k).foldl (usersOn s.vals.length) (addS s ⟨U.length, one, []⟩)

theorem fold_vals (r : Nat) : ∀ (U : List Nat) (s : St18), (U.foldl (usersOn r) s).vals = s.vals
  | [], _ => rfl
  | d :: U, s => by
    rw [List.foldl_cons, fold_vals r U]
    rfl
theorem fold_opn (r : Nat) : ∀ (U : List Nat), U.Nodup → ∀ (s : St18) (y : Nat), (U.foldl (usersOn r) s).opn y = if y ∈ U then (s.opn y).map (fun t => { t with users := t.users ++ [r] }) else s.opn y
  | [], _, _, _ => by simp
  | d :: U, hn, s, y => by
    obtain ⟨hd, hn'⟩ := List.nodup_cons.1 hn
    rw [List.foldl_cons, fold_opn r U hn']
    unfold usersOn
    rw [opn_setOpn]
    by_cases e : y = d
    · subst e
      simp [hd]
    · simp [e]
theorem joinK_vals (s : St18) (one : Nat) (U : List Nat) (k : Nat) : (joinK s one U k).vals = s.vals ++ [0] := by
  unfold joinK
  rw [fold_vals]
  rfl
theorem joinK_opn (s : St18) (one : Nat) {U : List Nat} (hU : U.Nodup) (k y : Nat) : (joinK s one U k).opn y = if y ∈ U.take k then ((addS s ⟨U.length, one, []⟩).opn y).map (fun t => { t with users := t.users ++ [s.vals.length] }) else (addS s ⟨U.length, one, []⟩).opn y := by
  unfold joinK
  exact fold_opn _ _ (hU.sublist (List.take_sublist k U)) _ _
theorem joinK_succ (s : St18) (one : Nat) (U : List Nat) (k : Nat) (hk : k < U.length) : joinK s one U (k + 1) = usersOn s.vals.length (joinK s one U k) U[k] := by
  unfold joinK
  rw [List.take_succ_eq_append_getElem hk, List.foldl_append]
  rfl

/-- How a book grows by one thing: those of U know of it. -/
structure Grow18 (s s' : St18) (U : List Nat) (th : Th18) : Prop where
  vals : s'.vals = s.vals ++ [0]
  new : s'.opn s.vals.length = some th
  old : ∀ y, y ≠ s.vals.length → s'.opn y = if y ∈ U then (s.opn y).map (fun t => { t with users := t.users ++ [s.vals.length] }) else s.opn y

theorem grow_var (s : St18) (th : Th18) : Grow18 s (addS s th) [] th := ⟨rfl, by rw [addS_opn, if_pos rfl], fun y hy => by rw [addS_opn, if_neg hy]; simp⟩
theorem grow_join (s : St18) (one : Nat) {U : List Nat} (hU : U.Nodup) (hl : s.vals.length ∉ U) : Grow18 s (joinK s one U U.length) U ⟨U.length, one, []⟩ := by
  refine ⟨joinK_vals _ _ _ _, ?_, fun y hy => ?_⟩
  · rw [joinK_opn s one hU, List.take_length, if_neg hl, addS_opn, if_pos rfl]
  · rw [joinK_opn s one hU, List.take_length, addS_opn, if_neg hy]

theorem Grow18.val {s s' : St18} {U : List Nat} {th : Th18} (h : Grow18 s s' U th) (y : Nat) : s'.val y = if y = s.vals.length then 0 else s.val y := by
  have := addS_val s th y
  unfold St18.val at this ⊢
  rw [h.vals]
  exact this

/-- The thing's kind, behind those that there are. -/
def ndA (nd : Nat → Nd18) (n : Nat) (N : Nd18) : Nat → Nd18 := fun y => if y = n then N else nd y

theorem Mid18.grow {nd : Nat → Nd18} {n : Nat} {s s' : St18} {U : List Nat} {th : Th18} {N : Nd18} (h : Mid18 nd n s [] none) (g : Grow18 s s' U th) (hth : th.users = [])
    (hU : U.Nodup) (h0 : ∀ d ∈ U, s.val d = 0)
    (hN : (N = .var ∧ U = [] ∧ th.left = 0) ∨ (∃ one, (one = 1 ∨ one = 2) ∧ N = .join one U ∧ U ≠ [] ∧ th.one = one ∧ th.left = U.length)) :
    Mid18 (ndA nd n N) (n + 1) s' [] none := by
  have hl := h.len
  have hUn : ∀ d ∈ U, d < n := fun d hd => h.nm (h0 d hd)
  have hlen : U.length ≤ n := nodup_len n hU hUn
  have hval : ∀ y, s'.val y = if y = n then 0 else s.val y := fun y => by rw [← hl]; exact g.val y
  have hvn : s'.val n = 0 := by rw [hval, if_pos rfl]
  have hvo : ∀ y, y ≠ n → s'.val y = s.val y := fun y hy => by rw [hval, if_neg hy]
  have hnew : s'.opn n = some th := by have := g.new; rw [hl] at this; exact this
  have hold : ∀ y, y ≠ n → s'.opn y = if y ∈ U then (s.opn y).map (fun t => { t with users := t.users ++ [n] }) else s.opn y := fun y hy => by
    have := g.old y (by rw [hl]; exact hy)
    rw [hl] at this
    exact this
  have hso : ∀ y, y ≠ n → (s'.opn y).isSome = (s.opn y).isSome := fun y hy => by
    rw [hold y hy]
    split
    · cases s.opn y <;> rfl
    · rfl
  have hndn : ndA nd n N n = N := by unfold ndA; rw [if_pos rfl]
  have hndo : ∀ y, y ≠ n → ndA nd n N y = nd y := fun y hy => by unfold ndA; rw [if_neg hy]
  have hNf : N ≠ .fix := by
    rcases hN with ⟨e, _⟩ | ⟨one, _, e, _⟩ <;> rw [e] <;> simp
  have hNj : ∀ o ds, N = .join o ds → (o = 1 ∨ o = 2) ∧ ds = U ∧ ds ≠ [] ∧ th.one = o ∧ th.left = U.length := by
    intro o ds e
    rcases hN with ⟨e', _⟩ | ⟨one, h1, e', h2, h3, h4⟩
    · rw [e'] at e; cases e
    · rw [e'] at e
      injection e with ea eb
      subst ea; subst eb
      exact ⟨h1, rfl, h2, h3, h4⟩
  have hmade : Made18 (ndA nd n N) (n + 1) := {
    two := by have := h.made.two; omega
    no := by rw [hndo 0 (by have := h.made.two; omega)]; exact h.made.no
    yes := by rw [hndo 1 (by have := h.made.two; omega)]; exact h.made.yes
    fix := fun x hx e => by
      by_cases hxn : x = n
      · subst hxn; rw [hndn] at e; exact absurd e hNf
      · rw [hndo x hxn] at e; exact h.made.fix x (by omega) e
    one := fun x hx o ds e => by
      by_cases hxn : x = n
      · subst hxn; rw [hndn] at e; exact (hNj o ds e).1
      · rw [hndo x hxn] at e; exact h.made.one x (by omega) o ds e
    elder := fun x hx o ds e d hd => by
      by_cases hxn : x = n
      · subst hxn; rw [hndn] at e; exact hUn d ((hNj o ds e).2.1 ▸ hd)
      · rw [hndo x hxn] at e; exact h.made.elder x (by omega) o ds e d hd
    once := fun x hx o ds e => by
      by_cases hxn : x = n
      · subst hxn; rw [hndn] at e; exact (hNj o ds e).2.1 ▸ hU
      · rw [hndo x hxn] at e; exact h.made.once x (by omega) o ds e
    some := fun x hx o ds e => by
      by_cases hxn : x = n
      · subst hxn; rw [hndn] at e; exact (hNj o ds e).2.2.1
      · rw [hndo x hxn] at e; exact h.made.some x (by omega) o ds e }
  -- those that are open, as they were
  have hopo : ∀ y t, y ≠ n → s'.opn y = some t → ∃ t0, s.opn y = some t0 ∧ t.left = t0.left ∧ t.one = t0.one ∧ t.users = if y ∈ U then t0.users ++ [n] else t0.users := by
    intro y t hy ht
    rw [hold y hy] at ht
    by_cases hU : y ∈ U
    · rw [if_pos hU] at ht
      cases hq : s.opn y with
      | none => rw [hq] at ht; cases ht
      | some t0 =>
        rw [hq] at ht
        injection ht with ht
        subst ht
        exact ⟨t0, rfl, rfl, rfl, by rw [if_pos hU]⟩
    · rw [if_neg hU] at ht
      exact ⟨t, ht, rfl, rfl, by rw [if_neg hU]⟩
  exact {
    made := hmade
    len := by rw [g.vals, List.length_append, hl]; rfl
    three := by
      intro v hv
      rw [g.vals] at hv
      rcases List.mem_append.1 hv with hv | hv
      · exact h.three v hv
      · simp at hv; exact .inl hv
    no := by rw [hvo 0 (by have := h.made.two; omega)]; exact h.no
    yes := by rw [hvo 1 (by have := h.made.two; omega)]; exact h.yes
    opn := by
      intro y
      by_cases e : y = n
      · subst e
        rw [hnew, hvn]
        simp
      · rw [hso y e, hvo y e, h.opn y]
        constructor
        · rintro ⟨a, b⟩; exact ⟨by omega, b⟩
        · rintro ⟨a, b⟩; exact ⟨by omega, b⟩
    kn := List.nodup_nil
    kv := fun y hy => by cases hy
    users := by
      intro y t ht
      by_cases e : y = n
      · subst e
        rw [hnew] at ht
        injection ht with ht
        subst ht
        rw [hth]
        refine ⟨List.nodup_nil, by simp, fun z => ⟨fun hz => (by cases hz), ?_⟩⟩
        rintro ⟨hz, o, ds, hj, hd⟩
        have := hmade.elder z hz o ds hj y hd
        omega
      · obtain ⟨t0, ht0, _, _, eu⟩ := hopo y t e ht
        obtain ⟨u1, u2, u3⟩ := h.users y t0 ht0
        rw [eu]
        by_cases hU' : y ∈ U
        · rw [if_pos hU']
          refine ⟨?_, by rw [List.length_append]; simp; omega, fun z => ?_⟩
          · rw [List.nodup_append]
            refine ⟨u1, by simp, ?_⟩
            intro a ha b hb
            simp at hb
            subst hb
            have := ((u3 a).1 ha).1
            omega
          · rw [List.mem_append]
            constructor
            · rintro (hz | hz)
              · obtain ⟨a, o, ds, hj, hd⟩ := (u3 z).1 hz
                exact ⟨by omega, o, ds, by rw [hndo z (by omega)]; exact hj, hd⟩
              · simp at hz
                subst hz
                rcases hN with ⟨_, e0, _⟩ | ⟨one, _, e1, _⟩
                · rw [e0] at hU'; cases hU'
                · exact ⟨by omega, one, U, by rw [hndn]; exact e1, hU'⟩
            · rintro ⟨hz, o, ds, hj, hd⟩
              by_cases hzn : z = n
              · right; simp [hzn]
              · rw [hndo z hzn] at hj
                exact .inl ((u3 z).2 ⟨by omega, o, ds, hj, hd⟩)
        · rw [if_neg hU']
          refine ⟨u1, by omega, fun z => ?_⟩
          constructor
          · intro hz
            obtain ⟨a, o, ds, hj, hd⟩ := (u3 z).1 hz
            exact ⟨by omega, o, ds, by rw [hndo z (by omega)]; exact hj, hd⟩
          · rintro ⟨hz, o, ds, hj, hd⟩
            by_cases hzn : z = n
            · subst hzn
              rw [hndn] at hj
              exact absurd ((hNj o ds hj).2.1 ▸ hd) hU'
            · rw [hndo z hzn] at hj
              exact (u3 z).2 ⟨by omega, o, ds, hj, hd⟩
    left := by
      intro y t ht hy0 o ds hj
      by_cases e : y = n
      · subst e
        rw [hnew] at ht
        injection ht with ht
        subst ht
        rw [hndn] at hj
        obtain ⟨h1, rfl, h2, h3, h4⟩ := hNj o ds hj
        have hall : ∀ d ∈ ds, Unh s' none y d := fun d hd => by
          have hdn : d ≠ y := by have := hUn d hd; omega
          left
          rw [hso d hdn]
          exact (h.opn d).2 ⟨hUn d hd, .inl (h0 d hd)⟩
        refine ⟨h3, ?_, ?_, by omega, fun d hd hnu => absurd (hall d hd) hnu⟩
        · rw [h4]
          unfold cntU
          symm
          rw [List.countP_eq_length]
          intro d hd
          simpa using hall d hd
        · rw [h4]
          have : ds.length ≠ 0 := fun e => h2 (List.eq_nil_of_length_eq_zero e)
          omega
      · obtain ⟨t0, ht0, el, eo, _⟩ := hopo y t e ht
        rw [hndo y e] at hj
        rw [hvo y e] at hy0
        have hyn := h.nm hy0
        obtain ⟨f1, f2, f3, f3b, f4⟩ := h.left y t0 ht0 hy0 o ds hj
        have hdn : ∀ d ∈ ds, d ≠ n := fun d hd => by have := h.made.elder y hyn o ds hj d hd; omega
        have hu : ∀ d ∈ ds, Unh s none y d ↔ Unh s' none y d := fun d hd => by
          unfold Unh
          rw [hso d (hdn d hd)]
        refine ⟨by rw [eo]; exact f1, by rw [el, f2]; exact cnt_same hu, by omega, by omega, fun d hd hnu => ?_⟩
        rw [hvo d (hdn d hd)]
        exact f4 d hd (fun hh => hnu ((hu d hd).1 hh))
    var := by
      intro y t ht hy0 hv
      by_cases e : y = n
      · subst e
        rw [hnew] at ht
        injection ht with ht
        subst ht
        rw [hndn] at hv
        rcases hN with ⟨_, _, e1⟩ | ⟨one, _, e1, _⟩
        · exact e1
        · rw [e1] at hv; cases hv
      · obtain ⟨t0, ht0, el, _, _⟩ := hopo y t e ht
        rw [hndo y e] at hv
        rw [hvo y e] at hy0
        rw [el]
        exact h.var y t0 ht0 hy0 hv
    just := by
      intro y hyn hy0 o ds hj
      have e : y ≠ n := by intro e; subst e; exact hy0 hvn
      rw [hndo y e] at hj
      rw [hvo y e] at hy0 ⊢
      have hyn' : y < n := by omega
      have hdn : ∀ d ∈ ds, d ≠ n := fun d hd => by have := h.made.elder y hyn' o ds hj d hd; omega
      rcases h.just y hyn' hy0 o ds hj with ⟨a, d, hd, b⟩ | ⟨a, b⟩
      · exact .inl ⟨a, d, hd, by rw [hvo d (hdn d hd)]; exact b⟩
      · exact .inr ⟨a, fun d hd => by rw [hvo d (hdn d hd)]; exact b d hd⟩
    cur := by intro _ _ e; cases e }
end Go.Proofs.Ytfkbmecmancgpaa
