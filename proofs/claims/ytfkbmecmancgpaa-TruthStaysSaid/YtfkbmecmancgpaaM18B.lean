/- What telling does to a book: each step keeps it in order. -/
import Derived.Test.YtfkbmecmancgpaaM18
namespace Go.Proofs.Ytfkbmecmancgpaa
set_option linter.unusedVariables false
section
variable {nd : Nat → Nd18} {n : Nat} {s : St18} {K : List Nat}

theorem Mid18.nm {cur : Option (Nat × List Nat)} (h : Mid18 nd n s K cur) {y : Nat} (hy : s.val y = 0) : y < n := h.len ▸ St18.val_lt hy

theorem Mid18.th {cur : Option (Nat × List Nat)} (h : Mid18 nd n s K cur) {y : Nat} (hy : s.val y = 0) : ∃ th, s.opn y = some th :=
  Option.isSome_iff_exists.1 ((h.opn y).2 ⟨h.nm hy, .inl hy⟩)

/-- The next one is told. -/
theorem Mid18.hear {x u : Nat} {rest : List Nat} (h : Mid18 nd n s K (some (x, u :: rest))) :
    Mid18 nd n (hearS s u (s.val x)).2 (if (hearS s u (s.val x)).1 then K ++ [u] else K) (some (x, rest)) ∧ Ext18 s.val (hearS s u (s.val x)).2.val ∧
      (∀ y, nd y = .var → (hearS s u (s.val x)).2.val y = s.val y) ∧ (∀ y, ((hearS s u (s.val x)).2.opn y).isSome = (s.opn y).isSome) := by
  obtain ⟨hxn, hx0, hxo, hnd, hus⟩ := h.cur x _ rfl
  obtain ⟨hun, o, ds, hju, hxd⟩ := hus u (by simp)
  obtain ⟨hur, hnr⟩ := List.nodup_cons.1 hnd
  have ho := h.made.one u hun o ds hju
  have hxv : s.val x = 1 ∨ s.val x = 2 := by have := h.v3 x; omega
  have hxu : x ≠ u := by have := h.made.elder u hun o ds hju x hxd; omega
  have hcur : ∀ x' l, some (x, rest) = some (x', l) → x' < n ∧ s.val x' ≠ 0 ∧ s.opn x' = none ∧ l.Nodup ∧ ∀ z ∈ l, z < n ∧ ∃ o ds, nd z = .join o ds ∧ x' ∈ ds := by
    intro x' l e
    injection e with e
    injection e with e1 e2
    subst e1; subst e2
    exact ⟨hxn, hx0, hxo, hnr, fun z hz => hus z (by simp [hz])⟩
  -- who hasn't told y yet is the same, for all y but u
  have hunh : ∀ y, y ≠ u → ∀ d, Unh s (some (x, u :: rest)) y d ↔ Unh s (some (x, rest)) y d := by
    intro y hy d
    unfold Unh
    constructor
    · rintro (h1 | ⟨a, l, e, rfl, hm⟩)
      · exact .inl h1
      · injection e with e; injection e with e1 e2; subst e1; subst e2
        rcases List.mem_cons.1 hm with hm | hm
        · exact absurd hm hy
        · exact .inr ⟨_, _, rfl, rfl, hm⟩
    · rintro (h1 | ⟨a, l, e, rfl, hm⟩)
      · exact .inl h1
      · injection e with e; injection e with e1 e2; subst e1; subst e2
        exact .inr ⟨_, _, rfl, rfl, by simp [hm]⟩
  by_cases hu0 : s.val u = 0
  · obtain ⟨th, hth⟩ := h.th hu0
    obtain ⟨e1, e2, e3, e3b, e4⟩ := h.left u th hth hu0 o ds hju
    have hnx : ¬ Unh s (some (x, rest)) u x := by
      unfold Unh
      rintro (h1 | ⟨a, l, e, rfl, hm⟩)
      · rw [hxo] at h1; cases h1
      · injection e with e; injection e with e1 e2; subst e2; exact hur hm
    have hyx : Unh s (some (x, u :: rest)) u x := .inr ⟨_, _, rfl, rfl, by simp⟩
    have hoth : ∀ d ∈ ds, d ≠ x → (Unh s (some (x, u :: rest)) u d ↔ Unh s (some (x, rest)) u d) := by
      intro d _ hdx
      unfold Unh
      constructor
      · rintro (h1 | ⟨a, l, e, rfl, hm⟩)
        · exact .inl h1
        · injection e with e; injection e with e1 e2; exact absurd e1.symm hdx
      · rintro (h1 | ⟨a, l, e, rfl, hm⟩)
        · exact .inl h1
        · injection e with e; injection e with e1 e2; exact absurd e1.symm hdx
    have hless := cnt_less (s := s) (s' := s) (h.made.once u hun o ds hju) hxd hyx hnx hoth
    -- what is open stays so
    have hopn : ∀ t : Th18, ∀ y, ((s.setOpn u (some t)).opn y).isSome = (s.opn y).isSome := by
      intro t y
      rw [opn_setOpn]
      by_cases hy : y = u
      · subst hy; rw [if_pos rfl, hth]; rfl
      · rw [if_neg hy]
    have hunh2 : ∀ (t : Th18) cur y d, Unh (s.setOpn u (some t)) cur y d ↔ Unh s cur y d := by
      intro t cur y d
      unfold Unh
      rw [hopn]
    have hcnt2 : ∀ (t : Th18) cur y ds, cntU (s.setOpn u (some t)) cur y ds = cntU s cur y ds := fun t cur y ds => cnt_same (fun d _ => hunh2 t cur y d)
    by_cases hc : s.val x ≠ th.one ∧ 0 < th.left - 1
    · -- it is still open
      have ehs : hearS s u (s.val x) = (false, s.setOpn u (some { th with left := th.left - 1 })) := by
        simp [hearS, hu0, hth, hc]
      rw [ehs]
      refine ⟨?_, Ext18.refl _, fun _ _ => rfl, fun y => hopn _ y⟩
      simp only [Bool.false_eq_true, if_false]
      refine { made := h.made, len := h.len, three := h.three, no := h.no, yes := h.yes, opn := fun y => by rw [hopn]; exact h.opn y, kn := h.kn, kv := h.kv, users := ?_, left := ?_, var := ?_, just := h.just, cur := ?_ }
      · intro y t ht
        rw [opn_setOpn] at ht
        by_cases hy : y = u
        · subst hy
          rw [if_pos rfl] at ht
          injection ht with ht
          subst ht
          exact h.users y th hth
        · rw [if_neg hy] at ht
          exact h.users y t ht
      · intro y t ht hy0 o' ds' hj
        rw [opn_setOpn] at ht
        by_cases hy : y = u
        · subst hy
          rw [if_pos rfl] at ht
          injection ht with ht
          subst ht
          rw [hju] at hj
          injection hj with ea eb
          subst ea; subst eb
          refine ⟨e1, ?_, hc.2, by simp only []; omega, ?_⟩
          · simp only []
            rw [hcnt2]; omega
          · intro d hd hnu
            by_cases hdx : d = x
            · subst hdx
              exact oth_of ho hxv (e1 ▸ hc.1)
            · exact e4 d hd (fun hh => hnu ((hunh2 _ _ _ _).2 ((hoth d hd hdx).1 hh)))
        · rw [if_neg hy] at ht
          obtain ⟨f1, f2, f3, f3b, f4⟩ := h.left y t ht hy0 o' ds' hj
          refine ⟨f1, ?_, f3, f3b, fun d hd hnu => f4 d hd (fun hh => hnu ((hunh2 _ _ _ _).2 ((hunh y hy d).1 hh)))⟩
          rw [hcnt2, f2]
          exact cnt_same (fun d _ => hunh y hy d)
      · intro y t ht hy0 hv
        rw [opn_setOpn] at ht
        by_cases hy : y = u
        · subst hy
          rw [hju] at hv
          cases hv
        · rw [if_neg hy] at ht
          exact h.var y t ht hy0 hv
      · intro x' l e
        obtain ⟨a1, a2, a3, a4⟩ := hcur x' l e
        refine ⟨a1, a2, ?_, a4⟩
        have := hopn { th with left := th.left - 1 } x'
        rw [a3] at this
        cases hq : (s.setOpn u (some { th with left := th.left - 1 })).opn x' with
        | none => rfl
        | some _ => rw [hq] at this; cases this
    · -- it is known
      have ehs : hearS s u (s.val x) = (true, (s.setOpn u (some { th with left := th.left - 1 })).setVal u (s.val x)) := by
        simp [hearS, hu0, hth, hc]
      rw [ehs]
      have hul : u < (s.setOpn u (some { th with left := th.left - 1 })).vals.length := by show u < s.vals.length; rw [h.len]; exact hun
      generalize hs1 : s.setOpn u (some { th with left := th.left - 1 }) = s1 at hul
      have hval : ∀ y, (s1.setVal u (s.val x)).val y = if y = u then s.val x else s.val y := by
        intro y
        rw [val_setVal hul, ← hs1, val_setOpn]
      have hop1 : ∀ y, ((s1.setVal u (s.val x)).opn y).isSome = (s.opn y).isSome := by intro y; rw [opn_setVal, ← hs1]; exact hopn _ y
      have hunh3 : ∀ cur y d, Unh (s1.setVal u (s.val x)) cur y d ↔ Unh s cur y d := by
        intro cur y d
        unfold Unh
        rw [hop1]
      have hcnt3 : ∀ cur y ds, cntU (s1.setVal u (s.val x)) cur y ds = cntU s cur y ds := fun cur y ds => cnt_same (fun d _ => hunh3 cur y d)
      have hext : Ext18 s.val (s1.setVal u (s.val x)).val := by
        intro y hy
        rw [hval]
        by_cases e : y = u
        · subst e; exact absurd hu0 hy
        · rw [if_neg e]
      have huK : u ∉ K := fun hm => (h.kv u hm).2 hu0
      refine ⟨?_, hext, ?_, fun y => hop1 y⟩
      · simp only [if_true]
        refine { made := h.made, len := ?_, three := ?_, no := ?_, yes := ?_, opn := ?_, kn := ?_, kv := ?_, users := ?_, left := ?_, var := ?_, just := ?_, cur := ?_ }
        · show (s1.vals.set u _).length = n
          rw [List.length_set, ← hs1]; exact h.len
        · intro v hv
          rcases List.mem_or_eq_of_mem_set hv with hv | hv
          · rw [← hs1] at hv; exact h.three v hv
          · rw [hv]; have := h.v3 x; omega
        · rw [hext 0 (by rw [h.no]; decide), h.no]
        · rw [hext 1 (by rw [h.yes]; decide), h.yes]
        · intro y
          rw [hop1, h.opn, hval]
          constructor
          · rintro ⟨a, b⟩
            refine ⟨a, ?_⟩
            by_cases e : y = u
            · right; simp [e]
            · rw [if_neg e]
              rcases b with b | b
              · exact .inl b
              · exact .inr (by simp [b])
          · rintro ⟨a, b⟩
            refine ⟨a, ?_⟩
            by_cases e : y = u
            · subst e; exact .inl hu0
            · rw [if_neg e] at b
              rcases b with b | b
              · exact .inl b
              · right
                rcases List.mem_append.1 b with b | b
                · exact b
                · exact absurd (by simpa using b) e
        · rw [List.nodup_append]
          refine ⟨h.kn, by simp, ?_⟩
          intro a ha b hb
          simp at hb
          subst hb
          exact fun e => huK (e ▸ ha)
        · intro y hy
          rw [hval]
          rcases List.mem_append.1 hy with hy | hy
          · have hyu : y ≠ u := fun e => huK (e ▸ hy)
            rw [if_neg hyu]
            exact h.kv y hy
          · simp at hy
            subst hy
            rw [if_pos rfl]
            exact ⟨hun, hx0⟩
        · intro y t ht
          rw [opn_setVal, ← hs1, opn_setOpn] at ht
          by_cases hy : y = u
          · subst hy
            rw [if_pos rfl] at ht
            injection ht with ht
            subst ht
            exact h.users y th hth
          · rw [if_neg hy] at ht
            exact h.users y t ht
        · intro y t ht hy0 o' ds' hj
          rw [hval] at hy0
          by_cases hy : y = u
          · rw [if_pos hy] at hy0
            exact absurd hy0 hx0
          · rw [if_neg hy] at hy0
            rw [opn_setVal, ← hs1, opn_setOpn, if_neg hy] at ht
            obtain ⟨f1, f2, f3, f3b, f4⟩ := h.left y t ht hy0 o' ds' hj
            refine ⟨f1, ?_, f3, f3b, fun d hd hnu => ?_⟩
            · rw [hcnt3, f2]
              exact cnt_same (fun d _ => hunh y hy d)
            · have := f4 d hd (fun hh => hnu ((hunh3 _ _ _).2 ((hunh y hy d).1 hh)))
              rw [hext d (by rw [this]; exact (oth_ne (h.made.one y (h.nm hy0) o' ds' hj)).2.2), this]
        · intro y t ht hy0 hv
          rw [hval] at hy0
          by_cases hy : y = u
          · rw [if_pos hy] at hy0
            exact absurd hy0 hx0
          · rw [if_neg hy] at hy0
            rw [opn_setVal, ← hs1, opn_setOpn, if_neg hy] at ht
            exact h.var y t ht hy0 hv
        · intro y hyn hy0 o' ds' hj
          by_cases hy : y = u
          · subst hy
            rw [hju] at hj
            injection hj with ea eb
            subst ea; subst eb
            have ey : (s1.setVal y (s.val x)).val y = s.val x := by rw [hval, if_pos rfl]
            have ex : (s1.setVal y (s.val x)).val x = s.val x := by rw [hval, if_neg hxu]
            by_cases hvx : s.val x = o
            · exact .inl ⟨ey.trans hvx, x, hxd, ex.trans hvx⟩
            · right
              have hvo : s.val x = oth o := oth_of ho hxv hvx
              have hl0 : th.left - 1 = 0 := by
                by_cases hl : 0 < th.left - 1
                · exact absurd ⟨e1 ▸ hvx, hl⟩ hc
                · omega
              refine ⟨ey.trans hvo, fun d hd => ?_⟩
              by_cases hdx : d = x
              · subst hdx; exact ex.trans hvo
              · have hc0 : cntU s (some (x, rest)) y ds = 0 := by omega
                have hnu : ¬ Unh s (some (x, y :: rest)) y d := by
                  intro hh
                  have h2 := (hoth d hd hdx).1 hh
                  unfold cntU at hc0
                  rw [List.countP_eq_zero] at hc0
                  exact hc0 d hd (by simpa using h2)
                have := e4 d hd hnu
                rw [hext d (by rw [this]; exact (oth_ne ho).2.2), this]
          · have hy0' : s.val y ≠ 0 := by rw [hval, if_neg hy] at hy0; exact hy0
            have hoo := h.made.one y hyn o' ds' hj
            rcases h.just y hyn hy0' o' ds' hj with ⟨a, d, hd, b⟩ | ⟨a, b⟩
            · refine .inl ⟨?_, d, hd, ?_⟩
              · rw [hext y hy0', a]
              · rw [hext d (by omega), b]
            · refine .inr ⟨?_, fun d hd => ?_⟩
              · rw [hext y hy0', a]
              · rw [hext d (by rw [b d hd]; exact (oth_ne hoo).2.2), b d hd]
        · intro x' l e
          obtain ⟨a1, a2, a3, a4⟩ := hcur x' l e
          refine ⟨a1, ?_, ?_, a4⟩
          · rw [hext x' a2]; exact a2
          · have := hop1 x'
            rw [a3] at this
            cases hq : (s1.setVal u (s.val x)).opn x' with
            | none => rfl
            | some _ => rw [hq] at this; cases this
      · intro y hv
        rw [hval]
        by_cases hy : y = u
        · subst hy; rw [hju] at hv; cases hv
        · rw [if_neg hy]
  · have ehs : hearS s u (s.val x) = (false, s) := by simp [hearS, hu0]
    rw [ehs]
    refine ⟨?_, Ext18.refl _, fun _ _ => rfl, fun _ => rfl⟩
    simp only [Bool.false_eq_true, if_false]
    exact { made := h.made, len := h.len, three := h.three, no := h.no, yes := h.yes, opn := h.opn, kn := h.kn, kv := h.kv, users := h.users,
            left := by
              intro y t ht hy0 o' ds' hj
              have hy : y ≠ u := fun e => hu0 (e ▸ hy0)
              obtain ⟨f1, f2, f3, f3b, f4⟩ := h.left y t ht hy0 o' ds' hj
              exact ⟨f1, f2.trans (cnt_same (fun d _ => hunh y hy d)), f3, f3b, fun d hd hnu => f4 d hd (fun hh => hnu ((hunh y hy d).1 hh))⟩,
            var := h.var, just := h.just, cur := hcur }

/-- All are told. -/
theorem Mid18.done {x : Nat} (h : Mid18 nd n s K (some (x, []))) : Mid18 nd n s K none := by
  have hu : ∀ y d, Unh s (some (x, [])) y d ↔ Unh s none y d := by
    intro y d
    unfold Unh
    constructor
    · rintro (h1 | ⟨a, l, e, rfl, hm⟩)
      · exact .inl h1
      · injection e with e; injection e with e1 e2; subst e2; cases hm
    · rintro (h1 | ⟨a, l, e, _⟩)
      · exact .inl h1
      · cases e
  exact { made := h.made, len := h.len, three := h.three, no := h.no, yes := h.yes, opn := h.opn, kn := h.kn, kv := h.kv, users := h.users,
          left := by
            intro y t ht hy0 o' ds' hj
            obtain ⟨f1, f2, f3, f3b, f4⟩ := h.left y t ht hy0 o' ds' hj
            exact ⟨f1, f2.trans (cnt_same (fun d _ => hu y d)), f3, f3b, fun d hd hnu => f4 d hd (fun hh => hnu ((hu y d).1 hh))⟩,
          var := h.var, just := h.just, cur := by intro _ _ e; cases e }

/-- The last one that is known begins to tell. -/
theorem Mid18.pop {x : Nat} (h : Mid18 nd n s (K ++ [x]) none) : ∃ th, s.opn x = some th ∧ Mid18 nd n (s.setOpn x none) K (some (x, th.users)) := by
  have hxm : x ∈ K ++ [x] := by simp
  obtain ⟨hxn, hx0⟩ := h.kv x hxm
  obtain ⟨th, hth⟩ := Option.isSome_iff_exists.1 ((h.opn x).2 ⟨hxn, .inr hxm⟩)
  obtain ⟨hun, hul, hus⟩ := h.users x th hth
  obtain ⟨kn1, _, kn2⟩ := List.nodup_append.1 h.kn
  have hxK : x ∉ K := fun hm => kn2 x hm x (by simp) rfl
  refine ⟨th, hth, ?_⟩
  have hop : ∀ y, y ≠ x → (s.setOpn x none).opn y = s.opn y := fun y hy => by rw [opn_setOpn, if_neg hy]
  have hopx : (s.setOpn x none).opn x = none := by rw [opn_setOpn, if_pos rfl]
  have hu : ∀ y, y < n → ∀ o ds, nd y = .join o ds → ∀ d ∈ ds, Unh s none y d ↔ Unh (s.setOpn x none) (some (x, th.users)) y d := by
    intro y hy o ds hj d hd
    unfold Unh
    by_cases e : d = x
    · subst e
      rw [hth, hopx]
      simp only [Option.isSome_some, true_or, true_iff]
      exact .inr ⟨d, th.users, rfl, rfl, (hus y).2 ⟨hy, o, ds, hj, hd⟩⟩
    · rw [hop d e]
      constructor
      · rintro (h1 | ⟨a, l, e', _⟩)
        · exact .inl h1
        · cases e'
      · rintro (h1 | ⟨a, l, e', e2, _⟩)
        · exact .inl h1
        · injection e' with e'; injection e' with e3 e4; exact absurd (e2.trans e3.symm) e
  exact { made := h.made, len := h.len, three := h.three, no := h.no, yes := h.yes,
          opn := by
            intro y
            by_cases e : y = x
            · subst e
              rw [hopx]
              simp only [Option.isSome_none, Bool.false_eq_true, false_iff, not_and, not_or]
              intro _
              exact ⟨hx0, hxK⟩
            · rw [hop y e, h.opn]
              simp [e, val_setOpn],
          kn := kn1, kv := fun y hy => h.kv y (by simp [hy]),
          users := by
            intro y t ht
            by_cases e : y = x
            · subst e; rw [hopx] at ht; cases ht
            · rw [hop y e] at ht; exact h.users y t ht,
          left := by
            intro y t ht hy0 o' ds' hj
            have e : y ≠ x := by intro e; subst e; exact hx0 hy0
            rw [hop y e] at ht
            obtain ⟨f1, f2, f3, f3b, f4⟩ := h.left y t ht hy0 o' ds' hj
            have hyn := h.nm hy0
            exact ⟨f1, f2.trans (cnt_same (fun d hd => hu y hyn o' ds' hj d hd)), f3, f3b, fun d hd hnu => f4 d hd (fun hh => hnu ((hu y hyn o' ds' hj d hd).1 hh))⟩,
          var := by
            intro y t ht hy0 hv
            have e : y ≠ x := by intro e; subst e; exact hx0 hy0
            rw [hop y e] at ht
            exact h.var y t ht hy0 hv,
          just := h.just,
          cur := by
            intro x' l e
            injection e with e; injection e with e1 e2
            subst e1; subst e2
            exact ⟨hxn, hx0, hopx, hun, fun z hz => (hus z).1 hz⟩ }

/-- A variable is set: it alone is known, and has told nobody yet. -/
theorem Mid18.start {x v : Nat} (h : Mid18 nd n s [] none) (hx : nd x = .var) (h0 : s.val x = 0) (hv : v = 1 ∨ v = 2) : Mid18 nd n (s.setVal x v) [x] none ∧ Ext18 s.val (s.setVal x v).val := by
  have hxn := h.nm h0
  have hxl : x < s.vals.length := h.len.symm ▸ hxn
  have hval := val_setVal (v := v) hxl
  have hext : Ext18 s.val (s.setVal x v).val := by
    intro y hy
    rw [hval]
    by_cases e : y = x
    · subst e; exact absurd h0 hy
    · rw [if_neg e]
  have hu : ∀ y d, Unh s none y d ↔ Unh (s.setVal x v) none y d := fun y d => Iff.rfl
  refine ⟨?_, hext⟩
  exact { made := h.made, len := by show (s.vals.set x v).length = n; rw [List.length_set]; exact h.len,
          three := by
            intro a ha
            rcases List.mem_or_eq_of_mem_set ha with ha | ha
            · exact h.three a ha
            · rw [ha]; omega,
          no := by rw [hext 0 (by rw [h.no]; decide), h.no], yes := by rw [hext 1 (by rw [h.yes]; decide), h.yes],
          opn := by
            intro y
            rw [opn_setVal, h.opn, hval]
            by_cases e : y = x
            · subst e; simp [h0]
            · simp [e],
          kn := by simp, kv := by
            intro y hy
            simp at hy
            subst hy
            rw [hval, if_pos rfl]
            exact ⟨hxn, by omega⟩,
          users := h.users,
          left := by
            intro y t ht hy0 o' ds' hj
            rw [hval] at hy0
            have e : y ≠ x := by intro e; subst e; rw [if_pos rfl] at hy0; omega
            rw [if_neg e] at hy0
            obtain ⟨f1, f2, f3, f3b, f4⟩ := h.left y t ht hy0 o' ds' hj
            refine ⟨f1, f2, f3, f3b, fun d hd hnu => ?_⟩
            have := f4 d hd hnu
            rw [hext d (by rw [this]; exact (oth_ne (h.made.one y (h.nm hy0) o' ds' hj)).2.2), this],
          var := by
            intro y t ht hy0 hv'
            rw [hval] at hy0
            have e : y ≠ x := by intro e; subst e; rw [if_pos rfl] at hy0; omega
            rw [if_neg e] at hy0
            exact h.var y t ht hy0 hv',
          just := by
            intro y hyn hy0 o' ds' hj
            have e : y ≠ x := by intro e; subst e; rw [hx] at hj; cases hj
            have hy0' : s.val y ≠ 0 := by rw [hval, if_neg e] at hy0; exact hy0
            have hoo := h.made.one y hyn o' ds' hj
            rcases h.just y hyn hy0' o' ds' hj with ⟨a, d, hd, b⟩ | ⟨a, b⟩
            · refine .inl ⟨?_, d, hd, ?_⟩
              · rw [hext y hy0', a]
              · rw [hext d (by omega), b]
            · refine .inr ⟨?_, fun d hd => ?_⟩
              · rw [hext y hy0', a]
              · rw [hext d (by rw [b d hd]; exact (oth_ne hoo).2.2), b d hd],
          cur := by intro _ _ e; cases e }
end
end Go.Proofs.Ytfkbmecmancgpaa
