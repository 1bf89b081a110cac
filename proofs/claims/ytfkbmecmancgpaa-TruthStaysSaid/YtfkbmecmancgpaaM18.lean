/- A book of things that may be true or not, as plain mathematics: what hangs on what, and what is known. -/
import Derived.Test.YtfkbmecmancgpaaFoot
namespace Go.Proofs.Ytfkbmecmancgpaa
set_option linter.unusedVariables false

/-- What a thing is: of one value at all times, a variable, or one that takes the value `one` as soon as one of some has it. -/
inductive Nd18 where
  | fix | var
  | join (one : Nat) (ds : List Nat)

/-- What is kept of a thing that is open. -/
structure Th18 where
  left : Nat
  one : Nat
  users : List Nat

structure St18 where
  vals : List Nat
  opn : Nat → Option Th18

def St18.val (s : St18) (x : Nat) : Nat := s.vals.getD x 2

/-- True and False, each the other one. -/
def oth (one : Nat) : Nat := if one = 1 then 2 else 1

/-- The thing that has a value at all times. -/
def fxD (v : Nat) : Nat := if v = 1 then 1 else 0
theorem oth_ne {one : Nat} (h : one = 1 ∨ one = 2) : oth one ≠ one ∧ (oth one = 1 ∨ oth one = 2) ∧ oth one ≠ 0 := by
  rcases h with rfl | rfl <;> simp [oth]
theorem oth_of {one v : Nat} (h : one = 1 ∨ one = 2) (hv : v = 1 ∨ v = 2) (hn : v ≠ one) : v = oth one := by
  rcases h with rfl | rfl <;> rcases hv with rfl | rfl <;> simp [oth] at *

/-- Three values together: one as soon as one is, the other as soon as all are that. -/
def kj (one : Nat) (l : List Nat) : Nat := if one ∈ l then one else if l.all (fun v => v == oth one) then oth one else 0

theorem kj_one {one : Nat} {l : List Nat} (h : one ∈ l) : kj one l = one := by simp [kj, h]
theorem kj_oth {one : Nat} {l : List Nat} (h1 : one = 1 ∨ one = 2) (h : ∀ v ∈ l, v = oth one) : kj one l = oth one := by
  have hn : one ∉ l := fun hm => (oth_ne h1).1 (h one hm).symm
  simp only [kj, hn, if_false]
  rw [if_pos]
  simpa using h
theorem kj_zero {one : Nat} {l : List Nat} (h1 : one = 1 ∨ one = 2) (hn : one ∉ l) (h : 0 ∈ l) : kj one l = 0 := by
  simp only [kj, hn, if_false]
  rw [if_neg]
  intro hh
  have := List.all_eq_true.1 hh 0 h
  simp at this
  exact (oth_ne h1).2.2 this.symm

/-- It asks of a list just which values are in it. -/
theorem kj_same {one : Nat} {l l' : List Nat} (h : ∀ v, v ∈ l ↔ v ∈ l') : kj one l = kj one l' := by
  have h1 : (one ∈ l) = (one ∈ l') := propext (h one)
  have h2 : (l.all (fun v => v == oth one)) = (l'.all (fun v => v == oth one)) := by
    rw [Bool.eq_iff_iff, List.all_eq_true, List.all_eq_true]
    exact ⟨fun hh v hv => hh v ((h v).2 hv), fun hh v hv => hh v ((h v).1 hv)⟩
  simp only [kj, h1, h2]

/-- What is the other value may be left out. -/
theorem kj_drop {one : Nat} {l l' : List Nat} (h1 : one = 1 ∨ one = 2) (ha : ∀ v, v ∈ l' → v ∈ l) (hb : ∀ v, v ∈ l → v = oth one ∨ v ∈ l') : kj one l = kj one l' := by
  have e1 : (one ∈ l) = (one ∈ l') := propext ⟨fun hm => by
    rcases hb one hm with h | h
    · exact absurd h.symm (oth_ne h1).1
    · exact h, ha one⟩
  have e2 : (l.all (fun v => v == oth one)) = (l'.all (fun v => v == oth one)) := by
    rw [Bool.eq_iff_iff, List.all_eq_true, List.all_eq_true]
    refine ⟨fun hh v hv => hh v (ha v hv), fun hh v hv => ?_⟩
    rcases hb v hv with h | h
    · simpa using h
    · exact hh v h
  simp only [kj, e1, e2]

/-- The values keep to what hangs on what. -/
def Fix18 (nd : Nat → Nd18) (n : Nat) (f : Nat → Nat) : Prop := ∀ x, x < n → ∀ one ds, nd x = .join one ds → f x = kj one (ds.map f)
/-- What was known stays. -/
def Ext18 (f g : Nat → Nat) : Prop := ∀ x, f x ≠ 0 → g x = f x

theorem Ext18.refl (f : Nat → Nat) : Ext18 f f := fun _ _ => rfl
theorem Ext18.trans {f g h : Nat → Nat} (a : Ext18 f g) (b : Ext18 g h) : Ext18 f h := fun x hx => by
  have := a x hx
  rw [b x (by omega), this]

/-- How things are made: each hangs on elder ones, each once. -/
structure Made18 (nd : Nat → Nd18) (n : Nat) : Prop where
  two : 2 ≤ n
  no : nd 0 = .fix
  yes : nd 1 = .fix
  fix : ∀ x, x < n → nd x = .fix → x < 2
  one : ∀ x, x < n → ∀ o ds, nd x = .join o ds → o = 1 ∨ o = 2
  elder : ∀ x, x < n → ∀ o ds, nd x = .join o ds → ∀ d ∈ ds, d < x
  once : ∀ x, x < n → ∀ o ds, nd x = .join o ds → ds.Nodup
  some : ∀ x, x < n → ∀ o ds, nd x = .join o ds → ds ≠ []

/-- Which of a thing's own haven't told it yet: they are open, or it is still to come among the one's users that are told now. -/
def Unh (s : St18) (cur : Option (Nat × List Nat)) (y d : Nat) : Prop := (s.opn d).isSome = true ∨ ∃ x l, cur = some (x, l) ∧ d = x ∧ y ∈ l

open Classical in
noncomputable def cntU (s : St18) (cur : Option (Nat × List Nat)) (y : Nat) (ds : List Nat) : Nat := ds.countP (fun d => decide (Unh s cur y d))

/-- A book while some things that are known (K) have not told it yet; cur: the one that tells it now, and whom it still has to tell. -/
structure Mid18 (nd : Nat → Nd18) (n : Nat) (s : St18) (K : List Nat) (cur : Option (Nat × List Nat)) : Prop where
  made : Made18 nd n
  len : s.vals.length = n
  three : ∀ v ∈ s.vals, v = 0 ∨ v = 1 ∨ v = 2
  no : s.val 0 = 2
  yes : s.val 1 = 1
  opn : ∀ y, (s.opn y).isSome = true ↔ y < n ∧ (s.val y = 0 ∨ y ∈ K)
  kn : K.Nodup
  kv : ∀ y ∈ K, y < n ∧ s.val y ≠ 0
  users : ∀ y th, s.opn y = some th → th.users.Nodup ∧ th.users.length ≤ n ∧ ∀ z, z ∈ th.users ↔ z < n ∧ ∃ o ds, nd z = .join o ds ∧ y ∈ ds
  left : ∀ y th, s.opn y = some th → s.val y = 0 → ∀ o ds, nd y = .join o ds → th.one = o ∧ th.left = cntU s cur y ds ∧ 0 < th.left ∧ th.left ≤ n ∧ ∀ d ∈ ds, ¬ Unh s cur y d → s.val d = oth o
  var : ∀ y th, s.opn y = some th → s.val y = 0 → nd y = .var → th.left = 0
  just : ∀ y, y < n → s.val y ≠ 0 → ∀ o ds, nd y = .join o ds → (s.val y = o ∧ ∃ d ∈ ds, s.val d = o) ∨ (s.val y = oth o ∧ ∀ d ∈ ds, s.val d = oth o)
  cur : ∀ x l, cur = some (x, l) → x < n ∧ s.val x ≠ 0 ∧ s.opn x = none ∧ l.Nodup ∧ ∀ z ∈ l, z < n ∧ ∃ o ds, nd z = .join o ds ∧ x ∈ ds

theorem St18.val_lt {s : St18} {x : Nat} (h : s.val x = 0) : x < s.vals.length := by
  by_cases hx : x < s.vals.length
  · exact hx
  · unfold St18.val at h
    rw [List.getD_eq_getElem?_getD, List.getElem?_eq_none (by omega)] at h
    simp at h

theorem Mid18.v3 {nd : Nat → Nd18} {n : Nat} {s : St18} {K : List Nat} {cur : Option (Nat × List Nat)} (h : Mid18 nd n s K cur) (x : Nat) : s.val x = 0 ∨ s.val x = 1 ∨ s.val x = 2 := by
  unfold St18.val
  rw [List.getD_eq_getElem?_getD]
  cases hx : s.vals[x]? with
  | none => simp
  | some v => exact h.three v (List.mem_of_getElem? hx)

/-- Nobody left to tell: the values keep to what hangs on what. -/
theorem Mid18.fixed {nd : Nat → Nd18} {n : Nat} {s : St18} (h : Mid18 nd n s [] none) : Fix18 nd n s.val := by
  intro x hx o ds hn
  have ho := h.made.one x hx o ds hn
  by_cases h0 : s.val x = 0
  · rw [h0]
    have hs : (s.opn x).isSome = true := (h.opn x).2 ⟨hx, .inl h0⟩
    obtain ⟨th, hth⟩ := Option.isSome_iff_exists.1 hs
    obtain ⟨e1, e2, e3, _, e4⟩ := h.left x th hth h0 o ds hn
    have hu : ∀ d, Unh s none x d ↔ d < n ∧ s.val d = 0 := by
      intro d
      unfold Unh
      rw [h.opn d]
      simp
    symm
    refine kj_zero ho ?_ ?_
    · intro hm
      obtain ⟨d, hd, e⟩ := List.mem_map.1 hm
      have hdn : d < n := by have := h.made.elder x hx o ds hn d hd; omega
      by_cases hz : s.val d = 0
      · omega
      · have := e4 d hd (fun hu' => hz ((hu d).1 hu').2)
        exact (oth_ne ho).1 (this.symm.trans e)
    · unfold cntU at e2
      have : 0 < ds.countP (fun d => @decide (Unh s none x d) (Classical.propDecidable _)) := by omega
      obtain ⟨d, hd, hp⟩ := List.countP_pos_iff.1 this
      have := ((hu d).1 (by simpa using hp)).2
      exact List.mem_map.2 ⟨d, hd, this⟩
  · rcases h.just x hx h0 o ds hn with ⟨e, d, hd, hv⟩ | ⟨e, hall⟩
    · rw [e, kj_one (List.mem_map.2 ⟨d, hd, hv⟩)]
    · rw [e, kj_oth ho]
      intro v hv
      obtain ⟨d, hd, rfl⟩ := List.mem_map.1 hv
      exact hall d hd

def St18.setVal (s : St18) (x v : Nat) : St18 := { s with vals := s.vals.set x v }
def St18.setOpn (s : St18) (x : Nat) (t : Option Th18) : St18 := { s with opn := fun y => if y = x then t else s.opn y }

theorem val_setVal {s : St18} {x v : Nat} (hx : x < s.vals.length) (y : Nat) : (s.setVal x v).val y = if y = x then v else s.val y := by
  unfold St18.val St18.setVal
  rw [List.getD_eq_getElem?_getD, List.getElem?_set]
  by_cases h : x = y
  · subst h
    simp [hx]
  · rw [if_neg h, if_neg (fun e => h e.symm), List.getD_eq_getElem?_getD]
theorem val_setOpn (s : St18) (x : Nat) (t : Option Th18) (y : Nat) : (s.setOpn x t).val y = s.val y := rfl
theorem opn_setVal (s : St18) (x v : Nat) : (s.setVal x v).opn = s.opn := rfl
theorem opn_setOpn (s : St18) (x : Nat) (t : Option Th18) (y : Nat) : (s.setOpn x t).opn y = if y = x then t else s.opn y := rfl

/-- What hear does: its answer, and the book behind it. -/
def hearS (s : St18) (u v : Nat) : Bool × St18 :=
  if s.val u ≠ 0 then (false, s) else
  match s.opn u with
  | none => (false, s)
  | some th =>
    let s1 := s.setOpn u (some { th with left := th.left - 1 })
    if v ≠ th.one ∧ 0 < th.left - 1 then (false, s1) else (true, s1.setVal u v)

theorem cnt_same {s s' : St18} {cur cur' : Option (Nat × List Nat)} {y : Nat} {ds : List Nat} (h : ∀ d ∈ ds, Unh s cur y d ↔ Unh s' cur' y d) : cntU s cur y ds = cntU s' cur' y ds := by
  unfold cntU
  apply List.countP_congr
  intro d hd
  simp only [decide_eq_true_eq]
  exact h d hd

/-- One fewer, where one alone has told it. -/
theorem cnt_less {s s' : St18} {cur cur' : Option (Nat × List Nat)} {y x : Nat} : ∀ {ds : List Nat}, ds.Nodup → x ∈ ds → Unh s cur y x → ¬ Unh s' cur' y x → (∀ d ∈ ds, d ≠ x → (Unh s cur y d ↔ Unh s' cur' y d)) → cntU s cur y ds = cntU s' cur' y ds + 1
  | [], _, hx, _, _, _ => by cases hx
  | d :: ds, hn, hx, hu, hu', h => by
    obtain ⟨hd, hn'⟩ := List.nodup_cons.1 hn
    unfold cntU
    simp only [List.countP_cons]
    by_cases e : d = x
    · subst e
      have h1 : cntU s cur y ds = cntU s' cur' y ds := cnt_same (fun k hk => h k (by simp [hk]) (fun e => hd (e ▸ hk)))
      unfold cntU at h1
      rw [h1]
      simp [hu, hu']
    · have hx' : x ∈ ds := by
        rcases List.mem_cons.1 hx with h | h
        · exact absurd h.symm e
        · exact h
      have ih := cnt_less hn' hx' hu hu' (fun k hk => h k (by simp [hk]))
      unfold cntU at ih
      rw [ih]
      have := h d (by simp) e
      by_cases hh : Unh s cur y d
      · have h2 := this.1 hh
        simp [hh, h2]
      · have h2 : ¬ Unh s' cur' y d := fun hc => hh (this.2 hc)
        simp [hh, h2]
end Go.Proofs.Ytfkbmecmancgpaa
