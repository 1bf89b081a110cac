/- Sorting numbers and striking what is there twice. -/
import Derived.Test.YtfkbmecmancgpaaAddB18
import Derived.Test.YtfkbmecmancgpaaShelf
import Derived.Lib.OwnBridge
namespace Go.Proofs.Ytfkbmecmancgpaa
open Go.RowKit
set_option linter.unusedVariables false
set_option linter.unusedSimpArgs false

section
variable {d : Array Int}
theorem upto_facts (hs : ∀ i j, i ≤ j → j < d.size → d[i]! ≤ d[j]!) : ∀ m, m ≤ d.size → (Lib.compactUpTo d m).Nodup ∧ (∀ x, x ∈ Lib.compactUpTo d m ↔ ∃ j, j < m ∧ d[j]! = x) ∧ (Lib.compactUpTo d m).length ≤ m
  | 0, _ => by
    have : Lib.compactUpTo d 0 = [] := rfl
    rw [this]
    refine ⟨List.nodup_nil, fun x => ⟨fun h => (by cases h), ?_⟩, Nat.le_refl _⟩
    rintro ⟨j, hj, _⟩
    omega
  | m + 1, hm => by
    obtain ⟨h1, h2, h3⟩ := upto_facts hs m (by omega)
    rw [Lib.compactUpTo_succ]
    by_cases hk : Lib.keeps d m = true
    · rw [if_pos hk]
      have hnew : d[m]! ∉ Lib.compactUpTo d m := by
        intro hm'
        obtain ⟨j, hj, e⟩ := (h2 _).1 hm'
        have hne : d[m]! ≠ d[m - 1]! := by
          intro e2
          rw [Lib.keeps_neg (by omega) e2] at hk
          cases hk
        have a1 := hs j (m - 1) (by omega) (by omega)
        have a2 := hs (m - 1) m (by omega) (by omega)
        omega
      refine ⟨?_, ?_, ?_⟩
      · rw [List.nodup_append]
        refine ⟨h1, by simp, ?_⟩
        intro a ha b hb e
        simp at hb
        subst hb
        subst e
        exact hnew ha
      · intro x
        rw [List.mem_append, h2]
        constructor
        · rintro (⟨j, hj, e⟩ | h)
          · exact ⟨j, by omega, e⟩
          · simp at h
            exact ⟨m, by omega, h.symm⟩
        · rintro ⟨j, hj, e⟩
          by_cases hjm : j < m
          · exact .inl ⟨j, hjm, e⟩
          · have : j = m := by omega
            subst this
            right
            simp [e]
      · rw [List.length_append]
        simp
        omega
    · rw [if_neg hk, List.append_nil]
      refine ⟨h1, ?_, by omega⟩
      intro x
      rw [h2]
      constructor
      · rintro ⟨j, hj, e⟩
        exact ⟨j, by omega, e⟩
      · rintro ⟨j, hj, e⟩
        by_cases hjm : j < m
        · exact ⟨j, hjm, e⟩
        · have : j = m := by omega
          subst this
          have h0 : 0 < j := by
            by_cases h0 : j = 0
            · subst h0
              exact absurd (Lib.keeps_lt_one d 0 (by omega)) hk
            · omega
          have he : d[j]! = d[j - 1]! := by
            by_cases hh : d[j]! = d[j - 1]!
            · exact hh
            · exact absurd (Lib.keeps_pos hh) hk
          exact ⟨j - 1, by omega, by rw [← he]; exact e⟩
end

theorem compact_facts {zs : List Int} (hs : zs.Pairwise (· ≤ ·)) : (Lib.compact zs).Nodup ∧ (∀ x, x ∈ Lib.compact zs ↔ x ∈ zs) ∧ (Lib.compact zs).length ≤ zs.length := by
  have hs' : ∀ i j, i ≤ j → j < zs.toArray.size → zs.toArray[i]! ≤ zs.toArray[j]! := by
    intro i j hij hj
    have hj' : j < zs.length := by simpa using hj
    rw [getElem!_pos _ _ (by simp; omega), getElem!_pos _ _ (by simp; omega)]
    by_cases e : i = j
    · subst e; exact Int.le_refl _
    · have := List.pairwise_iff_getElem.1 hs i j (by omega) hj' (by omega)
      simpa using this
  obtain ⟨h1, h2, h3⟩ := upto_facts hs' zs.length (by simp)
  refine ⟨h1, fun x => ?_, h3⟩
  unfold Lib.compact
  rw [h2]
  constructor
  · rintro ⟨j, hj, e⟩
    rw [getElem!_pos _ _ (by simp; omega)] at e
    rw [← e]
    simp
  · intro hx
    obtain ⟨j, hj, e⟩ := List.getElem_of_mem hx
    refine ⟨j, hj, ?_⟩
    rw [getElem!_pos _ _ (by simp; omega)]
    simpa using e

theorem nums_ints (l : List Nat) : nums l = (l.map fun (v : Nat) => (v : Int)).map (Value.int .i64) := by
  unfold nums
  rw [List.map_map]
  rfl
/-- Numbers that are all of a list of naturals are naturals. -/
theorem nat_list {zs : List Int} {l : List Nat} (h : ∀ x, x ∈ zs → x ∈ l.map fun (v : Nat) => (v : Int)) : ∃ U : List Nat, zs = U.map fun (v : Nat) => (v : Int) := by
  refine ⟨zs.map Int.toNat, ?_⟩
  rw [List.map_map]
  symm
  conv => rhs; rw [← List.map_id zs]
  apply List.map_congr_left
  intro x hx
  obtain ⟨n, _, rfl⟩ := List.mem_map.1 (h x hx)
  simp
theorem mem_nat {U : List Nat} {x : Nat} : (x : Int) ∈ U.map (fun (v : Nat) => (v : Int)) ↔ x ∈ U := by
  constructor
  · intro h
    obtain ⟨n, hn, e⟩ := List.mem_map.1 h
    have : n = x := by omega
    exact this ▸ hn
  · exact fun h => List.mem_map.2 ⟨x, h, rfl⟩

theorem own_grow {w : World} {base : Nat} {e : TypeId} {v : Value} {n : Nat} {xs : List Value} (h : w.ownsRow base e 1 v n xs) (os : Array Obj) : (Sort.grow w os).ownsRow base e 1 v n xs := by
  refine ⟨h.1, ?_⟩
  rcases h.2 with hh | ⟨g, c, cur, rfl, hb, hg, rest⟩
  · exact .inl hh
  · exact .inr ⟨g, c, cur, rfl, hb, (Sort.heap_grow_old w os (Array.getElem?_eq_some_iff.1 hg).1).trans hg, rest⟩
theorem below_grow {B : Nat} {w0 w : World} (h : Below B w0 w) (hB : B ≤ w.heap.size) (os : Array Obj) : Below B w0 (Sort.grow w os) :=
  ⟨h.os, h.tape, h.output, by have := h.size; simp; omega, fun k hk => (Sort.heap_grow_old w os (by omega)).trans (h.block k hk)⟩

theorem sort18 {w : World} {base c : Nat} {A : Option Addr} {l : List Nat} (h : w.ownsRow base 3 1 (.slice A l.length c) l.length (nums l)) (hl : l.length ≤ 1000000) (hB : base ≤ w.heap.size) :
    Calls Try.prog 23 #[.slice A l.length c] w fun e w' => e = .returned (.tuple #[]) ∧ ∃ l' : List Nat, l'.length = l.length ∧ (∀ x, x ∈ l' ↔ x ∈ l) ∧ l'.Pairwise (· ≤ ·) ∧ w'.ownsRow base 3 1 (.slice A l.length c) l.length (nums l') ∧ Below base w w' := by
  by_cases h0 : l.length = 0
  · obtain rfl := List.eq_nil_of_length_eq_zero h0
    refine (Try.slices_Sort_int_none A c w).mono ?_
    rintro e w' ⟨rfl, rfl⟩
    exact ⟨rfl, [], rfl, fun x => Iff.rfl, List.Pairwise.nil, h, Below.refl _ _⟩
  · rw [nums_ints] at h
    obtain ⟨g, rfl, hg, hgl⟩ := row_form h (by omega)
    obtain ⟨g', cap, hv, _, _, hn, hm, _, hH⟩ := Lib.holds_of_ownsRow h (by simp)
    injection hv with hv1 _ hv2
    injection hv1 with hv1
    injection hv1 with hv1
    subst hv1 hv2
    have hs := Try.slices_Sort_int g 0 c (l.map fun (v : Nat) => (v : Int)) w hH hgl (by simp; omega)
    rw [List.length_map] at hs
    refine hs.mono ?_
    rintro e w' ⟨rfl, q, os, rfl⟩
    refine ⟨rfl, ?_⟩
    have hp := List.mergeSort_perm (l.map fun (v : Nat) => (v : Int)) (fun x y => decide (x ≤ y))
    obtain ⟨U, hU⟩ := nat_list (l := l) (fun x hx => hp.subset hx)
    have hsort := List.pairwise_mergeSort (le := fun (x y : Int) => decide (x ≤ y)) (by intro a b c h1 h2; simp at *; omega) (by intro a b; simp; omega) (l.map fun (v : Nat) => (v : Int))
    have hlen := hp.length_eq
    rw [hU] at hp hsort hlen ⊢
    simp at hlen
    refine ⟨U, hlen, fun x => ?_, ?_, ?_, ?_⟩
    · rw [← mem_nat (U := U), ← mem_nat (U := l)]
      exact hp.mem_iff
    · rw [List.pairwise_map] at hsort
      exact hsort.imp (fun h => by simpa using h)
    · have := Lib.ownsRow_putRow (q := q) (k := l.length) h (ys := U.map fun (v : Nat) => (v : Int)) (by simp [hlen]) (Nat.le_refl _)
      rw [List.take_of_length_le (by simp [hlen]), ← nums_ints] at this
      exact own_grow this os
    · exact below_grow (Lib.below_putRow (Below.refl _ _) hg) (by simpa [Sort.putRow, Sort.mapBlock, Sort.ahead] using hB) os

theorem compact18 {w : World} {base c : Nat} {A : Option Addr} {l : List Nat} (h : w.ownsRow base 3 1 (.slice A l.length c) l.length (nums l)) (hl : l.length ≤ 1000000) (hs : l.Pairwise (· ≤ ·)) :
    Calls Try.prog 24 #[.slice A l.length c] w fun e w' => ∃ U : List Nat, e = .returned (.slice A U.length c) ∧ U.length ≤ l.length ∧ U.Nodup ∧ (∀ x, x ∈ U ↔ x ∈ l) ∧ w'.ownsRow base 3 1 (.slice A U.length c) U.length (nums U) ∧ Below base w w' := by
  by_cases h0 : l.length = 0
  · obtain rfl := List.eq_nil_of_length_eq_zero h0
    refine (Try.slices_Compact_int_empty A c w).mono ?_
    rintro e w' ⟨rfl, rfl⟩
    exact ⟨[], rfl, Nat.le_refl _, List.nodup_nil, fun x => Iff.rfl, h, Below.refl _ _⟩
  · rw [nums_ints] at h
    obtain ⟨g, rfl, hg, hgl⟩ := row_form h (by omega)
    obtain ⟨g', cap, hv, _, _, hn, hm, _, hH⟩ := Lib.holds_of_ownsRow h (by simp)
    injection hv with hv1 _ hv2
    injection hv1 with hv1
    injection hv1 with hv1
    subst hv1 hv2
    have hc := Try.slices_Compact_int g 0 c (l.map fun (v : Nat) => (v : Int)) w hH (by simp; omega) (by simpa using hn)
    rw [List.length_map] at hc
    refine hc.mono ?_
    rintro e w' ⟨rfl, q, rfl⟩
    have hsI : (l.map fun (v : Nat) => (v : Int)).Pairwise (· ≤ ·) := by
      rw [List.pairwise_map]
      exact hs.imp (fun h => by omega)
    obtain ⟨f1, f2, f3⟩ := compact_facts hsI
    rw [List.length_map] at f3
    obtain ⟨U, hU⟩ := nat_list (l := l) (fun x hx => (f2 x).1 hx)
    rw [hU] at f1 f2 f3 ⊢
    rw [List.length_map] at f3 ⊢
    refine ⟨U, rfl, f3, ?_, fun x => ?_, ?_, Lib.below_putRow (Below.refl _ _) hg⟩
    · rw [List.nodup_iff_pairwise_ne, List.pairwise_map] at f1
      rw [List.nodup_iff_pairwise_ne]
      exact f1.imp (fun h e => h (by rw [e]))
    · rw [← mem_nat (U := U), ← mem_nat (U := l)]
      exact f2 x
    · have := Lib.ownsRow_putRow (q := q) (k := U.length) h (ys := U.map (fun (v : Nat) => (v : Int)) ++ List.replicate (l.length - U.length) 0) (by simp; omega) f3
      rw [List.take_left' (by simp), ← nums_ints] at this
      exact this
theorem compact18n {w : World} {base n c : Nat} {A : Option Addr} {l : List Nat} (hn : l.length = n) (h : w.ownsRow base 3 1 (.slice A n c) n (nums l)) (hl : n ≤ 1000000) (hs : l.Pairwise (· ≤ ·)) :
    Calls Try.prog 24 #[.slice A n c] w fun e w' => ∃ U : List Nat, e = .returned (.slice A U.length c) ∧ U.length ≤ n ∧ U.Nodup ∧ (∀ x, x ∈ U ↔ x ∈ l) ∧ w'.ownsRow base 3 1 (.slice A U.length c) U.length (nums U) ∧ Below base w w' := by
  subst hn
  exact compact18 h hl hs
end Go.Proofs.Ytfkbmecmancgpaa
