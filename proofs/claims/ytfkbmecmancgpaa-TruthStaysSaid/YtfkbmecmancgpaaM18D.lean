/- A book: what a thing stands for that hangs on some. -/
import Derived.Test.YtfkbmecmancgpaaM18C
namespace Go.Proofs.Ytfkbmecmancgpaa
set_option linter.unusedVariables false

/-- The values of some numbers, under any values of the n things that there are. -/
def valF (f : Nat → Nat) (n : Nat) (z : Int) : Nat := if 0 ≤ z ∧ z < n then f z.toNat else 2
/-- The things of a list that are open. -/
def unk (s : St18) (zs : List Int) : List Nat := (zs.filter fun z => decide (s.valI z = 0)).map Int.toNat
theorem unk_snoc (s : St18) (zs : List Int) (z : Int) : unk s (zs ++ [z]) = unk s zs ++ if s.valI z = 0 then [z.toNat] else [] := by
  unfold unk
  rw [List.filter_append, List.map_append]
  by_cases h : s.valI z = 0 <;> simp [h]
theorem unk_len (s : St18) (zs : List Int) : (unk s zs).length ≤ zs.length := by
  unfold unk
  rw [List.length_map]
  exact List.length_filter_le _ _
theorem unk_mem {s : St18} {zs : List Int} {x : Nat} : x ∈ unk s zs ↔ ∃ z ∈ zs, s.valI z = 0 ∧ z.toNat = x := by
  unfold unk
  simp [and_assoc]
theorem valI_in {s : St18} {z : Int} (h : s.valI z = 0) : 0 ≤ z ∧ z < s.vals.length ∧ s.val z.toNat = 0 := by
  unfold St18.valI at h
  split at h
  · rename_i h0
    have := St18.val_lt h
    exact ⟨h0, by omega, h⟩
  · cases h

/-- What And and Or answer: a thing that has the values asked for, whatever becomes known. -/
structure Jn18 (nd : Nat → Nd18) (n : Nat) (s : St18) (nd' : Nat → Nd18) (n' : Nat) (s' : St18) (one : Nat) (zs : List Int) (r : Nat) : Prop where
  le : n ≤ n' ∧ n' ≤ n + 1
  lt : r < n'
  nds : ∀ y, y < n → nd' y = nd y
  val : ∀ y, y < n → s'.val y = s.val y
  novar : ∀ y, n ≤ y → y < n' → nd' y ≠ .var
  mean : ∀ f : Nat → Nat, (∀ y, f y ≤ 2) → (∀ y, y < n' → s'.val y ≠ 0 → f y = s'.val y) → Fix18 nd' n' f → f r = kj one (zs.map (valF f n))

section
variable {nd : Nat → Nd18} {n : Nat} {s : St18} {one : Nat} {zs : List Int}

theorem fix_of (hm : Mid18 nd n s [] none) {v : Nat} (hv : v = 1 ∨ v = 2) : (fxD v) < n ∧ s.val (fxD v) = v := by
  have := hm.made.two
  rcases hv with rfl | rfl
  · exact ⟨by simp [fxD]; omega, hm.yes⟩
  · exact ⟨by simp [fxD]; omega, hm.no⟩

theorem jn_early (hm : Mid18 nd n s [] none) (h1 : one = 1 ∨ one = 2) {z : Int} (hz : z ∈ zs) (hv : s.valI z = one) : Jn18 nd n s nd n s one zs (fxD one) := by
  obtain ⟨hr, hrv⟩ := fix_of hm h1
  refine ⟨⟨Nat.le_refl _, by omega⟩, hr, fun _ _ => rfl, fun _ _ => rfl, fun y a b => by omega, fun f _ hf _ => ?_⟩
  rw [hf _ hr (by rw [hrv]; omega), hrv]
  symm
  apply kj_one
  refine List.mem_map.2 ⟨z, hz, ?_⟩
  unfold valF
  unfold St18.valI at hv
  by_cases hi : 0 ≤ z ∧ z < n
  · rw [if_pos hi]
    rw [if_pos hi.1] at hv
    rw [hf _ (by omega) (by omega), hv]
  · rw [if_neg hi]
    by_cases h0 : 0 ≤ z
    · have := valI_out s z (.inr (by rw [hm.len]; omega))
      unfold St18.valI at this
      rw [this] at hv
      exact hv
    · rw [if_neg h0] at hv
      exact hv

/-- Known ones may be left out. -/
theorem kj_unk {nd' : Nat → Nd18} {n' : Nat} {s' : St18} (hm : Mid18 nd n s [] none) (h1 : one = 1 ∨ one = 2) (hne : ∀ z ∈ zs, s.valI z ≠ one) {U : List Nat} (hU : ∀ x, x ∈ U ↔ x ∈ unk s zs) (hn : n ≤ n') (hval : ∀ y, y < n → s'.val y = s.val y)
    (f : Nat → Nat) (hf : ∀ y, y < n' → s'.val y ≠ 0 → f y = s'.val y) : kj one (zs.map (valF f n)) = kj one (U.map f) := by
  have hl := hm.len
  refine kj_drop h1 ?_ ?_
  · intro v hv
    obtain ⟨x, hx, rfl⟩ := List.mem_map.1 hv
    obtain ⟨z, hz, hz0, rfl⟩ := unk_mem.1 ((hU x).1 hx)
    obtain ⟨a, b, _⟩ := valI_in hz0
    refine List.mem_map.2 ⟨z, hz, ?_⟩
    unfold valF
    rw [if_pos ⟨a, by omega⟩]
  · intro v hv
    obtain ⟨z, hz, rfl⟩ := List.mem_map.1 hv
    by_cases hz0 : s.valI z = 0
    · right
      obtain ⟨a, b, _⟩ := valI_in hz0
      refine List.mem_map.2 ⟨z.toNat, (hU _).2 (unk_mem.2 ⟨z, hz, hz0, rfl⟩), ?_⟩
      unfold valF
      rw [if_pos ⟨a, by omega⟩]
    · left
      have h3 : s.valI z = 1 ∨ s.valI z = 2 := by
        have : s.valI z = 0 ∨ s.valI z = 1 ∨ s.valI z = 2 := by
          unfold St18.valI
          split
          · exact hm.v3 _
          · exact .inr (.inr rfl)
        omega
      have he := oth_of h1 h3 (hne z hz)
      unfold valF
      by_cases hi : 0 ≤ z ∧ z < n
      · rw [if_pos hi]
        have e2 : s.valI z = s.val z.toNat := by unfold St18.valI; rw [if_pos hi.1]
        have e3 := hval z.toNat (by omega)
        rw [hf _ (by omega) (by omega), e3, ← e2, he]
      · rw [if_neg hi]
        have : s.valI z = 2 := valI_out s z (by rw [hl]; omega)
        omega

theorem jn_none (hm : Mid18 nd n s [] none) (h1 : one = 1 ∨ one = 2) (hne : ∀ z ∈ zs, s.valI z ≠ one) (hU : ∀ x, x ∈ ([] : List Nat) ↔ x ∈ unk s zs) : Jn18 nd n s nd n s one zs (fxD (oth one)) := by
  obtain ⟨hr, hrv⟩ := fix_of hm (oth_ne h1).2.1
  refine ⟨⟨Nat.le_refl _, by omega⟩, hr, fun _ _ => rfl, fun _ _ => rfl, fun y a b => by omega, fun f _ hf hx => ?_⟩
  rw [hf _ hr (by rw [hrv]; exact (oth_ne h1).2.2), hrv, kj_unk (nd' := nd) hm h1 hne hU (Nat.le_refl _) (fun _ _ => rfl) f hf]
  exact (kj_oth h1 (fun v hv => by cases hv)).symm

theorem kj_single {v : Nat} (h1 : one = 1 ∨ one = 2) (hv : v = 0 ∨ v = 1 ∨ v = 2) : kj one [v] = v := by
  unfold kj oth
  rcases h1 with rfl | rfl <;> rcases hv with rfl | rfl | rfl <;> decide

theorem jn_one (hm : Mid18 nd n s [] none) (h1 : one = 1 ∨ one = 2) (hne : ∀ z ∈ zs, s.valI z ≠ one) {x : Nat} (hU : ∀ y, y ∈ [x] ↔ y ∈ unk s zs) : Jn18 nd n s nd n s one zs x := by
  have hx0 : s.val x = 0 := by
    obtain ⟨z, _, hz, rfl⟩ := unk_mem.1 ((hU x).1 (by simp))
    exact (valI_in hz).2.2
  refine ⟨⟨Nat.le_refl _, by omega⟩, hm.nm hx0, fun _ _ => rfl, fun _ _ => rfl, fun y a b => by omega, fun f h3 hf hfx => ?_⟩
  rw [kj_unk (nd' := nd) hm h1 hne hU (Nat.le_refl _) (fun _ _ => rfl) f hf]
  exact (kj_single h1 (by have := h3 x; omega)).symm

theorem jn_many (hm : Mid18 nd n s [] none) (h1 : one = 1 ∨ one = 2) (hne : ∀ z ∈ zs, s.valI z ≠ one) {U : List Nat} (hU : ∀ x, x ∈ U ↔ x ∈ unk s zs) (hn : U.Nodup) (hU0 : U ≠ []) :
    Mid18 (ndA nd n (.join one U)) (n + 1) (joinK s one U U.length) [] none ∧ Jn18 nd n s (ndA nd n (.join one U)) (n + 1) (joinK s one U U.length) one zs n := by
  have hl := hm.len
  have h0 : ∀ d ∈ U, s.val d = 0 := fun d hd => by
    obtain ⟨z, _, hz, rfl⟩ := unk_mem.1 ((hU d).1 hd)
    exact (valI_in hz).2.2
  have hg := grow_join s one hn (fun hh => by have := hm.nm (h0 _ hh); omega)
  have hm' := hm.grow hg rfl hn h0 (.inr ⟨one, h1, rfl, hU0, rfl, rfl⟩)
  have hval : ∀ y, y < n → (joinK s one U U.length).val y = s.val y := fun y hy => by rw [hg.val, if_neg (by omega)]
  refine ⟨hm', ⟨by omega, Nat.le_refl _⟩, by omega, fun y hy => by unfold ndA; rw [if_neg (by omega)], hval, fun y a b => ?_, fun f _ hf hx => ?_⟩
  · have : y = n := by omega
    subst this
    unfold ndA
    simp
  · rw [kj_unk (nd' := ndA nd n (.join one U)) hm h1 hne hU (Nat.le_succ n) hval f hf]
    exact hx n (by omega) one U (by unfold ndA; rw [if_pos rfl])
end
end Go.Proofs.Ytfkbmecmancgpaa
