/- The walk of literal by what was stepped through, and Kind. -/
import Derived.Test.YtoahnbjpmbhpfaaDoorLit
import Derived.Laws.Strings
namespace Go.Proofs.YtoahnbjpmbhpfaaDoor
open Go.RowKit

def lT : List UInt8 := [116, 114, 117, 101]
def lF : List UInt8 := [102, 97, 108, 115, 101]
def lN : List UInt8 := [110, 117, 108, 108]
/-- What a text is for one word: it (1), the beginning of it (0), or neither (2). -/
def hit (lw l : List UInt8) : Int := if l = lw then 1 else if l.length < lw.length ∧ lw.take l.length = l then 0 else 2
/-- What a text is: a word (1), the beginning of one (0), or neither (2). -/
def refL (l : List UInt8) : Int := if hit lT l = 2 then (if hit lF l = 2 then hit lN l else hit lF l) else hit lT l

theorem ba_ext {a b : ByteArray} (h : a.data.toList = b.data.toList) : a = b := by
  cases a with | mk x => cases b with | mk y => exact congrArg ByteArray.mk (Array.toList_inj.1 h)
theorem str_ne {a b : ByteArray} (h : a ≠ b) : (a.toList == b.toList) = false := beq_eq_false_iff_ne.2 fun e => h (ba_ext (by rw [← ByteArray.toList_eq, ← ByteArray.toList_eq, e]))
theorem head_list (s : ByteArray) (k : Nat) : (s.extract 0 k).data.toList = s.data.toList.take k := by
  rw [ByteArray.data_extract, Array.toList_extract, List.extract_eq_take_drop]
  simp
theorem cat_list (s t : ByteArray) : (s ++ t).data.toList = s.data.toList ++ t.data.toList := by simp

theorem hit_one {lw l : List UInt8} (h : hit lw l = 1) : l = lw := by
  unfold hit at h
  split at h
  · assumption
  · split at h <;> cases h
theorem ref_one {l : List UInt8} (h : refL l = 1) : l = lT ∨ l = lF ∨ l = lN := by
  unfold refL at h
  split at h
  · split at h
    · exact .inr (.inr (hit_one h))
    · exact .inr (.inl (hit_one h))
  · exact .inl (hit_one h)

/-- Where one is in a word. -/
def StL (t : ByteArray) (k : Nat) : Prop := (k = 0 ∧ t = ⟨#[]⟩) ∨ ((t = wT ∨ t = wF ∨ t = wN) ∧ 1 ≤ k ∧ k ≤ t.size)

theorem ref_first (c : UInt8) : refL [c] = if c = 116 ∨ c = 102 ∨ c = 110 then 0 else 2 := by
  unfold refL hit lT lF lN
  by_cases h1 : c = 116
  · subst h1; decide
  by_cases h2 : c = 102
  · subst h2; decide
  by_cases h3 : c = 110
  · subst h3; decide
  simp [h1, h2, h3, Ne.symm h1, Ne.symm h2, Ne.symm h3]

theorem refT1 (c : UInt8) : refL [116, c] = if 114 = c then 0 else 2 := by
  by_cases hc : 114 = c
  · subst hc; decide
  · rw [if_neg hc]
    simp [refL, hit, lT, lF, lN, hc, Ne.symm hc]

theorem refT2 (c : UInt8) : refL [116, 114, c] = if 117 = c then 0 else 2 := by
  by_cases hc : 117 = c
  · subst hc; decide
  · rw [if_neg hc]
    simp [refL, hit, lT, lF, lN, hc, Ne.symm hc]

theorem refT3 (c : UInt8) : refL [116, 114, 117, c] = if 101 = c then 1 else 2 := by
  by_cases hc : 101 = c
  · subst hc; decide
  · rw [if_neg hc]
    simp [refL, hit, lT, lF, lN, hc, Ne.symm hc]

theorem refT4 (c : UInt8) : refL [116, 114, 117, 101, c] = 2 := by
  simp [refL, hit, lT, lF, lN]

theorem refF1 (c : UInt8) : refL [102, c] = if 97 = c then 0 else 2 := by
  by_cases hc : 97 = c
  · subst hc; decide
  · rw [if_neg hc]
    simp [refL, hit, lT, lF, lN, hc, Ne.symm hc]

theorem refF2 (c : UInt8) : refL [102, 97, c] = if 108 = c then 0 else 2 := by
  by_cases hc : 108 = c
  · subst hc; decide
  · rw [if_neg hc]
    simp [refL, hit, lT, lF, lN, hc, Ne.symm hc]

theorem refF3 (c : UInt8) : refL [102, 97, 108, c] = if 115 = c then 0 else 2 := by
  by_cases hc : 115 = c
  · subst hc; decide
  · rw [if_neg hc]
    simp [refL, hit, lT, lF, lN, hc, Ne.symm hc]

theorem refF4 (c : UInt8) : refL [102, 97, 108, 115, c] = if 101 = c then 1 else 2 := by
  by_cases hc : 101 = c
  · subst hc; decide
  · rw [if_neg hc]
    simp [refL, hit, lT, lF, lN, hc, Ne.symm hc]

theorem refF5 (c : UInt8) : refL [102, 97, 108, 115, 101, c] = 2 := by
  simp [refL, hit, lT, lF, lN]

theorem refN1 (c : UInt8) : refL [110, c] = if 117 = c then 0 else 2 := by
  by_cases hc : 117 = c
  · subst hc; decide
  · rw [if_neg hc]
    simp [refL, hit, lT, lF, lN, hc, Ne.symm hc]

theorem refN2 (c : UInt8) : refL [110, 117, c] = if 108 = c then 0 else 2 := by
  by_cases hc : 108 = c
  · subst hc; decide
  · rw [if_neg hc]
    simp [refL, hit, lT, lF, lN, hc, Ne.symm hc]

theorem refN3 (c : UInt8) : refL [110, 117, 108, c] = if 108 = c then 1 else 2 := by
  by_cases hc : 108 = c
  · subst hc; decide
  · rw [if_neg hc]
    simp [refL, hit, lT, lF, lN, hc, Ne.symm hc]

theorem refN4 (c : UInt8) : refL [110, 117, 108, 108, c] = 2 := by
  simp [refL, hit, lT, lF, lN]

/-- Within a word, and behind it. -/
theorem ref_in (t : ByteArray) (ht : t = wT ∨ t = wF ∨ t = wN) (k : Nat) (h1 : 1 ≤ k) (h2 : k ≤ t.size) (c : UInt8) :
    refL (t.data.toList.take k ++ [c]) = if h : k < t.size then (if t[k] = c then (if k + 1 = t.size then 1 else 0) else 2) else 2 := by
  rcases ht with rfl | rfl | rfl
  · rw [zT] at h2
    have hk : k = 1 ∨ k = 2 ∨ k = 3 ∨ k = 4 := by omega
    rcases hk with rfl | rfl | rfl | rfl
    · exact refT1 c
    · exact refT2 c
    · exact refT3 c
    · exact refT4 c
  · rw [zF] at h2
    have hk : k = 1 ∨ k = 2 ∨ k = 3 ∨ k = 4 ∨ k = 5 := by omega
    rcases hk with rfl | rfl | rfl | rfl | rfl
    · exact refF1 c
    · exact refF2 c
    · exact refF3 c
    · exact refF4 c
    · exact refF5 c
  · rw [zN] at h2
    have hk : k = 1 ∨ k = 2 ∨ k = 3 ∨ k = 4 := by omega
    rcases hk with rfl | rfl | rfl | rfl
    · exact refN1 c
    · exact refN2 c
    · exact refN3 c
    · exact refN4 c

/-- A walk that has stepped through P. -/
def WalkAt (w : World) (b : Nat) (P : ByteArray) : Prop := ∃ (t : ByteArray) (k : Nat), StL t k ∧ P = t.extract 0 k ∧ Own w b 47 #[.string t, .int .i64 k]

theorem WalkAt.stay {w w' : World} {b B : Nat} {P : ByteArray} (h : WalkAt w b P) (hb : Below B w w') (hB : b < B) : WalkAt w' b P := by
  obtain ⟨t, k, h1, h2, h3⟩ := h
  exact ⟨t, k, h1, h2, h3.stay hb hB⟩
theorem WalkAt.inside {w : World} {b : Nat} {P : ByteArray} (h : WalkAt w b P) : b < w.heap.size := by
  obtain ⟨t, k, h1, h2, h3⟩ := h
  exact h3.inside
theorem WalkAt.drewN {w : World} {b : Nat} {P : ByteArray} (h : WalkAt w b P) (q : Nat) : WalkAt (w.drewN q) b P := h
theorem WalkAt.fresh (w : World) : WalkAt (w.alloc (.cells #[.string ⟨#[]⟩, .int .i64 0] 47)) w.heap.size ⟨#[]⟩ := ⟨⟨#[]⟩, 0, .inl ⟨rfl, rfl⟩, by decide, Own.fresh _ _ _⟩

theorem lword_at (b : Nat) (P : ByteArray) (w : World) (h : WalkAt w b P) :
    Calls Tryd.prog 23 #[.pointer (some ⟨b, 0, none⟩)] w fun e w' => e = .returned (.string P) ∧ ∃ q, w' = w.drewN q := by
  obtain ⟨t, k, hst, rfl, hown⟩ := h
  refine lword_any b k t w hown ?_
  rcases hst with ⟨rfl, rfl⟩ | ⟨_, _, h⟩
  · exact Nat.le_refl _
  · exact h

theorem word_sizes {t : ByteArray} (h : t = wT ∨ t = wF ∨ t = wN) : 3 < t.size ∧ t.size ≤ 5 := by
  rcases h with rfl | rfl | rfl <;> decide

/-- One byte on: what Step answers, and where the walk is then. -/
def After (w : World) (b : Nat) (P : ByteArray) (c : UInt8) (e : Ending) (w' : World) : Prop :=
  e = .returned (.int .i64 (refL (P.data.toList ++ [c]))) ∧ (refL (P.data.toList ++ [c]) = 2 → WalkAt w' b P) ∧ (refL (P.data.toList ++ [c]) ≠ 2 → WalkAt w' b (P ++ ⟨#[c]⟩)) ∧ Turned b w w'

theorem lstep_any (b : Nat) (P : ByteArray) (c : UInt8) (w : World) (h : WalkAt w b P) (hT : Tab w) :
    Calls Tryd.prog 22 #[.pointer (some ⟨b, 0, none⟩), .int .u8 c.toNat] w (After w b P c) := by
  have hwa := h
  obtain ⟨t, k, hst, rfl, hown⟩ := h
  unfold After
  rcases hst with ⟨rfl, rfl⟩ | ⟨ht, h1, h2⟩
  · rw [show (ByteArray.extract ⟨#[]⟩ 0 0).data.toList ++ [c] = [c] from rfl, ref_first]
    by_cases g1 : c = 116
    · subst g1
      refine (lstep_first b _ wT 116 (by decide) rfl w hT hown begun_t).mono ?_
      rintro e w' ⟨rfl, ho, htu⟩
      exact ⟨rfl, fun e => by simp at e, fun _ => ⟨wT, 1, .inr ⟨.inl rfl, by decide, by decide⟩, by decide, ho⟩, htu⟩
    by_cases g2 : c = 102
    · subst g2
      refine (lstep_first b _ wF 102 (by decide) rfl w hT hown begun_f).mono ?_
      rintro e w' ⟨rfl, ho, htu⟩
      exact ⟨rfl, fun e => by simp at e, fun _ => ⟨wF, 1, .inr ⟨.inr (.inl rfl), by decide, by decide⟩, by decide, ho⟩, htu⟩
    by_cases g3 : c = 110
    · subst g3
      refine (lstep_first b _ wN 110 (by decide) rfl w hT hown begun_n).mono ?_
      rintro e w' ⟨rfl, ho, htu⟩
      exact ⟨rfl, fun e => by simp at e, fun _ => ⟨wN, 1, .inr ⟨.inr (.inr rfl), by decide, by decide⟩, by decide, ho⟩, htu⟩
    have hne : ∀ {c : UInt8} {n : Nat}, n < 256 → ¬ c = UInt8.ofNat n → (c.toNat : Int) ≠ n := fun {c n} hn hc e => hc (by
      have : c.toNat = n := by omega
      rw [← this]; simp)
    refine (lstep_none b _ c.toNat (hne (by decide) g1) (hne (by decide) g2) (hne (by decide) g3) w hT hown).mono ?_
    rintro e w' ⟨rfl, hb⟩
    rw [if_neg (by simp [g1, g2, g3])]
    exact ⟨rfl, fun _ => hwa.stay hb hown.inside, fun e => absurd rfl e, Turned.of_below hb rfl⟩
  · obtain ⟨hz3, hz5⟩ := word_sizes ht
    rw [head_list, ref_in t ht k h1 h2 c]
    by_cases hlt : k < t.size
    · rw [dif_pos hlt]
      by_cases hc : t[k] = c
      · have hcI : (t[k].toNat : Int) = c.toNat := by rw [hc]
        have hP : t.extract 0 k ++ ⟨#[c]⟩ = t.extract 0 (k + 1) := ba_ext (by
          rw [cat_list, head_list, head_list, List.take_succ_eq_append_getElem (show k < t.data.toList.length from hlt), ← hc]
          rfl)
        rw [if_pos hc, hP]
        by_cases hd : k + 1 = t.size
        · rw [if_pos hd]
          refine (lstep_done b k t c.toNat w hown hz5 h1 hlt (by omega) hcI).mono ?_
          rintro e w' ⟨rfl, ho, htu⟩
          exact ⟨rfl, fun e => by simp at e, fun _ => ⟨t, k + 1, .inr ⟨ht, by omega, by omega⟩, rfl, ho⟩, htu⟩
        · rw [if_neg hd]
          refine (lstep_goes b k t c.toNat w hown hz5 h1 (by omega) hcI).mono ?_
          rintro e w' ⟨rfl, ho, htu⟩
          exact ⟨rfl, fun e => by simp at e, fun _ => ⟨t, k + 1, .inr ⟨ht, by omega, by omega⟩, rfl, ho⟩, htu⟩
      · have hcI : (t[k].toNat : Int) ≠ c.toNat := fun e => hc (UInt8.toNat_inj.1 (by omega))
        rw [if_neg hc]
        refine (lstep_no b k t c.toNat w hown h1 hlt hcI).mono ?_
        rintro e w' ⟨rfl, rfl⟩
        exact ⟨rfl, fun _ => hwa, fun e => absurd rfl e, Turned.refl _ _⟩
    · rw [dif_neg hlt]
      refine (lstep_end b k t c.toNat w hown h1 (by omega)).mono ?_
      rintro e w' ⟨rfl, rfl⟩
      exact ⟨rfl, fun _ => hwa, fun e => absurd rfl e, Turned.refl _ _⟩

/-- One byte on that fits not. -/
theorem lstep_stays (b : Nat) (P : ByteArray) (c : UInt8) (hr : refL (P.data.toList ++ [c]) = 2) (w : World) (h : WalkAt w b P) (hT : Tab w) :
    Calls Tryd.prog 22 #[.pointer (some ⟨b, 0, none⟩), .int .u8 c.toNat] w fun e w' => e = .returned (.int .i64 2) ∧ WalkAt w' b P ∧ Turned b w w' :=
  (lstep_any b P c w h hT).mono fun _ _ ⟨h1, h2, _, h4⟩ => ⟨by rw [h1, hr], h2 hr, h4⟩
/-- One that does. -/
theorem lstep_on (b : Nat) (P : ByteArray) (c : UInt8) (hr : refL (P.data.toList ++ [c]) ≠ 2) (w : World) (h : WalkAt w b P) (hT : Tab w) :
    Calls Tryd.prog 22 #[.pointer (some ⟨b, 0, none⟩), .int .u8 c.toNat] w fun e w' => e = .returned (.int .i64 (refL (P.data.toList ++ [c]))) ∧ WalkAt w' b (P ++ ⟨#[c]⟩) ∧ Turned b w w' :=
  (lstep_any b P c w h hT).mono fun _ _ ⟨h1, _, h3, h4⟩ => ⟨h1, h3 hr, h4⟩

end Go.Proofs.YtoahnbjpmbhpfaaDoor
