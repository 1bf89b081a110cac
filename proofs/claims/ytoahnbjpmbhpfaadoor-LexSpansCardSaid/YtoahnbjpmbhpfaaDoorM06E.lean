/- Strings as plain mathematics, continued: a text's string, sign by sign as the language decodes it. -/
import Derived.Test.YtoahnbjpmbhpfaaDoorM06D
namespace Go.Proofs.YtoahnbjpmbhpfaaDoor
open Go.RowKit

/-- The place of a sign among those that have an escape of one letter; -1: it is none. -/
def idxI (v : Int) : Int := if v = 34 then 0 else if v = 92 then 1 else if v = 8 then 2 else if v = 12 then 3 else if v = 10 then 4 else if v = 13 then 5 else if v = 9 then 6 else -1
/-- The letter at such a place. -/
def letOf (v : Int) : Int := if v = 34 then 34 else if v = 92 then 92 else if v = 8 then 98 else if v = 12 then 102 else if v = 10 then 110 else if v = 13 then 114 else 116
/-- What the string has for a sign. -/
def pieceR (v : Int) : List UInt8 := if 0 ≤ idxI v then [92, UInt8.ofNat (letOf v).toNat] else if v < 32 then [92, 117, 48, 48, lowB (v.toNat / 16), lowB (v.toNat % 16)] else ofB v

theorem piece_sgn (c : UInt8) (t : List UInt8) {d : Nat × Nat} (h : DecOk (c :: t) d) : pieceP (c :: t) (sgnL (c :: t)) = pieceR d.1 ∧ goOn (sgnL (c :: t)) = d.2 ∧ Sgn d.1 := by
  rcases h with ⟨h0, rfl⟩ | ⟨h0, h2, hb, hs⟩
  · rw [h0]
    refine ⟨?_, rfl, by unfold Sgn; omega⟩
    rfl
  · refine ⟨?_, by unfold goOn; rw [if_neg h0, h2], hs⟩
    unfold pieceP
    simp only [if_neg h0]
    by_cases hc : c.toNat < 128
    · have h1 := sgn_small c t hc
      rw [h1] at hb ⊢
      have hv : (d.1 : Int) = c.toNat := by
        have hl := ofB_len d.1
        have hb : ofB d.1 = [c] := hb
        unfold ofB at hb
        obtain ⟨hs0, _, _⟩ := hs
        rcases ofI_is (n := (d.1 : Int)) with ⟨hlt, e⟩ | ⟨_, _, e⟩ | ⟨_, _, e⟩ | ⟨_, e⟩
        · rw [e] at hb
          simp at hb
          have := congrArg UInt8.toNat hb
          simp at this
          omega
        all_goals (rw [e] at hb; simp at hb)
      rw [hv]
      unfold pieceR
      rw [Int.toNat_natCast]
      by_cases he : escB c ≠ 0
      · rw [if_pos he]
        have hc := esc_cases he
        rcases hc with rfl | rfl | rfl | rfl | rfl | rfl | rfl <;> rfl
      · rw [if_neg he]
        have hn : idxI c.toNat = -1 := by
          have he : escB c = 0 := by simpa using he
          unfold escB at he
          have hne : ∀ (k : UInt8) (n : Int), (k.toNat : Int) = n → c ≠ k → ¬ (c.toNat : Int) = n := fun k n hn h e => h (UInt8.toNat_inj.1 (by omega))
          have h1 : c ≠ 34 := fun e => by subst e; exact absurd he (by decide)
          have h2 : c ≠ 92 := fun e => by subst e; exact absurd he (by decide)
          have h3 : c ≠ 8 := fun e => by subst e; exact absurd he (by decide)
          have h4 : c ≠ 12 := fun e => by subst e; exact absurd he (by decide)
          have h5 : c ≠ 10 := fun e => by subst e; exact absurd he (by decide)
          have h6 : c ≠ 13 := fun e => by subst e; exact absurd he (by decide)
          have h7 : c ≠ 9 := fun e => by subst e; exact absurd he (by decide)
          unfold idxI
          rw [if_neg (hne 34 34 rfl h1), if_neg (hne 92 92 rfl h2), if_neg (hne 8 8 rfl h3), if_neg (hne 12 12 rfl h4), if_neg (hne 10 10 rfl h5), if_neg (hne 13 13 rfl h6), if_neg (hne 9 9 rfl h7)]
        rw [hn, if_neg (show ¬ (0 : Int) ≤ -1 by omega)]
        by_cases h32 : c.toNat < 32
        · rw [if_pos h32, if_pos (by omega)]
        · rw [if_neg h32, if_neg (by omega)]
          exact (ofB_one (by omega) rfl).symm
    · have hge : 128 ≤ (d.1 : Int) := by
        by_cases hlt : (d.1 : Int) < 128
        · exfalso
          have hlen : 2 ≤ (ofB d.1).length ∨ 2 ≤ sgnL (c :: t) := by
            right
            rw [sgn_cons] at h0 ⊢
            split at h0
            · rename_i hok
              rw [if_pos hok]
              split at h0
              · rename_i hz
                exfalso
                unfold lfU at hz
                rw [if_pos rfl, if_neg (by omega)] at hz
                revert hz
                (repeat' split) <;> omega
              · rename_i hz
                rw [if_neg hz]
                have := sgn_split _ _ _ _ _ rfl h0
                omega
            · exact absurd rfl h0
          have e : ofB d.1 = [UInt8.ofNat d.1] := by
            unfold ofB
            rcases ofI_is (n := (d.1 : Int)) with ⟨_, e⟩ | ⟨_, _, e⟩ | ⟨_, _, e⟩ | ⟨_, e⟩ <;> first | (rw [e]; rfl) | (exfalso; omega)
          have hsp := sgn_split (c :: t) 0 0 0 _ rfl h0
          have hl := congrArg List.length hb
          rw [e] at hl hlen
          rw [List.length_take] at hl
          have : sgnL (c :: t) ≤ 0 + (c :: t).length := hsp.2
          simp only [List.length_cons, List.length_nil] at hl hlen this
          omega
        · omega
      have he : escB c = 0 := by
        by_cases he : escB c = 0
        · exact he
        · rcases esc_cases he with rfl | rfl | rfl | rfl | rfl | rfl | rfl <;> exact absurd hc (by decide)
      rw [if_neg (by simp [he]), if_neg (by omega), ← hb]
      unfold pieceR
      have hn : idxI d.1 = -1 := by
        unfold idxI
        rw [if_neg (by omega), if_neg (by omega), if_neg (by omega), if_neg (by omega), if_neg (by omega), if_neg (by omega), if_neg (by omega)]
      rw [hn, if_neg (by omega), if_neg (by omega)]

/-- A text's string, one sign further. -/
theorem dput_step (s : ByteArray) (pos f : Nat) (h : pos < s.size) :
    putGo (f + 1) (s.data.toList.drop pos) = pieceR (Utf8.decode s pos).1 ++ putGo f (s.data.toList.drop (pos + (Utf8.decode s pos).2)) ∧ Sgn (Utf8.decode s pos).1 ∧ 1 ≤ (Utf8.decode s pos).2 ∧ pos + (Utf8.decode s pos).2 ≤ s.size := by
  have hl : (s.data.toList.drop pos).length = s.size - pos := by simp
  have hd := dec_list s pos h
  cases hc : s.data.toList.drop pos with
  | nil => rw [hc] at hl; simp at hl; omega
  | cons c t =>
    rw [hc] at hd hl
    have hk := dec_sgn c t
    rw [← hd] at hk
    obtain ⟨h1, h2, h3⟩ := piece_sgn c t hk
    have hp := piece_len c t
    rw [h2] at hp
    refine ⟨?_, h3, hp.2.2, by omega⟩
    show (if c :: t = [] then [] else pieceP (c :: t) (sgnL (c :: t)) ++ putGo f ((c :: t).drop (goOn (sgnL (c :: t))))) = _
    rw [if_neg (by simp), h1, h2, ← hc, List.drop_drop]

theorem pieceR_len (v : Int) : 1 ≤ (pieceR v).length ∧ (pieceR v).length ≤ 6 := by
  have h1 := ofB_pos v
  have h2 := ofB_len v
  unfold pieceR
  split
  · simp
  · split
    · simp
    · omega
theorem putGo_nil (f : Nat) : putGo f [] = [] := by cases f <;> simp [putGo]

end Go.Proofs.YtoahnbjpmbhpfaaDoor
