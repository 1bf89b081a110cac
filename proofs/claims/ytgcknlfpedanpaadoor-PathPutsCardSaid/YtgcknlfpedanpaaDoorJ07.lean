/- Names in marks as plain mathematics: sign by sign as the language decodes them. -/
import Derived.Test.YtgcknlfpedanpaaDoorJ06
import Derived.Laws.Runes
namespace Go.Proofs.YtgcknlfpedanpaaDoor
open Go.RowKit

/-- The place of a sign among those that have an escape of one letter; -1: it is none. -/
def idxN (v : Int) : Int := if v = 8 then 0 else if v = 9 then 1 else if v = 10 then 2 else if v = 12 then 3 else if v = 13 then 4 else if v = 39 then 5 else if v = 92 then 6 else -1
/-- The letter at such a place. -/
def letOfN (v : Int) : Int := if v = 8 then 98 else if v = 9 then 116 else if v = 10 then 110 else if v = 12 then 102 else if v = 13 then 114 else if v = 39 then 39 else 92
/-- What the string has for a sign. -/
def pieceS (v : Int) : List UInt8 := if 0 ≤ idxN v then [92, UInt8.ofNat (letOfN v).toNat] else if v < 32 then [92, 117, 48, 48, lowB (v.toNat / 16), lowB (v.toNat % 16)] else ofB v

theorem pieceS_sgn (c : UInt8) (t : List UInt8) {d : Nat × Nat} (h : DecOk (c :: t) d) : pieceM (c :: t) (sgnL (c :: t)) = pieceS d.1 ∧ goOn (sgnL (c :: t)) = d.2 ∧ Sgn d.1 := by
  rcases h with ⟨h0, rfl⟩ | ⟨h0, h2, hb, hs⟩
  · rw [h0]
    refine ⟨?_, rfl, by unfold Sgn; omega⟩
    rfl
  · refine ⟨?_, by unfold goOn; rw [if_neg h0, h2], hs⟩
    rw [pieceM_cons, if_neg h0]
    by_cases hc : c.toNat < 128
    · have h1 := sgn_small c t hc
      rw [h1] at hb ⊢
      have hv : (d.1 : Int) = c.toNat := by
        have hl := ofB_len d.1
        have hb : ofB d.1 = [c] := hb
        unfold ofB at hb
        obtain ⟨hs0, _, _⟩ := hs
        rcases ofI_is (n := (d.1 : Int)) with ⟨hlt, e⟩ | ⟨_, _, e⟩ | ⟨_, _, e⟩ | ⟨_, e⟩
        · rw [e] at hb
          simp at hb
          have := congrArg UInt8.toNat hb
          simp at this
          omega
        all_goals (rw [e] at hb; simp at hb)
      rw [hv]
      unfold pieceS
      rw [Int.toNat_natCast]
      by_cases he : escN c ≠ 0
      · rw [if_pos he]
        have hc := escN_cases he
        rcases hc with rfl | rfl | rfl | rfl | rfl | rfl | rfl <;> rfl
      · rw [if_neg he]
        have hn : idxN c.toNat = -1 := by
          have he : escN c = 0 := by simpa using he
          unfold escN at he
          have hne : ∀ (k : UInt8) (n : Int), (k.toNat : Int) = n → c ≠ k → ¬ (c.toNat : Int) = n := fun k n hn h e => h (UInt8.toNat_inj.1 (by omega))
          have h1 : c ≠ 8 := fun e => by subst e; exact absurd he (by decide)
          have h2 : c ≠ 9 := fun e => by subst e; exact absurd he (by decide)
          have h3 : c ≠ 10 := fun e => by subst e; exact absurd he (by decide)
          have h4 : c ≠ 12 := fun e => by subst e; exact absurd he (by decide)
          have h5 : c ≠ 13 := fun e => by subst e; exact absurd he (by decide)
          have h6 : c ≠ 39 := fun e => by subst e; exact absurd he (by decide)
          have h7 : c ≠ 92 := fun e => by subst e; exact absurd he (by decide)
          unfold idxN
          rw [if_neg (hne 8 8 rfl h1), if_neg (hne 9 9 rfl h2), if_neg (hne 10 10 rfl h3), if_neg (hne 12 12 rfl h4), if_neg (hne 13 13 rfl h5), if_neg (hne 39 39 rfl h6), if_neg (hne 92 92 rfl h7)]
        rw [hn, if_neg (show ¬ (0 : Int) ≤ -1 by omega)]
        by_cases h32 : c.toNat < 32
        · rw [if_pos h32, if_pos (by omega)]
          rfl
        · rw [if_neg h32, if_neg (by omega)]
          exact (ofB_one (by omega) rfl).symm
    · have hge : 128 ≤ (d.1 : Int) := by
        by_cases hlt : (d.1 : Int) < 128
        · exfalso
          have hlen : 2 ≤ (ofB d.1).length ∨ 2 ≤ sgnL (c :: t) := by
            right
            rw [sgn_cons] at h0 ⊢
            split at h0
            · rename_i hok
              rw [if_pos hok]
              split at h0
              · rename_i hz
                exfalso
                unfold lfU at hz
                rw [if_pos rfl, if_neg (by omega)] at hz
                revert hz
                (repeat' split) <;> omega
              · rename_i hz
                rw [if_neg hz]
                have := sgn_split _ _ _ _ _ rfl h0
                omega
            · exact absurd rfl h0
          have e : ofB d.1 = [UInt8.ofNat d.1] := by
            unfold ofB
            rcases ofI_is (n := (d.1 : Int)) with ⟨_, e⟩ | ⟨_, _, e⟩ | ⟨_, _, e⟩ | ⟨_, e⟩ <;> first | (rw [e]; rfl) | (exfalso; omega)
          have hsp := sgn_split (c :: t) 0 0 0 _ rfl h0
          have hl := congrArg List.length hb
          rw [e] at hl hlen
          rw [List.length_take] at hl
          have : sgnL (c :: t) ≤ 0 + (c :: t).length := hsp.2
          simp only [List.length_cons, List.length_nil] at hl hlen this
          omega
        · omega
      have he : escN c = 0 := by
        by_cases he : escN c = 0
        · exact he
        · rcases escN_cases he with rfl | rfl | rfl | rfl | rfl | rfl | rfl <;> exact absurd hc (by decide)
      rw [if_neg (by simp [he]), if_neg (by omega), ← hb]
      unfold pieceS
      have hn : idxN d.1 = -1 := by
        unfold idxN
        rw [if_neg (by omega), if_neg (by omega), if_neg (by omega), if_neg (by omega), if_neg (by omega), if_neg (by omega), if_neg (by omega)]
      rw [hn, if_neg (by omega), if_neg (by omega)]

/-- A text's string, one sign further. -/
theorem nput_step (s : ByteArray) (pos f : Nat) (h : pos < s.size) :
    nameGo (f + 1) (s.data.toList.drop pos) = pieceS (Utf8.decode s pos).1 ++ nameGo f (s.data.toList.drop (pos + (Utf8.decode s pos).2)) ∧ Sgn (Utf8.decode s pos).1 ∧ 1 ≤ (Utf8.decode s pos).2 ∧ pos + (Utf8.decode s pos).2 ≤ s.size := by
  have hl : (s.data.toList.drop pos).length = s.size - pos := by simp
  have hd := dec_list s pos h
  cases hc : s.data.toList.drop pos with
  | nil => rw [hc] at hl; simp at hl; omega
  | cons c t =>
    rw [hc] at hd hl
    have hk := dec_sgn c t
    rw [← hd] at hk
    obtain ⟨h1, h2, h3⟩ := pieceS_sgn c t hk
    have hp := piece_len c t
    rw [h2] at hp
    refine ⟨?_, h3, hp.2.2, by omega⟩
    rw [nameGo_cons, h1, h2, ← hc, List.drop_drop]

theorem pieceS_len (v : Int) : 1 ≤ (pieceS v).length ∧ (pieceS v).length ≤ 6 := by
  have h1 := ofB_pos v
  have h2 := ofB_len v
  unfold pieceS
  split
  · simp
  · split
    · simp
    · omega

end Go.Proofs.YtgcknlfpedanpaaDoor

namespace Go.Proofs.YtgcknlfpedanpaaDoor
open Go.RowKit
set_option linter.unusedVariables false

theorem idxn_small (v : Int) (h0 : 0 ≤ v) (h1 : v < 128) (w : World) :
    Calls Tryd.prog 47 #[.string ⟨#[8, 9, 10, 12, 13, 39, 92]⟩, .int .i32 v] w fun e w' => e = .returned (.int .i64 (idxN v)) ∧ w = w' := by
  refine (Tryd.strings_IndexRune_ascii _ v w h0 h1).mono ?_
  rintro e w' ⟨rfl, rfl⟩
  refine ⟨ret_i ?_, rfl⟩
  obtain ⟨n, rfl⟩ : ∃ n : Nat, v = n := ⟨v.toNat, by omega⟩
  have hn : n < 128 := by omega
  have : ∀ n : Nat, n < 128 → Lib.indexByte [8, 9, 10, 12, 13, 39, 92] (n : Int).toNat.toUInt8 = idxN n := by decide +kernel
  exact this n hn

set_option maxHeartbeats 1000000 in
set_option maxRecDepth 100000 in
theorem idxn_two (v : Int) (h : Sgn v) (h1 : 128 ≤ v) (hne : v ≠ 65533) (rs : ByteArray) (hrs : Utf8.encode v = rs) (hsz : rs.size = 2) (hl : 128 ≤ rs[1].toNat) (w : World) :
    Calls Tryd.prog 47 #[.string ⟨#[8, 9, 10, 12, 13, 39, 92]⟩, .int .i32 v] w fun e w' => e = .returned (.int .i64 (-1)) ∧ Below w.heap.size w w' := by
  have gv : (v == 65533) = false := beq_eq_false_iff_ne.2 hne
  have hv : Calls Tryd.prog 56 #[.int .i32 v] w fun e w' => e = .returned (.bool true) ∧ w' = w := by
    have := Tryd.utf8_ValidRune v w
    rw [lvalid_sgn h] at this
    exact this
  have HV := Lib.hid hv
  clear hv h hne
  go_enter Tryd.func47, Tryd.ntmps47
  go_wp2_with (go_at_call 56; refine HV.out.mono ?_; rintro e w' ⟨rfl, rfl⟩)
  go_step3
  go_wp2
  refine wp_loop_rounds 1 ?_
  rw [rounds_succ]
  go_wp2
  go_step3
  go_wp2
  have hlast : 1 < rs.size := by omega
  have g1 : (((ByteArray.mk #[8, 9, 10, 12, 13, 39, 92])[1].toNat : Int) != (rs[1].toNat : Int)) = true := by
    rw [bne_iff_ne]; show (9 : Int) ≠ _; omega
  go_quiet (fail)
  have hb := below_drewN (Below.refl w'.heap.size w') nq
  generalize w'.drewN nq = wq at *
  go_wp2
  have hx : ∀ b ∈ ((ByteArray.mk #[8, 9, 10, 12, 13, 39, 92]).extract 2 7).data.toList, b.toNat < 128 := by decide +kernel
  go_quiet ((go_at_call 55; exact Calls.quiet_of_same (ibyte_none _ hx rs[1] hl _)))
  go_wp2
  rw [Exit.noGoto_ret]
  go_wp2
  rw [Exit.noGoto_ret]
  go_ret
  exact ⟨rfl, below_drewN hb _⟩

set_option maxHeartbeats 1000000 in
set_option maxRecDepth 100000 in
theorem idxn_three (v : Int) (h : Sgn v) (h1 : 128 ≤ v) (hne : v ≠ 65533) (rs : ByteArray) (hrs : Utf8.encode v = rs) (hsz : rs.size = 3) (hl : 128 ≤ rs[2].toNat) (w : World) :
    Calls Tryd.prog 47 #[.string ⟨#[8, 9, 10, 12, 13, 39, 92]⟩, .int .i32 v] w fun e w' => e = .returned (.int .i64 (-1)) ∧ Below w.heap.size w w' := by
  have gv : (v == 65533) = false := beq_eq_false_iff_ne.2 hne
  have hv : Calls Tryd.prog 56 #[.int .i32 v] w fun e w' => e = .returned (.bool true) ∧ w' = w := by
    have := Tryd.utf8_ValidRune v w
    rw [lvalid_sgn h] at this
    exact this
  have HV := Lib.hid hv
  clear hv h hne
  go_enter Tryd.func47, Tryd.ntmps47
  go_wp2_with (go_at_call 56; refine HV.out.mono ?_; rintro e w' ⟨rfl, rfl⟩)
  go_step3
  go_wp2
  refine wp_loop_rounds 1 ?_
  rw [rounds_succ]
  go_wp2
  go_step3
  go_wp2
  have hlast : 2 < rs.size := by omega
  have g1 : (((ByteArray.mk #[8, 9, 10, 12, 13, 39, 92])[2].toNat : Int) != (rs[2].toNat : Int)) = true := by
    rw [bne_iff_ne]; show (10 : Int) ≠ _; omega
  go_quiet (fail)
  have hb := below_drewN (Below.refl w'.heap.size w') nq
  generalize w'.drewN nq = wq at *
  go_wp2
  have hx : ∀ b ∈ ((ByteArray.mk #[8, 9, 10, 12, 13, 39, 92]).extract 3 7).data.toList, b.toNat < 128 := by decide +kernel
  go_quiet ((go_at_call 55; exact Calls.quiet_of_same (ibyte_none _ hx rs[2] hl _)))
  go_wp2
  rw [Exit.noGoto_ret]
  go_wp2
  rw [Exit.noGoto_ret]
  go_ret
  exact ⟨rfl, below_drewN hb _⟩

set_option maxHeartbeats 1000000 in
set_option maxRecDepth 100000 in
theorem idxn_four (v : Int) (h : Sgn v) (h1 : 128 ≤ v) (hne : v ≠ 65533) (rs : ByteArray) (hrs : Utf8.encode v = rs) (hsz : rs.size = 4) (hl : 128 ≤ rs[3].toNat) (w : World) :
    Calls Tryd.prog 47 #[.string ⟨#[8, 9, 10, 12, 13, 39, 92]⟩, .int .i32 v] w fun e w' => e = .returned (.int .i64 (-1)) ∧ Below w.heap.size w w' := by
  have gv : (v == 65533) = false := beq_eq_false_iff_ne.2 hne
  have hv : Calls Tryd.prog 56 #[.int .i32 v] w fun e w' => e = .returned (.bool true) ∧ w' = w := by
    have := Tryd.utf8_ValidRune v w
    rw [lvalid_sgn h] at this
    exact this
  have HV := Lib.hid hv
  clear hv h hne
  go_enter Tryd.func47, Tryd.ntmps47
  go_wp2_with (go_at_call 56; refine HV.out.mono ?_; rintro e w' ⟨rfl, rfl⟩)
  go_step3
  go_wp2
  refine wp_loop_rounds 1 ?_
  rw [rounds_succ]
  go_wp2
  go_step3
  go_wp2
  have hlast : 3 < rs.size := by omega
  have g1 : (((ByteArray.mk #[8, 9, 10, 12, 13, 39, 92])[3].toNat : Int) != (rs[3].toNat : Int)) = true := by
    rw [bne_iff_ne]; show (12 : Int) ≠ _; omega
  go_quiet (fail)
  have hb := below_drewN (Below.refl w'.heap.size w') nq
  generalize w'.drewN nq = wq at *
  go_wp2
  have hx : ∀ b ∈ ((ByteArray.mk #[8, 9, 10, 12, 13, 39, 92]).extract 4 7).data.toList, b.toNat < 128 := by decide +kernel
  go_quiet ((go_at_call 55; exact Calls.quiet_of_same (ibyte_none _ hx rs[3] hl _)))
  go_wp2
  rw [Exit.noGoto_ret]
  go_wp2
  rw [Exit.noGoto_ret]
  go_ret
  exact ⟨rfl, below_drewN hb _⟩


theorem escN_ascii : ∀ k : Nat, k < 7 → ∃ h : k < (ByteArray.mk #[8, 9, 10, 12, 13, 39, 92]).size, ((ByteArray.mk #[8, 9, 10, 12, 13, 39, 92])[k]'h).toNat < 128 := by decide

set_option maxHeartbeats 1000000 in
set_option maxRecDepth 100000 in
theorem idxn_strange (w : World) :
    Calls Tryd.prog 47 #[.string ⟨#[8, 9, 10, 12, 13, 39, 92]⟩, .int .i32 65533] w fun e w' => e = .returned (.int .i64 (-1)) ∧ Below w.heap.size w w' := by
  go_enter Tryd.func47, Tryd.ntmps47
  go_wp2
  go_loopw [] (fun wr => ∃ k : Nat, k ≤ 7 ∧ wr = w.iter ⟨#[8, 9, 10, 12, 13, 39, 92]⟩ k) (fun wr => 7 - wr.iterPos w.heap.size)
  case atStart => exact ⟨0, by omega, rfl⟩
  case round =>
    obtain ⟨k, hk, rfl⟩ := hrel
    by_cases hlt : k < 7
    · obtain ⟨h1, h2⟩ := escN_ascii k hlt
      have hnx := fun ty => run_next_ascii (P := Tryd.prog) w ⟨#[8, 9, 10, 12, 13, 39, 92]⟩ k ty h1 h2
      have hne : ((((ByteArray.mk #[8, 9, 10, 12, 13, 39, 92])[k]'h1).toNat : Int) == 65533) = false := beq_eq_false_iff_ne.2 (by omega)
      go_wp2
      go_roundw
      case rel => exact ⟨k + 1, by omega, rfl⟩
      case measure => simp; omega
    · obtain rfl : k = 7 := by omega
      have hnx := fun ty => run_next_end (P := Tryd.prog) w ⟨#[8, 9, 10, 12, 13, 39, 92]⟩ 7 ty (by decide)
      go_wp2
      go_ret
      exact ⟨rfl, (Below.refl _ _).alloc (Nat.le_refl _) _⟩

/-- IndexRune, of every sign. -/
theorem idxn_any (v : Int) (h : Sgn v) (w : World) :
    Calls Tryd.prog 47 #[.string ⟨#[8, 9, 10, 12, 13, 39, 92]⟩, .int .i32 v] w fun e w' => e = .returned (.int .i64 (idxN v)) ∧ Below w.heap.size w w' := by
  by_cases hs : v < 128
  · refine (idxn_small v h.1 hs w).mono ?_
    rintro e w' ⟨rfl, rfl⟩
    exact ⟨rfl, Below.refl _ _⟩
  have hi : idxN v = -1 := by
    unfold idxN
    rw [if_neg (by omega), if_neg (by omega), if_neg (by omega), if_neg (by omega), if_neg (by omega), if_neg (by omega), if_neg (by omega)]
  rw [hi]
  by_cases hf : v = 65533
  · subst hf
    exact idxn_strange w
  have h8 : 128 ≤ v := by omega
  obtain ⟨h2, h4, hl⟩ := encode_facts v (valid_sgn h) h8
  generalize hrs : Utf8.encode v = rs at *
  have hh : rs.size = 2 ∨ rs.size = 3 ∨ rs.size = 4 := by omega
  rcases hh with e | e | e
  · have := hl (by omega)
    simp only [e] at this
    exact idxn_two v h h8 hf rs hrs e this w
  · have := hl (by omega)
    simp only [e] at this
    exact idxn_three v h h8 hf rs hrs e this w
  · have := hl (by omega)
    simp only [e] at this
    exact idxn_four v h h8 hf rs hrs e this w

end Go.Proofs.YtgcknlfpedanpaaDoor
