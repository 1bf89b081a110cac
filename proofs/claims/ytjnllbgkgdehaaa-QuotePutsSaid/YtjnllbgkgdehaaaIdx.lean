/- strings.IndexRune in the signs that have an escape of one letter: every sign. -/
import Derived.Test.YtjnllbgkgdehaaaBld
import Derived.Test.YtjnllbgkgdehaaaM06E
import Derived.Laws.Runes
namespace Go.Proofs.Ytjnllbgkgdehaaa
open Go.RowKit
set_option linter.unusedVariables false

theorem idx_small (v : Int) (h0 : 0 ≤ v) (h1 : v < 128) (w : World) :
    Calls Try.prog 19 #[.string ⟨#[34, 92, 8, 12, 10, 13, 9]⟩, .int .i32 v] w fun e w' => e = .returned (.int .i64 (idxI v)) ∧ w = w' := by
  refine (Try.strings_IndexRune_ascii _ v w h0 h1).mono ?_
  rintro e w' ⟨rfl, rfl⟩
  refine ⟨ret_i ?_, rfl⟩
  obtain ⟨n, rfl⟩ : ∃ n : Nat, v = n := ⟨v.toNat, by omega⟩
  have hn : n < 128 := by omega
  have : ∀ n : Nat, n < 128 → Lib.indexByte [34, 92, 8, 12, 10, 13, 9] (n : Int).toNat.toUInt8 = idxI n := by decide +kernel
  exact this n hn

theorem ib_none (l : List UInt8) (c : UInt8) (h : ∀ b ∈ l, b.toNat < 128) (hc : 128 ≤ c.toNat) : Lib.indexByte l c = -1 := by
  induction l with
  | nil => rfl
  | cons b t ih =>
    have hb := h b (by simp)
    have hne : (b == c) = false := by
      rw [beq_eq_false_iff_ne]
      intro e
      subst e
      omega
    rw [Lib.indexByte, hne, ih (fun x hx => h x (by simp [hx]))]
    rfl
theorem ibyte_none (s : ByteArray) (hs : ∀ b ∈ s.data.toList, b.toNat < 128) (c : UInt8) (hc : 128 ≤ c.toNat) (w : World) :
    Calls Try.prog 32 #[.string s, .int .u8 c.toNat] w fun e w' => e = .returned (.int .i64 (-1)) ∧ w' = w := by
  have h := Try.strings_IndexByte s c.toNat w
  have e : (c.toNat : Int).toNat.toUInt8 = c := by simp
  rw [e, ib_none _ _ hs hc] at h
  exact h

theorem valid_sgn {v : Int} (h : Sgn v) : Utf8.valid v = true := by
  rw [validRune_eq]
  unfold validRune
  simp
  obtain ⟨a, b, c⟩ := h
  omega
theorem lvalid_sgn {v : Int} (h : Sgn v) : Lib.validRune v = true := by
  unfold Lib.validRune
  obtain ⟨a, b, c⟩ := h
  simp
  omega

set_option maxHeartbeats 1000000 in
set_option maxRecDepth 100000 in
theorem idx_two (v : Int) (h : Sgn v) (h1 : 128 ≤ v) (hne : v ≠ 65533) (rs : ByteArray) (hrs : Utf8.encode v = rs) (hsz : rs.size = 2) (hl : 128 ≤ rs[1].toNat) (w : World) :
    Calls Try.prog 19 #[.string ⟨#[34, 92, 8, 12, 10, 13, 9]⟩, .int .i32 v] w fun e w' => e = .returned (.int .i64 (-1)) ∧ Below w.heap.size w w' := by
  have gv : (v == 65533) = false := beq_eq_false_iff_ne.2 hne
  have hv : Calls Try.prog 33 #[.int .i32 v] w fun e w' => e = .returned (.bool true) ∧ w' = w := by
    have := Try.utf8_ValidRune v w
    rw [lvalid_sgn h] at this
    exact this
  have HV := Lib.hid hv
  clear hv h hne
  go_enter Try.func19, Try.ntmps19
  go_wp2_with (go_at_call 33; refine HV.out.mono ?_; rintro e w' ⟨rfl, rfl⟩)
  go_step3
  go_wp2
  refine wp_loop_rounds 1 ?_
  rw [rounds_succ]
  go_wp2
  go_step3
  go_wp2
  have hlast : 1 < rs.size := by omega
  have g1 : (((ByteArray.mk #[34, 92, 8, 12, 10, 13, 9])[1].toNat : Int) != (rs[1].toNat : Int)) = true := by
    rw [bne_iff_ne]; show (92 : Int) ≠ _; omega
  go_quiet (fail)
  have hb := below_drewN (Below.refl w'.heap.size w') nq
  generalize w'.drewN nq = wq at *
  go_wp2
  have hx : ∀ b ∈ ((ByteArray.mk #[34, 92, 8, 12, 10, 13, 9]).extract 2 7).data.toList, b.toNat < 128 := by decide +kernel
  go_quiet ((go_at_call 32; exact Calls.quiet_of_same (ibyte_none _ hx rs[1] hl _)))
  go_wp2
  rw [Exit.noGoto_ret]
  go_wp2
  rw [Exit.noGoto_ret]
  go_ret
  exact ⟨rfl, below_drewN hb _⟩

set_option maxHeartbeats 1000000 in
set_option maxRecDepth 100000 in
theorem idx_three (v : Int) (h : Sgn v) (h1 : 128 ≤ v) (hne : v ≠ 65533) (rs : ByteArray) (hrs : Utf8.encode v = rs) (hsz : rs.size = 3) (hl : 128 ≤ rs[2].toNat) (w : World) :
    Calls Try.prog 19 #[.string ⟨#[34, 92, 8, 12, 10, 13, 9]⟩, .int .i32 v] w fun e w' => e = .returned (.int .i64 (-1)) ∧ Below w.heap.size w w' := by
  have gv : (v == 65533) = false := beq_eq_false_iff_ne.2 hne
  have hv : Calls Try.prog 33 #[.int .i32 v] w fun e w' => e = .returned (.bool true) ∧ w' = w := by
    have := Try.utf8_ValidRune v w
    rw [lvalid_sgn h] at this
    exact this
  have HV := Lib.hid hv
  clear hv h hne
  go_enter Try.func19, Try.ntmps19
  go_wp2_with (go_at_call 33; refine HV.out.mono ?_; rintro e w' ⟨rfl, rfl⟩)
  go_step3
  go_wp2
  refine wp_loop_rounds 1 ?_
  rw [rounds_succ]
  go_wp2
  go_step3
  go_wp2
  have hlast : 2 < rs.size := by omega
  have g1 : (((ByteArray.mk #[34, 92, 8, 12, 10, 13, 9])[2].toNat : Int) != (rs[2].toNat : Int)) = true := by
    rw [bne_iff_ne]; show (8 : Int) ≠ _; omega
  go_quiet (fail)
  have hb := below_drewN (Below.refl w'.heap.size w') nq
  generalize w'.drewN nq = wq at *
  go_wp2
  have hx : ∀ b ∈ ((ByteArray.mk #[34, 92, 8, 12, 10, 13, 9]).extract 3 7).data.toList, b.toNat < 128 := by decide +kernel
  go_quiet ((go_at_call 32; exact Calls.quiet_of_same (ibyte_none _ hx rs[2] hl _)))
  go_wp2
  rw [Exit.noGoto_ret]
  go_wp2
  rw [Exit.noGoto_ret]
  go_ret
  exact ⟨rfl, below_drewN hb _⟩

set_option maxHeartbeats 1000000 in
set_option maxRecDepth 100000 in
theorem idx_four (v : Int) (h : Sgn v) (h1 : 128 ≤ v) (hne : v ≠ 65533) (rs : ByteArray) (hrs : Utf8.encode v = rs) (hsz : rs.size = 4) (hl : 128 ≤ rs[3].toNat) (w : World) :
    Calls Try.prog 19 #[.string ⟨#[34, 92, 8, 12, 10, 13, 9]⟩, .int .i32 v] w fun e w' => e = .returned (.int .i64 (-1)) ∧ Below w.heap.size w w' := by
  have gv : (v == 65533) = false := beq_eq_false_iff_ne.2 hne
  have hv : Calls Try.prog 33 #[.int .i32 v] w fun e w' => e = .returned (.bool true) ∧ w' = w := by
    have := Try.utf8_ValidRune v w
    rw [lvalid_sgn h] at this
    exact this
  have HV := Lib.hid hv
  clear hv h hne
  go_enter Try.func19, Try.ntmps19
  go_wp2_with (go_at_call 33; refine HV.out.mono ?_; rintro e w' ⟨rfl, rfl⟩)
  go_step3
  go_wp2
  refine wp_loop_rounds 1 ?_
  rw [rounds_succ]
  go_wp2
  go_step3
  go_wp2
  have hlast : 3 < rs.size := by omega
  have g1 : (((ByteArray.mk #[34, 92, 8, 12, 10, 13, 9])[3].toNat : Int) != (rs[3].toNat : Int)) = true := by
    rw [bne_iff_ne]; show (12 : Int) ≠ _; omega
  go_quiet (fail)
  have hb := below_drewN (Below.refl w'.heap.size w') nq
  generalize w'.drewN nq = wq at *
  go_wp2
  have hx : ∀ b ∈ ((ByteArray.mk #[34, 92, 8, 12, 10, 13, 9]).extract 4 7).data.toList, b.toNat < 128 := by decide +kernel
  go_quiet ((go_at_call 32; exact Calls.quiet_of_same (ibyte_none _ hx rs[3] hl _)))
  go_wp2
  rw [Exit.noGoto_ret]
  go_wp2
  rw [Exit.noGoto_ret]
  go_ret
  exact ⟨rfl, below_drewN hb _⟩


theorem esc_ascii : ∀ k : Nat, k < 7 → ∃ h : k < (ByteArray.mk #[34, 92, 8, 12, 10, 13, 9]).size, ((ByteArray.mk #[34, 92, 8, 12, 10, 13, 9])[k]'h).toNat < 128 := by decide

set_option maxHeartbeats 1000000 in
set_option maxRecDepth 100000 in
theorem idx_strange (w : World) :
    Calls Try.prog 19 #[.string ⟨#[34, 92, 8, 12, 10, 13, 9]⟩, .int .i32 65533] w fun e w' => e = .returned (.int .i64 (-1)) ∧ Below w.heap.size w w' := by
  go_enter Try.func19, Try.ntmps19
  go_wp2
  go_loopw [] (fun wr => ∃ k : Nat, k ≤ 7 ∧ wr = w.iter ⟨#[34, 92, 8, 12, 10, 13, 9]⟩ k) (fun wr => 7 - wr.iterPos w.heap.size)
  case atStart => exact ⟨0, by omega, rfl⟩
  case round =>
    obtain ⟨k, hk, rfl⟩ := hrel
    by_cases hlt : k < 7
    · obtain ⟨h1, h2⟩ := esc_ascii k hlt
      have hnx := fun ty => run_next_ascii (P := Try.prog) w ⟨#[34, 92, 8, 12, 10, 13, 9]⟩ k ty h1 h2
      have hne : ((((ByteArray.mk #[34, 92, 8, 12, 10, 13, 9])[k]'h1).toNat : Int) == 65533) = false := beq_eq_false_iff_ne.2 (by omega)
      go_wp2
      go_roundw
      case rel => exact ⟨k + 1, by omega, rfl⟩
      case measure => simp; omega
    · obtain rfl : k = 7 := by omega
      have hnx := fun ty => run_next_end (P := Try.prog) w ⟨#[34, 92, 8, 12, 10, 13, 9]⟩ 7 ty (by decide)
      go_wp2
      go_ret
      exact ⟨rfl, (Below.refl _ _).alloc (Nat.le_refl _) _⟩

/-- IndexRune, of every sign. -/
theorem idx_any (v : Int) (h : Sgn v) (w : World) :
    Calls Try.prog 19 #[.string ⟨#[34, 92, 8, 12, 10, 13, 9]⟩, .int .i32 v] w fun e w' => e = .returned (.int .i64 (idxI v)) ∧ Below w.heap.size w w' := by
  by_cases hs : v < 128
  · refine (idx_small v h.1 hs w).mono ?_
    rintro e w' ⟨rfl, rfl⟩
    exact ⟨rfl, Below.refl _ _⟩
  have hi : idxI v = -1 := by
    unfold idxI
    rw [if_neg (by omega), if_neg (by omega), if_neg (by omega), if_neg (by omega), if_neg (by omega), if_neg (by omega), if_neg (by omega)]
  rw [hi]
  by_cases hf : v = 65533
  · subst hf
    exact idx_strange w
  have h8 : 128 ≤ v := by omega
  obtain ⟨h2, h4, hl⟩ := encode_facts v (valid_sgn h) h8
  generalize hrs : Utf8.encode v = rs at *
  have hh : rs.size = 2 ∨ rs.size = 3 ∨ rs.size = 4 := by omega
  rcases hh with e | e | e
  · have := hl (by omega)
    simp only [e] at this
    exact idx_two v h h8 hf rs hrs e this w
  · have := hl (by omega)
    simp only [e] at this
    exact idx_three v h h8 hf rs hrs e this w
  · have := hl (by omega)
    simp only [e] at this
    exact idx_four v h h8 hf rs hrs e this w

end Go.Proofs.Ytjnllbgkgdehaaa
