/- strings.IndexRune in the signs that have an escape of one letter: every sign. -/
import Derived.Test.YtgcknlfpedanpaaDoorJ05
import Derived.Laws.Runes
namespace Go.Proofs.YtgcknlfpedanpaaDoor
open Go.RowKit
set_option linter.unusedVariables false

theorem idx_small (v : Int) (h0 : 0 ≤ v) (h1 : v < 128) (w : World) :
    Calls Tryd.prog 47 #[.string ⟨#[34, 92, 8, 12, 10, 13, 9]⟩, .int .i32 v] w fun e w' => e = .returned (.int .i64 (idxI v)) ∧ w = w' := by
  refine (Tryd.strings_IndexRune_ascii _ v w h0 h1).mono ?_
  rintro e w' ⟨rfl, rfl⟩
  refine ⟨ret_i ?_, rfl⟩
  obtain ⟨n, rfl⟩ : ∃ n : Nat, v = n := ⟨v.toNat, by omega⟩
  have hn : n < 128 := by omega
  have : ∀ n : Nat, n < 128 → Lib.indexByte [34, 92, 8, 12, 10, 13, 9] (n : Int).toNat.toUInt8 = idxI n := by decide +kernel
  exact this n hn

theorem ib_none (l : List UInt8) (c : UInt8) (h : ∀ b ∈ l, b.toNat < 128) (hc : 128 ≤ c.toNat) : Lib.indexByte l c = -1 := by
  induction l with
  | nil => rfl
  | cons b t ih =>
    have hb := h b (by simp)
    have hne : (b == c) = false := by
      rw [beq_eq_false_iff_ne]
      intro e
      subst e
      omega
    rw [Lib.indexByte, hne, ih (fun x hx => h x (by simp [hx]))]
    rfl
theorem ibyte_none (s : ByteArray) (hs : ∀ b ∈ s.data.toList, b.toNat < 128) (c : UInt8) (hc : 128 ≤ c.toNat) (w : World) :
    Calls Tryd.prog 55 #[.string s, .int .u8 c.toNat] w fun e w' => e = .returned (.int .i64 (-1)) ∧ w' = w := by
  have h := Tryd.strings_IndexByte s c.toNat w
  have e : (c.toNat : Int).toNat.toUInt8 = c := by simp
  rw [e, ib_none _ _ hs hc] at h
  exact h

theorem valid_sgn {v : Int} (h : Sgn v) : Utf8.valid v = true := by
  rw [validRune_eq]
  unfold validRune
  simp
  obtain ⟨a, b, c⟩ := h
  omega
theorem lvalid_sgn {v : Int} (h : Sgn v) : Lib.validRune v = true := by
  unfold Lib.validRune
  obtain ⟨a, b, c⟩ := h
  simp
  omega

set_option maxHeartbeats 1000000 in
set_option maxRecDepth 100000 in
theorem idx_two (v : Int) (h : Sgn v) (h1 : 128 ≤ v) (hne : v ≠ 65533) (rs : ByteArray) (hrs : Utf8.encode v = rs) (hsz : rs.size = 2) (hl : 128 ≤ rs[1].toNat) (w : World) :
    Calls Tryd.prog 47 #[.string ⟨#[34, 92, 8, 12, 10, 13, 9]⟩, .int .i32 v] w fun e w' => e = .returned (.int .i64 (-1)) ∧ Below w.heap.size w w' := by
  have gv : (v == 65533) = false := beq_eq_false_iff_ne.2 hne
  have hv : Calls Tryd.prog 56 #[.int .i32 v] w fun e w' => e = .returned (.bool true) ∧ w' = w := by
    have := Tryd.utf8_ValidRune v w
    rw [lvalid_sgn h] at this
    exact this
  have HV := Lib.hid hv
  clear hv h hne
  go_enter Tryd.func47, Tryd.ntmps47
  go_wp2_with (go_at_call 56; refine HV.out.mono ?_; rintro e w' ⟨rfl, rfl⟩)
  go_step3
  go_wp2
  refine wp_loop_rounds 1 ?_
  rw [rounds_succ]
  go_wp2
  go_step3
  go_wp2
  have hlast : 1 < rs.size := by omega
  have g1 : (((ByteArray.mk #[34, 92, 8, 12, 10, 13, 9])[1].toNat : Int) != (rs[1].toNat : Int)) = true := by
    rw [bne_iff_ne]; show (92 : Int) ≠ _; omega
  go_quiet (fail)
  have hb := below_drewN (Below.refl w'.heap.size w') nq
  generalize w'.drewN nq = wq at *
  go_wp2
  have hx : ∀ b ∈ ((ByteArray.mk #[34, 92, 8, 12, 10, 13, 9]).extract 2 7).data.toList, b.toNat < 128 := by decide +kernel
  go_quiet ((go_at_call 55; exact Calls.quiet_of_same (ibyte_none _ hx rs[1] hl _)))
  go_wp2
  rw [Exit.noGoto_ret]
  go_wp2
  rw [Exit.noGoto_ret]
  go_ret
  exact ⟨rfl, below_drewN hb _⟩

set_option maxHeartbeats 1000000 in
set_option maxRecDepth 100000 in
theorem idx_three (v : Int) (h : Sgn v) (h1 : 128 ≤ v) (hne : v ≠ 65533) (rs : ByteArray) (hrs : Utf8.encode v = rs) (hsz : rs.size = 3) (hl : 128 ≤ rs[2].toNat) (w : World) :
    Calls Tryd.prog 47 #[.string ⟨#[34, 92, 8, 12, 10, 13, 9]⟩, .int .i32 v] w fun e w' => e = .returned (.int .i64 (-1)) ∧ Below w.heap.size w w' := by
  have gv : (v == 65533) = false := beq_eq_false_iff_ne.2 hne
  have hv : Calls Tryd.prog 56 #[.int .i32 v] w fun e w' => e = .returned (.bool true) ∧ w' = w := by
    have := Tryd.utf8_ValidRune v w
    rw [lvalid_sgn h] at this
    exact this
  have HV := Lib.hid hv
  clear hv h hne
  go_enter Tryd.func47, Tryd.ntmps47
  go_wp2_with (go_at_call 56; refine HV.out.mono ?_; rintro e w' ⟨rfl, rfl⟩)
  go_step3
  go_wp2
  refine wp_loop_rounds 1 ?_
  rw [rounds_succ]
  go_wp2
  go_step3
  go_wp2
  have hlast : 2 < rs.size := by omega
  have g1 : (((ByteArray.mk #[34, 92, 8, 12, 10, 13, 9])[2].toNat : Int) != (rs[2].toNat : Int)) = true := by
    rw [bne_iff_ne]; show (8 : Int) ≠ _; omega
  go_quiet (fail)
  have hb := below_drewN (Below.refl w'.heap.size w') nq
  generalize w'.drewN nq = wq at *
  go_wp2
  have hx : ∀ b ∈ ((ByteArray.mk #[34, 92, 8, 12, 10, 13, 9]).extract 3 7).data.toList, b.toNat < 128 := by decide +kernel
  go_quiet ((go_at_call 55; exact Calls.quiet_of_same (ibyte_none _ hx rs[2] hl _)))
  go_wp2
  rw [Exit.noGoto_ret]
  go_wp2
  rw [Exit.noGoto_ret]
  go_ret
  exact ⟨rfl, below_drewN hb _⟩

set_option maxHeartbeats 1000000 in
set_option maxRecDepth 100000 in
theorem idx_four (v : Int) (h : Sgn v) (h1 : 128 ≤ v) (hne : v ≠ 65533) (rs : ByteArray) (hrs : Utf8.encode v = rs) (hsz : rs.size = 4) (hl : 128 ≤ rs[3].toNat) (w : World) :
    Calls Tryd.prog 47 #[.string ⟨#[34, 92, 8, 12, 10, 13, 9]⟩, .int .i32 v] w fun e w' => e = .returned (.int .i64 (-1)) ∧ Below w.heap.size w w' := by
  have gv : (v == 65533) = false := beq_eq_false_iff_ne.2 hne
  have hv : Calls Tryd.prog 56 #[.int .i32 v] w fun e w' => e = .returned (.bool true) ∧ w' = w := by
    have := Tryd.utf8_ValidRune v w
    rw [lvalid_sgn h] at this
    exact this
  have HV := Lib.hid hv
  clear hv h hne
  go_enter Tryd.func47, Tryd.ntmps47
  go_wp2_with (go_at_call 56; refine HV.out.mono ?_; rintro e w' ⟨rfl, rfl⟩)
  go_step3
  go_wp2
  refine wp_loop_rounds 1 ?_
  rw [rounds_succ]
  go_wp2
  go_step3
  go_wp2
  have hlast : 3 < rs.size := by omega
  have g1 : (((ByteArray.mk #[34, 92, 8, 12, 10, 13, 9])[3].toNat : Int) != (rs[3].toNat : Int)) = true := by
    rw [bne_iff_ne]; show (12 : Int) ≠ _; omega
  go_quiet (fail)
  have hb := below_drewN (Below.refl w'.heap.size w') nq
  generalize w'.drewN nq = wq at *
  go_wp2
  have hx : ∀ b ∈ ((ByteArray.mk #[34, 92, 8, 12, 10, 13, 9]).extract 4 7).data.toList, b.toNat < 128 := by decide +kernel
  go_quiet ((go_at_call 55; exact Calls.quiet_of_same (ibyte_none _ hx rs[3] hl _)))
  go_wp2
  rw [Exit.noGoto_ret]
  go_wp2
  rw [Exit.noGoto_ret]
  go_ret
  exact ⟨rfl, below_drewN hb _⟩


theorem esc_ascii : ∀ k : Nat, k < 7 → ∃ h : k < (ByteArray.mk #[34, 92, 8, 12, 10, 13, 9]).size, ((ByteArray.mk #[34, 92, 8, 12, 10, 13, 9])[k]'h).toNat < 128 := by decide

set_option maxHeartbeats 1000000 in
set_option maxRecDepth 100000 in
theorem idx_strange (w : World) :
    Calls Tryd.prog 47 #[.string ⟨#[34, 92, 8, 12, 10, 13, 9]⟩, .int .i32 65533] w fun e w' => e = .returned (.int .i64 (-1)) ∧ Below w.heap.size w w' := by
  go_enter Tryd.func47, Tryd.ntmps47
  go_wp2
  go_loopw [] (fun wr => ∃ k : Nat, k ≤ 7 ∧ wr = w.iter ⟨#[34, 92, 8, 12, 10, 13, 9]⟩ k) (fun wr => 7 - wr.iterPos w.heap.size)
  case atStart => exact ⟨0, by omega, rfl⟩
  case round =>
    obtain ⟨k, hk, rfl⟩ := hrel
    by_cases hlt : k < 7
    · obtain ⟨h1, h2⟩ := esc_ascii k hlt
      have hnx := fun ty => run_next_ascii (P := Tryd.prog) w ⟨#[34, 92, 8, 12, 10, 13, 9]⟩ k ty h1 h2
      have hne : ((((ByteArray.mk #[34, 92, 8, 12, 10, 13, 9])[k]'h1).toNat : Int) == 65533) = false := beq_eq_false_iff_ne.2 (by omega)
      go_wp2
      go_roundw
      case rel => exact ⟨k + 1, by omega, rfl⟩
      case measure => simp; omega
    · obtain rfl : k = 7 := by omega
      have hnx := fun ty => run_next_end (P := Tryd.prog) w ⟨#[34, 92, 8, 12, 10, 13, 9]⟩ 7 ty (by decide)
      go_wp2
      go_ret
      exact ⟨rfl, (Below.refl _ _).alloc (Nat.le_refl _) _⟩

/-- IndexRune, of every sign. -/
theorem idx_any (v : Int) (h : Sgn v) (w : World) :
    Calls Tryd.prog 47 #[.string ⟨#[34, 92, 8, 12, 10, 13, 9]⟩, .int .i32 v] w fun e w' => e = .returned (.int .i64 (idxI v)) ∧ Below w.heap.size w w' := by
  by_cases hs : v < 128
  · refine (idx_small v h.1 hs w).mono ?_
    rintro e w' ⟨rfl, rfl⟩
    exact ⟨rfl, Below.refl _ _⟩
  have hi : idxI v = -1 := by
    unfold idxI
    rw [if_neg (by omega), if_neg (by omega), if_neg (by omega), if_neg (by omega), if_neg (by omega), if_neg (by omega), if_neg (by omega)]
  rw [hi]
  by_cases hf : v = 65533
  · subst hf
    exact idx_strange w
  have h8 : 128 ≤ v := by omega
  obtain ⟨h2, h4, hl⟩ := encode_facts v (valid_sgn h) h8
  generalize hrs : Utf8.encode v = rs at *
  have hh : rs.size = 2 ∨ rs.size = 3 ∨ rs.size = 4 := by omega
  rcases hh with e | e | e
  · have := hl (by omega)
    simp only [e] at this
    exact idx_two v h h8 hf rs hrs e this w
  · have := hl (by omega)
    simp only [e] at this
    exact idx_three v h h8 hf rs hrs e this w
  · have := hl (by omega)
    simp only [e] at this
    exact idx_four v h h8 hf rs hrs e this w

end Go.Proofs.YtgcknlfpedanpaaDoor

namespace Go.Proofs.YtgcknlfpedanpaaDoor
open Go.RowKit

/-- It lasts. -/
def Lasts (T : World → Prop) : Prop := ∀ w w', T w → Below w.heap.size w w' → T w'

end Go.Proofs.YtgcknlfpedanpaaDoor

namespace Go.Proofs.YtgcknlfpedanpaaDoor
open Go.RowKit
set_option linter.unusedVariables false

/-- What was written since w. -/
def Wr (w : World) (b : Nat) (F : Nat → Prop) (l : List UInt8) (w' : World) : Prop := BldS w' b (fun k => F k ∨ w.heap.size ≤ k) l ∧ Touch F w w'

section
variable {w w1 w2 : World} {b : Nat} {F : Nat → Prop} {l l1 l2 : List UInt8}
theorem Wr.start (h : BldS w b F l) (hb : Below w.heap.size w w1) : Wr w b F l w1 :=
  ⟨(h.stay (G := fun k => w.heap.size ≤ k) (Touch.of_below hb (fun k _ h => h)) (fun k hk _ e => by omega)).mono (fun _ h => .inl h), Touch.of_new hb⟩
theorem Wr.more (h : Wr w b F l1 w1) (g : Wr w1 b (fun k => F k ∨ w.heap.size ≤ k) l2 w2) : Wr w b F l2 w2 := by
  have hs := h.2.size
  refine ⟨g.1.mono (fun k hk => ?_), h.2.trans g.2 (fun k hk e => e.elim id (fun h => by omega))⟩
  rcases hk with (h | h) | h
  · exact .inl h
  · exact .inr h
  · exact .inr (by omega)
end

theorem writeByte_num (b : Nat) (F : Nat → Prop) (l : List UInt8) (c : UInt8) (x : Int) (hx : (c.toNat : Int) = x) (w : World) (h : BldS w b F l) (hlen : l.length ≤ 140000000000000) :
    Calls Tryd.prog 33 #[.pointer (some ⟨b, 0, none⟩), .int .u8 x] w fun e w' => e = .returned .nilIface ∧ Wr w b F (l ++ [c]) w' := by
  subst hx
  exact (writeByte_any b F l c w h hlen).mono fun e w' h => h
theorem writeRune_of (b : Nat) (F : Nat → Prop) (l : List UInt8) (v : Int) (hv : Sgn v) (w : World) (h : BldS w b F l) (hlen : l.length ≤ 130000000000000) :
    Calls Tryd.prog 49 #[.pointer (some ⟨b, 0, none⟩), .int .i32 v] w fun e w' => e = .returned (.tuple #[.int .i64 (ofB v).length, .nilIface]) ∧ Wr w b F (l ++ ofB v) w' := by
  have := writeRune_any b F l v hv w h hlen
  rw [ofB_enc hv] at this
  exact this.mono fun e w' h => h
theorem writeString_of (b : Nat) (F : Nat → Prop) (l m : List UInt8) (s : ByteArray) (hs : s.data.toList = m) (w : World) (h : BldS w b F l) (hlen : l.length + s.size ≤ 140000000000000) :
    Calls Tryd.prog 19 #[.pointer (some ⟨b, 0, none⟩), .string s] w fun e w' => e = .returned (.tuple #[.int .i64 s.size, .nilIface]) ∧ Wr w b F (l ++ m) w' := by
  subst hs
  exact (writeString_any b F l s w h hlen).mono fun e w' h => h

theorem low_is (n : Int) (h0 : 0 ≤ n) (h9 : n ≤ 15) : lowI n = (lowB n.toNat).toNat := by
  obtain ⟨k, rfl⟩ := Int.eq_ofNat_of_zero_le h0
  rw [Int.toNat_natCast, low_toNat k (by omega)]
  unfold lowI
  (repeat' split) <;> omega
theorem lower_of (n : Int) (h0 : 0 ≤ n) (h9 : n ≤ 15) (k : Nat) (hk : n.toNat = k) (w : World) :
    Calls Tryd.prog 48 #[.int .i64 n] w fun e w' => e = .returned (.int .u8 (lowB k).toNat) ∧ w = w' := by
  subst hk
  rw [← low_is n h0 h9]
  exact lower_any n w

/-- The signs that have an escape of one letter. -/
theorem idx_cases (v : Int) : (v = 34 ∨ v = 92 ∨ v = 8 ∨ v = 12 ∨ v = 10 ∨ v = 13 ∨ v = 9) ∨ idxI v = -1 := by
  unfold idxI
  (repeat' split) <;> omega

theorem BldS.bound {w : World} {b : Nat} {F : Nat → Prop} {l : List UInt8} (h : BldS w b F l) : BldS w b (fun k => F k ∧ k < w.heap.size) l := by
  obtain ⟨p, v, hp, ho, hr, hb, hg⟩ := h
  exact ⟨p, v, hp, ho, hr, ⟨hb, ho.inside⟩, fun g e => ⟨⟨(hg g e).1, (hr.lt g e).2⟩, (hg g e).2⟩⟩
theorem touch_iterAt (w : World) (N : Nat) (s : ByteArray) (pos : Nat) : Touch (fun k => k = N) w (w.iterAt N s pos) :=
  ⟨rfl, rfl, rfl, by rw [Lib.iterAt_size]; exact Nat.le_refl _, fun k _ hn => Lib.iterAt_other w N k s pos hn⟩

/-- Where Put's loop is. -/
def RelPutP (s : ByteArray) (W : World) (N : Nat) (wr : World) : Prop :=
  ∃ (pos f : Nat) (acc : List UInt8), BldS wr W.heap.size (fun k => W.heap.size ≤ k ∧ k ≠ N) acc ∧ wr.heap[N]? = some (.stringIter s pos) ∧ Below W.heap.size W wr ∧
    acc ++ putGo f (s.data.toList.drop pos) = 34 :: putL s.data.toList ∧ s.size ≤ pos + f ∧ pos ≤ s.size ∧ acc.length ≤ 6 * pos + 1

end Go.Proofs.YtgcknlfpedanpaaDoor
