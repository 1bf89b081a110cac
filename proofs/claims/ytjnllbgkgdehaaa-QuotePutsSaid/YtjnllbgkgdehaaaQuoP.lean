/- Package quote's Put: a text's string, sign by sign. -/
import Derived.Test.YtjnllbgkgdehaaaIdx
import Derived.Test.YtjnllbgkgdehaaaLaw06
namespace Go.Proofs.Ytjnllbgkgdehaaa
open Go.RowKit
set_option linter.unusedVariables false

/-- What was written since w. -/
def Wr (w : World) (b : Nat) (F : Nat → Prop) (l : List UInt8) (w' : World) : Prop := BldS w' b (fun k => F k ∨ w.heap.size ≤ k) l ∧ Touch F w w'

section
variable {w w1 w2 : World} {b : Nat} {F : Nat → Prop} {l l1 l2 : List UInt8}
theorem Wr.start (h : BldS w b F l) (hb : Below w.heap.size w w1) : Wr w b F l w1 :=
  ⟨(h.stay (G := fun k => w.heap.size ≤ k) (Touch.of_below hb (fun k _ h => h)) (fun k hk _ e => by omega)).mono (fun _ h => .inl h), Touch.of_new hb⟩
theorem Wr.more (h : Wr w b F l1 w1) (g : Wr w1 b (fun k => F k ∨ w.heap.size ≤ k) l2 w2) : Wr w b F l2 w2 := by
  have hs := h.2.size
  refine ⟨g.1.mono (fun k hk => ?_), h.2.trans g.2 (fun k hk e => e.elim id (fun h => by omega))⟩
  rcases hk with (h | h) | h
  · exact .inl h
  · exact .inr h
  · exact .inr (by omega)
end

theorem writeByte_num (b : Nat) (F : Nat → Prop) (l : List UInt8) (c : UInt8) (x : Int) (hx : (c.toNat : Int) = x) (w : World) (h : BldS w b F l) (hlen : l.length ≤ 140000000000000) :
    Calls Try.prog 10 #[.pointer (some ⟨b, 0, none⟩), .int .u8 x] w fun e w' => e = .returned .nilIface ∧ Wr w b F (l ++ [c]) w' := by
  subst hx
  exact (writeByte_any b F l c w h hlen).mono fun e w' h => h
theorem writeRune_of (b : Nat) (F : Nat → Prop) (l : List UInt8) (v : Int) (hv : Sgn v) (w : World) (h : BldS w b F l) (hlen : l.length ≤ 130000000000000) :
    Calls Try.prog 22 #[.pointer (some ⟨b, 0, none⟩), .int .i32 v] w fun e w' => e = .returned (.tuple #[.int .i64 (ofB v).length, .nilIface]) ∧ Wr w b F (l ++ ofB v) w' := by
  have := writeRune_any b F l v hv w h hlen
  rw [ofB_enc hv] at this
  exact this.mono fun e w' h => h
theorem writeString_of (b : Nat) (F : Nat → Prop) (l m : List UInt8) (s : ByteArray) (hs : s.data.toList = m) (w : World) (h : BldS w b F l) (hlen : l.length + s.size ≤ 140000000000000) :
    Calls Try.prog 20 #[.pointer (some ⟨b, 0, none⟩), .string s] w fun e w' => e = .returned (.tuple #[.int .i64 s.size, .nilIface]) ∧ Wr w b F (l ++ m) w' := by
  subst hs
  exact (writeString_any b F l s w h hlen).mono fun e w' h => h

theorem low_is (n : Int) (h0 : 0 ≤ n) (h9 : n ≤ 15) : lowI n = (lowB n.toNat).toNat := by
  obtain ⟨k, rfl⟩ := Int.eq_ofNat_of_zero_le h0
  rw [Int.toNat_natCast, low_toNat k (by omega)]
  unfold lowI
  (repeat' split) <;> omega
theorem lower_of (n : Int) (h0 : 0 ≤ n) (h9 : n ≤ 15) (k : Nat) (hk : n.toNat = k) (w : World) :
    Calls Try.prog 21 #[.int .i64 n] w fun e w' => e = .returned (.int .u8 (lowB k).toNat) ∧ w = w' := by
  subst hk
  rw [← low_is n h0 h9]
  exact lower_any n w

/-- The signs that have an escape of one letter. -/
theorem idx_cases (v : Int) : (v = 34 ∨ v = 92 ∨ v = 8 ∨ v = 12 ∨ v = 10 ∨ v = 13 ∨ v = 9) ∨ idxI v = -1 := by
  unfold idxI
  (repeat' split) <;> omega

set_option maxHeartbeats 2000000 in
set_option maxRecDepth 100000 in
theorem putSign_any (b : Nat) (F : Nat → Prop) (l : List UInt8) (v : Int) (hv : Sgn v) (w : World) (h : BldS w b F l) (hlen : l.length ≤ 100000000000000) :
    Calls Try.prog 11 #[.pointer (some ⟨b, 0, none⟩), .int .i32 v] w fun e w' => e = .returned (.tuple #[]) ∧ Wr w b F (l ++ pieceR v) w' := by
  have HI := idx_any v hv w
  have HH := Lib.hid h
  have t1 : True := trivial
  clear h
  rcases idx_cases v with hh | hi
  · rcases hh with rfl | rfl | rfl | rfl | rfl | rfl | rfl
    all_goals
      replace HI := Lib.hid HI
      clear hv
    · have hp : pieceR 34 = [92, 34] := by decide +kernel
      rw [hp]
      clear hp
      go_enter Try.func11, Try.ntmps11
      go_wp2_with (first
        | (go_at_call 19; refine HI.out.mono ?_; rintro e w1 ⟨rfl, hb1⟩; have h1 := Wr.start HH.out hb1; have H1 := Lib.hid h1; clear h1)
        | (go_at_call 10; clear t1; refine (writeByte_num b _ _ 92 92 rfl _ H1.out.1 (by omega)).mono ?_; rintro e w2 ⟨rfl, h2⟩; have H2 := Lib.hid (H1.out.more h2); clear h2)
        | (go_at_call 10; refine (writeByte_num b _ _ 34 _ rfl _ H2.out.1 (by simp; omega)).mono ?_; rintro e w3 ⟨rfl, h3⟩; have H3 := Lib.hid (H2.out.more h3); clear h3))
      go_end0
      exact ⟨rfl, by have := H3.out; rw [List.append_assoc] at this; exact this⟩
    · have hp : pieceR 92 = [92, 92] := by decide +kernel
      rw [hp]
      clear hp
      go_enter Try.func11, Try.ntmps11
      go_wp2_with (first
        | (go_at_call 19; refine HI.out.mono ?_; rintro e w1 ⟨rfl, hb1⟩; have h1 := Wr.start HH.out hb1; have H1 := Lib.hid h1; clear h1)
        | (go_at_call 10; clear t1; refine (writeByte_num b _ _ 92 92 rfl _ H1.out.1 (by omega)).mono ?_; rintro e w2 ⟨rfl, h2⟩; have H2 := Lib.hid (H1.out.more h2); clear h2)
        | (go_at_call 10; refine (writeByte_num b _ _ 92 _ rfl _ H2.out.1 (by simp; omega)).mono ?_; rintro e w3 ⟨rfl, h3⟩; have H3 := Lib.hid (H2.out.more h3); clear h3))
      go_end0
      exact ⟨rfl, by have := H3.out; rw [List.append_assoc] at this; exact this⟩
    · have hp : pieceR 8 = [92, 98] := by decide +kernel
      rw [hp]
      clear hp
      go_enter Try.func11, Try.ntmps11
      go_wp2_with (first
        | (go_at_call 19; refine HI.out.mono ?_; rintro e w1 ⟨rfl, hb1⟩; have h1 := Wr.start HH.out hb1; have H1 := Lib.hid h1; clear h1)
        | (go_at_call 10; clear t1; refine (writeByte_num b _ _ 92 92 rfl _ H1.out.1 (by omega)).mono ?_; rintro e w2 ⟨rfl, h2⟩; have H2 := Lib.hid (H1.out.more h2); clear h2)
        | (go_at_call 10; refine (writeByte_num b _ _ 98 _ rfl _ H2.out.1 (by simp; omega)).mono ?_; rintro e w3 ⟨rfl, h3⟩; have H3 := Lib.hid (H2.out.more h3); clear h3))
      go_end0
      exact ⟨rfl, by have := H3.out; rw [List.append_assoc] at this; exact this⟩
    · have hp : pieceR 12 = [92, 102] := by decide +kernel
      rw [hp]
      clear hp
      go_enter Try.func11, Try.ntmps11
      go_wp2_with (first
        | (go_at_call 19; refine HI.out.mono ?_; rintro e w1 ⟨rfl, hb1⟩; have h1 := Wr.start HH.out hb1; have H1 := Lib.hid h1; clear h1)
        | (go_at_call 10; clear t1; refine (writeByte_num b _ _ 92 92 rfl _ H1.out.1 (by omega)).mono ?_; rintro e w2 ⟨rfl, h2⟩; have H2 := Lib.hid (H1.out.more h2); clear h2)
        | (go_at_call 10; refine (writeByte_num b _ _ 102 _ rfl _ H2.out.1 (by simp; omega)).mono ?_; rintro e w3 ⟨rfl, h3⟩; have H3 := Lib.hid (H2.out.more h3); clear h3))
      go_end0
      exact ⟨rfl, by have := H3.out; rw [List.append_assoc] at this; exact this⟩
    · have hp : pieceR 10 = [92, 110] := by decide +kernel
      rw [hp]
      clear hp
      go_enter Try.func11, Try.ntmps11
      go_wp2_with (first
        | (go_at_call 19; refine HI.out.mono ?_; rintro e w1 ⟨rfl, hb1⟩; have h1 := Wr.start HH.out hb1; have H1 := Lib.hid h1; clear h1)
        | (go_at_call 10; clear t1; refine (writeByte_num b _ _ 92 92 rfl _ H1.out.1 (by omega)).mono ?_; rintro e w2 ⟨rfl, h2⟩; have H2 := Lib.hid (H1.out.more h2); clear h2)
        | (go_at_call 10; refine (writeByte_num b _ _ 110 _ rfl _ H2.out.1 (by simp; omega)).mono ?_; rintro e w3 ⟨rfl, h3⟩; have H3 := Lib.hid (H2.out.more h3); clear h3))
      go_end0
      exact ⟨rfl, by have := H3.out; rw [List.append_assoc] at this; exact this⟩
    · have hp : pieceR 13 = [92, 114] := by decide +kernel
      rw [hp]
      clear hp
      go_enter Try.func11, Try.ntmps11
      go_wp2_with (first
        | (go_at_call 19; refine HI.out.mono ?_; rintro e w1 ⟨rfl, hb1⟩; have h1 := Wr.start HH.out hb1; have H1 := Lib.hid h1; clear h1)
        | (go_at_call 10; clear t1; refine (writeByte_num b _ _ 92 92 rfl _ H1.out.1 (by omega)).mono ?_; rintro e w2 ⟨rfl, h2⟩; have H2 := Lib.hid (H1.out.more h2); clear h2)
        | (go_at_call 10; refine (writeByte_num b _ _ 114 _ rfl _ H2.out.1 (by simp; omega)).mono ?_; rintro e w3 ⟨rfl, h3⟩; have H3 := Lib.hid (H2.out.more h3); clear h3))
      go_end0
      exact ⟨rfl, by have := H3.out; rw [List.append_assoc] at this; exact this⟩
    · have hp : pieceR 9 = [92, 116] := by decide +kernel
      rw [hp]
      clear hp
      go_enter Try.func11, Try.ntmps11
      go_wp2_with (first
        | (go_at_call 19; refine HI.out.mono ?_; rintro e w1 ⟨rfl, hb1⟩; have h1 := Wr.start HH.out hb1; have H1 := Lib.hid h1; clear h1)
        | (go_at_call 10; clear t1; refine (writeByte_num b _ _ 92 92 rfl _ H1.out.1 (by omega)).mono ?_; rintro e w2 ⟨rfl, h2⟩; have H2 := Lib.hid (H1.out.more h2); clear h2)
        | (go_at_call 10; refine (writeByte_num b _ _ 116 _ rfl _ H2.out.1 (by simp; omega)).mono ?_; rintro e w3 ⟨rfl, h3⟩; have H3 := Lib.hid (H2.out.more h3); clear h3))
      go_end0
      exact ⟨rfl, by have := H3.out; rw [List.append_assoc] at this; exact this⟩
  · rw [hi] at HI
    replace HI := Lib.hid HI
    by_cases h32 : v < 32
    · have h0 : 0 ≤ v := hv.1
      have hp : pieceR v = [92, 117, 48, 48] ++ [lowB (v.toNat / 16)] ++ [lowB (v.toNat % 16)] := by
        unfold pieceR
        rw [hi, if_neg (by omega), if_pos h32]
        rfl
      rw [hp]
      have HP1 := Lib.hid (fun w => lower_of (v / 16) (by omega) (by omega) (v.toNat / 16) (by omega) w)
      have HP2 := Lib.hid (fun w => lower_of (v % 16) (by omega) (by omega) (v.toNat % 16) (by omega) w)
      generalize lowB (v.toNat / 16) = c1 at *
      generalize lowB (v.toNat % 16) = c2 at *
      have t2 : True := trivial
      clear hp hi hv
      go_enter Try.func11, Try.ntmps11
      go_wp2_with (first
        | (go_at_call 19; refine HI.out.mono ?_; rintro e w1 ⟨rfl, hb1⟩; have h1 := Wr.start HH.out hb1; have H1 := Lib.hid h1; clear h1)
        | (go_at_call 20; refine (writeString_of b _ _ [92, 117, 48, 48] _ rfl _ H1.out.1 (by show l.length + 4 ≤ _; omega)).mono ?_; rintro e w2 ⟨rfl, h2⟩; have H2 := Lib.hid (H1.out.more h2); clear h2)
        | (go_at_call 21; clear t1; refine (HP1.out _).mono ?_; rintro e w' ⟨rfl, rfl⟩)
        | (go_at_call 10; clear t2; refine (writeByte_num b _ _ c1 _ rfl _ H2.out.1 (by simp; omega)).mono ?_; rintro e w3 ⟨rfl, h3⟩; have H3 := Lib.hid (H2.out.more h3); clear h3)
        | (go_at_call 21; refine (HP2.out _).mono ?_; rintro e w' ⟨rfl, rfl⟩)
        | (go_at_call 10; refine (writeByte_num b _ _ c2 _ rfl _ H3.out.1 (by simp; omega)).mono ?_; rintro e w4 ⟨rfl, h4⟩; have H4 := Lib.hid (H3.out.more h4); clear h4))
      go_end0
      exact ⟨rfl, by have := H4.out; simp only [List.append_assoc] at this ⊢; exact this⟩
    · have hp : pieceR v = ofB v := by
        unfold pieceR
        rw [hi, if_neg (by omega), if_neg h32]
      rw [hp]
      have h32' : 32 ≤ v := by omega
      have HV := Lib.hid hv
      clear hp hi hv h32
      go_enter Try.func11, Try.ntmps11
      go_wp2_with (first
        | (go_at_call 19; refine HI.out.mono ?_; rintro e w1 ⟨rfl, hb1⟩; have h1 := Wr.start HH.out hb1; have H1 := Lib.hid h1; clear h1)
        | (go_at_call 22; refine (writeRune_of b _ _ v HV.out _ H1.out.1 (by omega)).mono ?_; rintro e w2 ⟨rfl, h2⟩; have H2 := Lib.hid (H1.out.more h2); clear h2))
      go_end0
      exact ⟨rfl, H2.out⟩


theorem BldS.bound {w : World} {b : Nat} {F : Nat → Prop} {l : List UInt8} (h : BldS w b F l) : BldS w b (fun k => F k ∧ k < w.heap.size) l := by
  obtain ⟨p, v, hp, ho, hr, hb, hg⟩ := h
  exact ⟨p, v, hp, ho, hr, ⟨hb, ho.inside⟩, fun g e => ⟨⟨(hg g e).1, (hr.lt g e).2⟩, (hg g e).2⟩⟩
theorem touch_iterAt (w : World) (N : Nat) (s : ByteArray) (pos : Nat) : Touch (fun k => k = N) w (w.iterAt N s pos) :=
  ⟨rfl, rfl, rfl, by rw [Lib.iterAt_size]; exact Nat.le_refl _, fun k _ hn => Lib.iterAt_other w N k s pos hn⟩

/-- Where Put's loop is. -/
def RelPutP (s : ByteArray) (W : World) (N : Nat) (wr : World) : Prop :=
  ∃ (pos f : Nat) (acc : List UInt8), BldS wr W.heap.size (fun k => W.heap.size ≤ k ∧ k ≠ N) acc ∧ wr.heap[N]? = some (.stringIter s pos) ∧ Below W.heap.size W wr ∧
    acc ++ putGo f (s.data.toList.drop pos) = 34 :: putL s.data.toList ∧ s.size ≤ pos + f ∧ pos ≤ s.size ∧ acc.length ≤ 6 * pos + 1

set_option maxHeartbeats 2000000 in
set_option maxRecDepth 100000 in
theorem put_any (s : ByteArray) (W : World) (hs : s.size ≤ 1000000000) :
    Calls Try.prog 6 #[.string s] W fun e w' => e = .returned (.string ⟨(34 :: putL s.data.toList ++ [34]).toArray⟩) ∧ Below W.heap.size W w' := by
  have t1 : True := trivial
  have b0 := BldS.fresh W (fun k => W.heap.size ≤ k) (Nat.le_refl _)
  have B0 := Lib.hid b0
  clear b0
  go_enter Try.func6, Try.ntmps6
  go_wp2_with (go_at_call 10; clear t1; refine (writeByte_num _ _ [] 34 _ rfl _ B0.out (by simp)).mono ?_; rintro e w1 ⟨rfl, h1⟩; have H1 := Lib.hid h1; clear h1)
  have hNB : W.heap.size < w1.heap.size := by have := H1.out.2.size; simp at this; omega
  go_loopw [] (fun wr => RelPutP s W w1.heap.size wr) (fun wr => s.size - wr.iterPos w1.heap.size)
  case atStart =>
    have hb1 := H1.out.1.bound
    refine ⟨0, s.size, [34], ?_, ?_, ?_, rfl, by omega, by omega, by simp⟩
    · refine (BldS.stay (G := fun k => w1.heap.size ≤ k) hb1 (Touch.of_below ((Below.refl _ _).alloc (Nat.le_refl _) _) (fun k _ h => by omega)) (fun k hk h e => by omega)).mono (fun k hk => ⟨?_, ?_⟩)
      · rcases hk.1 with h | h
        · exact h
        · simp at h; omega
      · have := hk.2; omega
    · have := World.iter_heap w1 s 0
      exact this
    · have hT := H1.out.2
      have hb := hT.below (B := W.heap.size) (fun k _ h => h) (by simp)
      exact (((Below.refl _ W).alloc (Nat.le_refl _) _).trans hb).alloc (by omega) _
  case round =>
    obtain ⟨pos, f, acc, hB, hit, hbel, hacc, hfu, hps, hal⟩ := hrel
    have hNw : w1.heap.size < wr.heap.size := (Array.getElem?_eq_some_iff.1 hit).1
    by_cases hp : pos < s.size
    · have hnx : ∀ ty, (Instr.next (.pointer (some ⟨w1.heap.size, 0, none⟩)) true ty).run Try.prog wr = _ := fun ty => Lib.run_next_any_at wr w1.heap.size s pos ty hit hp
      obtain ⟨f, rfl⟩ : ∃ g, f = g + 1 := ⟨f - 1, by omega⟩
      obtain ⟨hst, hsg, hw1, hw2⟩ := dput_step s pos f hp
      rw [hst] at hacc
      obtain ⟨v, hv⟩ : ∃ v : Int, ((Utf8.decode s pos).1 : Int) = v := ⟨_, rfl⟩
      obtain ⟨d, hd⟩ : ∃ d, (Utf8.decode s pos).2 = d := ⟨_, rfl⟩
      rw [hv, hd] at hacc
      rw [hd] at hw1 hw2
      rw [hv] at hsg
      have hti := touch_iterAt wr w1.heap.size s (pos + d)
      have hB2 := hB.stay hti (fun k _ h e => h.2 e)
      have hit2 := Lib.iterAt_heap wr w1.heap.size s pos (pos + d) hit
      have hbel2 := hbel.trans (hti.below (B := W.heap.size) (fun k _ e => by omega) hbel.size)
      have hs2 : (wr.iterAt w1.heap.size s (pos + d)).heap.size = wr.heap.size := Lib.iterAt_size _ _ _ _
      have HP := Lib.hid (putSign_any W.heap.size _ acc v hsg (wr.iterAt w1.heap.size s (pos + d)) hB2 (by omega))
      have hpl := pieceR_len v
      replace hacc := Lib.hid hacc
      replace hit2 := Lib.hid hit2
      replace hs2 := Lib.hid hs2
      have HPR := Lib.hid (show wr.iterPos w1.heap.size = pos by simp [World.iterPos, hit])
      clear hst hsg hB hB2 hti hit
      go_wp2_with (go_at_call 11; refine HP.out.mono ?_; rintro e w2 ⟨rfl, h2⟩; have H2 := Lib.hid h2; clear h2)
      go_roundw
      case rel =>
        obtain ⟨hB3, hT3⟩ := H2.out
        have hs2 := hs2.out
        have hr : RelPutP s W w1.heap.size w2 := by
          refine ⟨pos + d, f, acc ++ pieceR v, hB3.mono (fun k hk => ?_), ?_, ?_, ?_, by omega, hw2, by simp; omega⟩
          · rcases hk with h | h
            · exact h
            · exact ⟨by omega, by omega⟩
          · exact (hT3.block w1.heap.size (by omega) (fun e => e.2 rfl)).trans hit2.out
          · exact hbel2.trans (hT3.below (fun k _ h => h.1) (by omega))
          · rw [List.append_assoc]; exact hacc.out
        exact hr
      case measure =>
        have hT3 := H2.out.2
        have e := (hT3.block w1.heap.size (by rw [hs2.out]; omega) (fun e => e.2 rfl)).trans hit2.out
        have e2 : w2.iterPos w1.heap.size = pos + d := by simp [World.iterPos, e]
        rw [e2, HPR.out]
        omega
    · have hnx : ∀ ty, (Instr.next (.pointer (some ⟨w1.heap.size, 0, none⟩)) true ty).run Try.prog wr = _ := fun ty => Lib.run_next_end_at wr w1.heap.size s pos ty hit hp
      have hnil : s.data.toList.drop pos = [] := List.drop_of_length_le (by show s.size ≤ pos; omega)
      rw [hnil, putGo_nil, List.append_nil] at hacc
      subst hacc
      have t2 : True := trivial
      have HB := Lib.hid hB
      have hlen : (34 :: putL s.data.toList).length ≤ 7000000000 := by omega
      replace hlen := Lib.hid hlen
      clear hB hit hal hfu hnil
      go_wp2_with (first
        | (go_at_call 10; clear t2; refine (writeByte_num _ _ _ 34 _ rfl _ HB.out (by have := hlen.out; omega)).mono ?_; rintro e w2 ⟨rfl, h2⟩; have H2 := Lib.hid h2; clear h2; have hz2 := H2.out.2.size)
        | (go_at_call 12; refine (Try.Builder_String_any_k W.heap.size _ _ _ (BldS.is H2.out.1 (B := W.heap.size) (fun k hk => by rcases hk with h | h; exact h.1; omega)) (by omega)).mono ?_; rintro e w3 ⟨rfl, _, hb3, _⟩))
      go_ret
      exact ⟨rfl, (hbel.trans (H2.out.2.below (fun k _ h => h.1) hbel.size)).trans hb3⟩

end Go.Proofs.Ytjnllbgkgdehaaa
