/- The walks of the statements of layer 5: LiteralWalks, LiteralKinds. -/
import Derived.Test.YtopodhmchoibfaaDoorRef05
import Derived.Deep.QuietTactic
namespace Go.Proofs.YtopodhmchoibfaaDoor
open Go.RowKit

theorem Tab.inside {w : World} (h : Tab w) : 0 < w.heap.size := by
  obtain ⟨t, h⟩ := h
  exact h.inside
theorem Tab.turned {w w' : World} {b : Nat} (h : Tab w) (ht : Turned b w w') (hb : 0 < b) : Tab w' := by
  have hi := h.inside
  obtain ⟨t, h⟩ := h
  exact ⟨t, (ht.2.2.2.2 0 hi (by omega)).trans h⟩

theorem laidOut0 : laidOutB Tryd.prog = true := by kernel_rfl
/-- What the row's list gives. -/
theorem tab_of_laid {W : World} (h : laidMetH Tryd.prog Rows.literalWalksRow.laid W) : Tab W :=
  laid_own laidOut0 (by kernel_rfl) h (List.mem_cons_self ..) (l := [.string ⟨[116, 114, 117, 101].toArray⟩, .int .i64 1, .string ⟨[102, 97, 108, 115, 101].toArray⟩, .int .i64 1, .string ⟨[110, 117, 108, 108].toArray⟩, .int .i64 0]) rfl (by simp) (by kernel_rfl)

/-- One byte on, all known. -/
theorem lstep_lit (P P' : ByteArray) (c : UInt8) (n r : Int) (hn : (c.toNat : Int) = n) (hr : refL (P.data.toList ++ [c]) = r) (h2 : r ≠ 2) (hP : P ++ ⟨#[c]⟩ = P') (b : Nat) (w : World) (h : WalkAt w b P) (hT : Tab w) :
    Calls Tryd.prog 7 #[.pointer (some ⟨b, 0, none⟩), .int .u8 n] w fun e w' => e = .returned (.int .i64 r) ∧ WalkAt w' b P' ∧ Turned b w w' := by
  have := lstep_on b P c (by rw [hr]; exact h2) w h hT
  rw [hr, hP, hn] at this
  exact this

set_option maxHeartbeats 1000000 in
theorem alive5_any (W : World) (hT : Tab W) :
    Calls Tryd.prog 5 #[] W fun e w' => e = .returned (.bool true) ∧ Below W.heap.size W w' := by
  have hi := hT.inside
  have hw := WalkAt.fresh W
  have hT0 := hT.stay ((Below.refl W.heap.size W).alloc (Nat.le_refl _) (.cells #[.string ⟨#[]⟩, .int .i64 0] 24)) hi
  have K1 := Lib.hid (lstep_lit ⟨#[]⟩ ⟨#[116]⟩ 116 116 0 rfl (by decide) (by decide) (by decide) W.heap.size)
  have K2 := Lib.hid (lstep_lit ⟨#[116]⟩ ⟨#[116, 114]⟩ 114 114 0 rfl (by decide) (by decide) (by decide) W.heap.size)
  have K3 := Lib.hid (lstep_lit ⟨#[116, 114]⟩ ⟨#[116, 114, 117]⟩ 117 117 0 rfl (by decide) (by decide) (by decide) W.heap.size)
  have K4 := Lib.hid (lstep_lit ⟨#[116, 114, 117]⟩ ⟨#[116, 114, 117, 101]⟩ 101 101 1 rfl (by decide) (by decide) (by decide) W.heap.size)
  have K5 := Lib.hid (fun w (h : WalkAt w W.heap.size ⟨#[116, 114, 117, 101]⟩) (hT : Tab w) => (lstep_stays W.heap.size ⟨#[116, 114, 117, 101]⟩ 101 (by decide) w h hT : Calls Tryd.prog 7 #[.pointer (some ⟨W.heap.size, 0, none⟩), .int .u8 101] w fun e w' => e = .returned (.int .i64 2) ∧ WalkAt w' W.heap.size ⟨#[116, 114, 117, 101]⟩ ∧ Turned W.heap.size w w'))
  have t1 : True := trivial
  have t2 : True := trivial
  have t3 : True := trivial
  have t4 : True := trivial
  have t5 : True := trivial
  go_enter Tryd.func5, Tryd.ntmps5
  go_wp2_with (first
    | (go_at_call 7; clear t1; refine (K1.out _ hw hT0).mono ?_; rintro e w1 ⟨rfl, h1, u1⟩; have hT1 := hT0.turned u1 hi)
    | (go_at_call 7; clear t2; refine (K2.out _ h1 hT1).mono ?_; rintro e w2 ⟨rfl, h2, u2⟩; have hT2 := hT1.turned u2 hi)
    | (go_at_call 7; clear t3; refine (K3.out _ h2 hT2).mono ?_; rintro e w3 ⟨rfl, h3, u3⟩; have hT3 := hT2.turned u3 hi)
    | (go_at_call 7; clear t4; refine (K4.out _ h3 hT3).mono ?_; rintro e w4 ⟨rfl, h4, u4⟩; have hT4 := hT3.turned u4 hi)
    | (go_at_call 7; clear t5; refine (K5.out _ h4 hT4).mono ?_; rintro e w5 ⟨rfl, h5, u5⟩))

  go_ret
  refine ⟨rfl, Below.trans ((Below.refl W.heap.size W).alloc (Nat.le_refl _) (.cells #[.string ⟨#[]⟩, .int .i64 0] 24)) ?_⟩
  exact ((((u1.trans u2).trans u3).trans u4).trans u5).below (Nat.le_refl _) (by have := hw.inside; omega)

theorem below_drewN {B : Nat} {a w : World} (h : Below B a w) (n : Nat) : Below B a (w.drewN n) := ⟨h.os, h.tape, h.output, h.size, h.block⟩
theorem part_one (s : ByteArray) (k : Nat) (h : k < s.size) : s.extract k (k + 1) = ⟨#[s[k]]⟩ := ba_ext (by
  rw [ByteArray.data_extract, Array.toList_extract, List.extract_eq_take_drop, List.drop_eq_getElem_cons (show k < s.data.toList.length from h), show k + 1 - k = 1 by omega]
  rfl)
theorem one_size (c : UInt8) : (ByteArray.mk #[c]).size = 1 := rfl

/-- Where LiteralWalks' loop is. -/
def RelLW (s : ByteArray) (W wr : World) (b : Nat) (a i : Value) : Prop :=
  ∃ (k : Nat) (P : ByteArray), k ≤ s.size ∧ P.size ≤ k ∧ i = .int .i64 k ∧ a = .string P ∧ WalkAt wr b P ∧ Tab wr ∧ Below W.heap.size W wr

set_option maxRecDepth 100000 in
set_option maxHeartbeats 2000000 in
theorem literalWalks_walk (s : ByteArray) (W : World) (hT : Tab W) (hs : s.size ≤ maxLen) :
    Calls Tryd.prog 3 #[.string s] W fun e w' => e = .returned (.bool true) ∧ Below W.heap.size W w' := by
  unfold maxLen at hs
  by_cases h2 : 100 < (s.size : Int)
  · go_enter Tryd.func3, Tryd.ntmps3
    go_wp2_with (first
      | (go_at_call 5; refine (alive5_any _ hT).mono ?_; rintro e w1 ⟨rfl, hb1⟩))
    go_ret
    exact ⟨rfl, hb1⟩
  have h2' : (s.size : Int) ≤ 100 := by omega
  have hi := hT.inside
  go_enter Tryd.func3, Tryd.ntmps3
  go_wp2_with (first
    | (go_at_call 5; refine (alive5_any _ hT).mono ?_; rintro e w1 ⟨rfl, hb1⟩))
  have z1 := hb1.size
  have hT1 := hT.stay hb1 hi
  go_loopw [4, 5] (fun a i wr => RelLW s W wr w1.heap.size a i) (fun _ i _ => s.size - (intOf i).toNat)
  case atStart => exact ⟨0, ⟨#[]⟩, Nat.zero_le _, Nat.le_refl _, rfl, rfl, WalkAt.fresh _, hT1.stay ((Below.refl w1.heap.size w1).alloc (Nat.le_refl _) _) hT1.inside, hb1.alloc z1 _⟩
  case round =>
    obtain ⟨k, P, hk, hPk, rfl, rfl, hwa, hta, hbel⟩ := hrel
    by_cases hlt : k < s.size
    · have HR := fun w => rstep_any P s[k] w (by omega)
      have hin := hwa.inside
      have gs : (P.toList != P.toList) = false := by simp
      have HW := Lib.hid (fun w h => lword_at w1.heap.size P w h)
      have hbpos : 0 < w1.heap.size := hT1.inside
      by_cases hr : refL (P.data.toList ++ [s[k]]) = 2
      · have HT := Lib.hid (fun w (h : WalkAt w w1.heap.size P) (hT : Tab w) => lstep_stays w1.heap.size P s[k] hr w h hT)
        rw [hr] at HR
        have HR := Lib.hid HR
        clear hr
        generalize P.toList = pl at *
        go_wp2_with (first
          | (go_at_call 6; refine (HR.out _).mono ?_; rintro e w2 ⟨rfl, hb2⟩; have hwa2 := hwa.stay hb2 hin; have hta2 := hta.stay hb2 hta.inside)
          | (go_at_call 7; refine (HT.out _ hwa2 hta2).mono ?_; rintro e w3 ⟨rfl, hwa3, hu3⟩; have hta3 := hta2.turned hu3 hbpos)
          | (go_at_call 8; refine (HW.out _ hwa3).mono ?_; rintro e w4 ⟨rfl, q, rfl⟩))
        go_roundw
        case rel => exact ⟨k + 1, P, hlt, by omega, by go_num, rfl, hwa3, hta3, below_drewN ((hbel.trans (hb2.mono hbel.size)).trans (hu3.below z1 (by have := hwa2.inside; omega))) q⟩
        case measure => simp [intOf]; omega
      · have hP := part_one s k hlt
        have hPs : (P ++ s.extract k (k + 1)).size ≤ k + 1 := by rw [hP, ByteArray.size_append, one_size]; omega
        have HT := fun w (h : WalkAt w w1.heap.size P) (hT : Tab w) => lstep_on w1.heap.size P s[k] hr w h hT
        rw [← hP] at HT
        have HT := Lib.hid HT
        have HR := Lib.hid HR
        have HW2 := Lib.hid (fun w h => lword_at w1.heap.size (P ++ s.extract k (k + 1)) w h)
        have gs2 : ((P ++ s.extract k (k + 1)).toList != (P ++ s.extract k (k + 1)).toList) = false := by simp
        have gr : (refL (P.data.toList ++ [s[k]]) != 2) = true := by simp [hr]
        have gr2 : (refL (P.data.toList ++ [s[k]]) != refL (P.data.toList ++ [s[k]])) = false := by simp
        clear hr HW gs hP
        have hk1 : k + 1 ≤ s.size := hlt
        generalize refL (P.data.toList ++ [s[k]]) = r at *
        go_wp2_with (first
          | (go_at_call 6; refine (HR.out _).mono ?_; rintro e w2 ⟨rfl, hb2⟩; have hwa2 := hwa.stay hb2 hin; have hta2 := hta.stay hb2 hta.inside)
          | (go_at_call 7; refine (HT.out _ hwa2 hta2).mono ?_; rintro e w3 ⟨rfl, hwa3, hu3⟩; have hta3 := hta2.turned hu3 hbpos)
          | (go_at_call 8; refine (HW2.out _ hwa3).mono ?_; rintro e w4 ⟨rfl, q, rfl⟩))
        go_roundw
        case rel => exact ⟨k + 1, _, hlt, hPs, by go_num, rfl, hwa3, hta3, below_drewN ((hbel.trans (hb2.mono hbel.size)).trans (hu3.below z1 (by have := hwa2.inside; omega))) q⟩
        case measure => simp [intOf]; omega
    · go_wp2
      go_ret
      exact ⟨rfl, hbel⟩

end Go.Proofs.YtopodhmchoibfaaDoor
