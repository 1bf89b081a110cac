/- The walks of BitsBack (and of the example), over what package bits is proved to do. -/
import Derived.Test.YtddkljlggcbcjaaStack
namespace Go.Proofs.Ytddkljlggcbcjaa
open Go.RowKit

section
variable {St : World → Nat → (Nat → Prop) → List Bool → Prop}

theorem bool_info : (Try.prog.info? 4).map (fun i => (i.zero, i.size, i.bytes)) = some (some (.bool false), 1, 1) := by kernel_rfl
theorem bools_one (l : List Bool) : ∀ u ∈ bools l, u.oneCell' = true := by
  intro u hu
  obtain ⟨n, _, rfl⟩ := List.mem_map.1 hu
  rfl
theorem bools_length (l : List Bool) : (bools l).length = l.length := by simp [bools]

theorem foot_up {F F' : Nat → Prop} {B n : Nat} (h : ∀ k, F k → B ≤ k) (f : ∀ k, k < n → F' k → F k) (hn : B ≤ n) : ∀ k, F' k → B ≤ k := fun k hk => by
  by_cases hlt : k < n
  · exact h k (f k hlt hk)
  · omega

set_option maxHeartbeats 2000000 in
theorem alive8_any (C : StackC St) (W : World) :
    Calls Try.prog 5 #[] W fun e w' => e = .returned (.bool true) ∧ Below W.heap.size W w' := by
  have hz := C.zero W
  have K1 := Lib.hid (fun w h => C.push W.heap.size (fun k => k = W.heap.size) [] true w h (by simp))
  have K2 := Lib.hid (fun F w h => C.push W.heap.size F [true] false w h (by simp))
  have K3 := Lib.hid (fun F w h => C.top W.heap.size F [true, false] w h (by simp))
  have K4 := Lib.hid (fun F w h => C.all W.heap.size F [true, false] w h (by simp))
  have K5 := Lib.hid (fun F w h => C.words W.heap.size F [true, false] w h (by simp))
  have K6 := Lib.hid (fun (A1 : Option Addr) (c1 : Nat) (w : World) h1 h2 => rsame_at A1 (some ⟨w.heap.size, 0, none⟩) 2 c1 2 [true, false] (w.alloc (.cells #[.bool true, .bool false] 4)) h1 h2 (by decide))
  have t1 : True := trivial
  have t2 : True := trivial
  have ha := below1f W (.cells zeroS 26)
  go_enter Try.func5, Try.ntmps5
  go_wp2_with (first
    | (go_at_call 6; clear t1; refine (K1.out _ hz).mono ?_; rintro e w1 ⟨rfl, F1, s1, u1, f1⟩)
    | (go_at_call 6; clear t2; refine (K2.out _ _ s1).mono ?_; rintro e w2 ⟨rfl, F2, s2, u2, f2⟩)
    | (go_at_call 8; refine (K3.out _ _ s2).mono ?_; rintro e w3 ⟨rfl, F3, s3, u3, f3⟩)
    | (go_at_call 13; refine (K4.out _ _ s3).mono ?_; rintro e w4 ⟨A4, c4, rfl, r4, F4, s4, u4, f4⟩
       have r4' := (r4.stay ((Below.refl w4.heap.size w4).alloc (Nat.le_refl _) (.cells #[.bool true, .bool false] 4))).more (show w4.heap.size ≤ (w4.alloc (.cells #[.bool true, .bool false] 4)).heap.size by simp)
       have r5 := (Rd.of_list (l := bools [true, false]) (k := 2) (Own.fresh w4 4 _) rfl).more (show w4.heap.size + 1 ≤ (w4.alloc (.cells #[.bool true, .bool false] 4)).heap.size by simp)
       have s4' := C.move _ _ _ _ _ _ s4 (Touch.of_new (F := fun _ => False) ((Below.refl w4.heap.size w4).alloc (Nat.le_refl _) (.cells #[.bool true, .bool false] 4))) (fun _ _ h => h))
    | (go_at_call 12; refine (K6.out _ _ w4 r4' r5).mono ?_; rintro e w' ⟨rfl, q, rfl⟩
       have s4q := C.move _ _ _ _ _ _ s4' ((Touch.refl (fun _ => False) (w4.alloc (.cells #[.bool true, .bool false] 4))).drewN q) (fun _ _ h => h))
    | (go_at_call 10; refine (K5.out F4 ((w4.alloc (.cells #[.bool true, .bool false] 4)).drewN q) s4q).mono ?_; rintro e w5 ⟨rfl, F5, s5, u5, f5⟩))
  go_ret
  have a0 : ∀ k, k = W.heap.size → W.heap.size ≤ k := fun k h => by omega
  have b0 := (below1f W (.cells zeroS 26))
  have n0 := b0.size
  have b1 := u1.below (fun k _ h => a0 k h) n0
  have n1 := Nat.le_trans n0 b1.size
  have a1 := foot_up a0 f1 n0
  have b2 := u2.below (fun k _ h => a1 k h) n1
  have n2 := Nat.le_trans n1 b2.size
  have a2 := foot_up a1 f2 n1
  have b3 := u3.below (fun k _ h => a2 k h) n2
  have n3 := Nat.le_trans n2 b3.size
  have a3 := foot_up a2 f3 n2
  have b4 := u4.below (fun k _ h => a3 k h) n3
  have n4 := Nat.le_trans n3 b4.size
  have a4 := foot_up a3 f4 n3
  have b5 := u5.below (fun k _ h => a4 k h) (show W.heap.size ≤ ((w4.alloc (.cells #[.bool true, .bool false] 4)).drewN q).heap.size by simp; omega)
  have b45 : Below W.heap.size w4 ((w4.alloc (.cells #[.bool true, .bool false] 4)).drewN q) := by
    have h := (below1f w4 (.cells #[.bool true, .bool false] 4)).mono n4
    exact ⟨h.os, h.tape, h.output, h.size, h.block⟩
  exact ⟨rfl, ((((b0.trans b1).trans b2).trans b3).trans b4).trans (b45.trans b5)⟩

/-- Where BitsBack's first loop is. -/
def RelBk1 (St : World → Nat → (Nat → Prop) → List Bool → Prop) (bl : List Bool) (b B : Nat) (W wr : World) (i : Value) : Prop :=
  ∃ (k : Nat) (F : Nat → Prop), k ≤ bl.length ∧ i = .int .i64 k ∧ St wr b F (bl.take k) ∧ (∀ j, F j → B ≤ j) ∧ Below B W wr ∧ B ≤ wr.heap.size
/-- Where its second one is: k are left. -/
def RelBk2 (St : World → Nat → (Nat → Prop) → List Bool → Prop) (bl : List Bool) (b B : Nat) (W wr : World) (i : Value) : Prop :=
  ∃ (k : Nat) (F : Nat → Prop), k ≤ bl.length ∧ i = .int .i64 ((k : Int) - 1) ∧ St wr b F (bl.take k) ∧ (∀ j, F j → B ≤ j) ∧ Below B W wr ∧ B ≤ wr.heap.size

theorem take_last (l : List Bool) (k : Nat) (h : k < l.length) : (l.take (k + 1)).getLast? = some l[k] ∧ (l.take (k + 1)).dropLast = l.take k := by
  rw [List.take_succ_eq_append_getElem h]
  exact ⟨List.getLast?_concat, List.dropLast_concat⟩

set_option maxRecDepth 100000 in
set_option maxHeartbeats 4000000 in
theorem bitsBack_core (C : StackC St) (A : Option Addr) (len cap : Nat) (bl : List Bool) (W : World) (hx : Rd W W.heap.size A len (bools bl)) :
    Calls Try.prog 4 #[.slice A len cap] W fun e w' => e = .returned (.bool true) ∧ Below W.heap.size W w' := by
  have KV := Lib.hid (fun w => alive8_any C w)
  by_cases h2 : 2000 < (len : Int)
  · go_enter Try.func4, Try.ntmps4
    go_wp2_with (first
      | (go_at_call 5; refine (KV.out _).mono ?_; rintro e w1 ⟨rfl, hb1⟩))
    go_ret
    exact ⟨rfl, hb1⟩
  have h2' : (len : Int) ≤ 2000 := by omega
  have hbl : bl.length = len := by have := hx.1; rwa [bools_length] at this
  go_enter Try.func4, Try.ntmps4
  go_wp2_with (first
    | (go_at_call 5; refine (KV.out _).mono ?_; rintro e w1 ⟨rfl, hb1⟩))
  have z1 := hb1.size
  have HBL := Lib.hid hbl
  clear hbl
  go_loopw [18] (fun i wr => RelBk1 St bl w1.heap.size W.heap.size W wr i) (fun i _ => len - (intOf i).toNat)
  case atStart => exact ⟨0, (fun k => k = w1.heap.size), Nat.zero_le _, rfl, C.zero w1, (fun k h => by omega), hb1.alloc z1 _, by simp; omega⟩
  case round =>
    obtain ⟨k, F, hk, rfl, hst, hF, hbel, hsz⟩ := hrel
    by_cases hlt : k < len
    · have hkl : k < bl.length := by rw [HBL.out]; exact hlt
      obtain ⟨ad, rfl, had, hc⟩ := (hx.stay hbel).2 (by omega)
      have hcell := hc k (.bool bl[k]) (by unfold bools; rw [List.getElem?_map, List.getElem?_eq_getElem hkl]; rfl)
      have hkI : (k : Int) < len := by omega
      have KP := Lib.hid (C.push w1.heap.size F (bl.take k) bl[k] wr hst (by simp; omega))
      have HT := Lib.hid (List.take_succ_eq_append_getElem hkl)
      clear hc
      generalize bl[k] = x at *
      go_wp2_with (first
        | (go_at_call 6; refine KP.out.mono ?_; rintro e w2 ⟨rfl, F', hst', hu, hf⟩))
      go_roundw
      case rel => exact ⟨k + 1, F', by omega, by go_num, (by rw [HT.out]; exact hst'), foot_up hF hf hsz, hbel.trans (hu.below (fun j _ h => hF j h) hsz), Nat.le_trans hsz hu.size⟩
      case measure => simp [intOf]; omega
    · have hk' : k = len := by have : k ≤ len := by (rw [← HBL.out]; exact hk)
                               omega
      have hst0 : St wr w1.heap.size F (bl.take len) := by rw [← hk']; exact hst
      have hkI : ¬ (k : Int) < len := by omega
      clear hk' hst
      go_wp2
      go_loopw [6] (fun i wr => RelBk2 St bl w1.heap.size W.heap.size W wr i) (fun i _ => (intOf i + 1).toNat)
      case atStart => exact ⟨len, F, by rw [HBL.out]; exact Nat.le_refl _, rfl, hst0, hF, hbel, hsz⟩
      case round =>
        obtain ⟨n, F2, hn, rfl, hst2, hF2, hbel2, hsz2⟩ := hrel
        cases n with
        | zero =>
          have KP := C.pop w1.heap.size F2 (bl.take 0) wr hst2 (by simp)
          rw [List.take_zero] at KP
          have KP := Lib.hid KP
          have KL := Lib.hid (fun F w h => C.len w1.heap.size F [] w h (by simp))
          have KW := Lib.hid (fun F w h => C.words w1.heap.size F [] w h (by simp))
          go_wp2_with (first
            | (go_at_call 7; refine KP.out.mono ?_; rintro e w3 ⟨rfl, F3, s3, u3, f3⟩)
            | (go_at_call 9; refine (KL.out _ _ s3).mono ?_; rintro e w4 ⟨rfl, F4, s4, u4, f4⟩)
            | (go_at_call 10; refine (KW.out _ _ s4).mono ?_; rintro e w5 ⟨rfl, F5, s5, u5, f5⟩))
          go_ret
          have b3 := u3.below (fun j _ h => hF2 j h) hsz2
          have n3 := Nat.le_trans hsz2 b3.size
          have a3 := foot_up hF2 f3 hsz2
          have b4 := u4.below (fun j _ h => a3 j h) n3
          have n4 := Nat.le_trans n3 b4.size
          have a4 := foot_up a3 f4 n3
          exact ⟨rfl, ((hbel2.trans b3).trans b4).trans (u5.below (fun j _ h => a4 j h) n4)⟩
        | succ m =>
          have hml : m < bl.length := hn
          have hmlen : m < len := by rw [← HBL.out]; exact hml
          obtain ⟨hl1, hl2⟩ := take_last bl m hml
          obtain ⟨ad, rfl, had, hc⟩ := (hx.stay hbel2).2 (by omega)
          have hcell := fun w' h => (Rd.stay (hx.stay hbel2) (w' := w') h)
          have KP := C.pop w1.heap.size F2 (bl.take (m + 1)) wr hst2 (by simp; omega)
          rw [hl1, hl2, show decide (0 < (bl.take (m + 1)).length) = true from decide_eq_true (by simp; omega)] at KP
          have KP := Lib.hid KP
          have hidx : (((m + 1 : Nat) : Int) - 1) = (m : Int) := by omega
          rw [hidx]
          have HC := Lib.hid (show ∀ w', Below W.heap.size wr w' → w'.cell? (ad.add m) = some (.bool bl[m]) from fun w' h => by
            obtain ⟨ad', e, _, hc'⟩ := (hcell w' h).2 (by omega)
            obtain rfl := Option.some.inj e
            exact hc' m _ (by unfold bools; rw [List.getElem?_map, List.getElem?_eq_getElem hml]; rfl))
          clear hcell hc hl1 hl2
          generalize bl[m] = x at *
          have gx : (x != x) = false := by simp
          go_wp2_with (first
            | (go_at_call 7; refine KP.out.mono ?_; rintro e w3 ⟨rfl, F3, s3, u3, f3⟩
               have b3 := u3.below (fun j _ h => hF2 j h) hsz2
               have hcm := HC.out w3 b3))
          go_roundw
          case rel => exact ⟨m, F3, by omega, rfl, s3, foot_up hF2 f3 hsz2, hbel2.trans b3, Nat.le_trans hsz2 u3.size⟩
          case measure => simp [intOf]

end
end Go.Proofs.Ytddkljlggcbcjaa
