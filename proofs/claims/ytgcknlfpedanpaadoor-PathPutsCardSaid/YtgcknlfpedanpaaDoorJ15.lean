/- Package path: Put. -/
import Derived.Test.YtgcknlfpedanpaaDoorRows
import Derived.Test.YtgcknlfpedanpaaDoorJ03
import Derived.Test.YtgcknlfpedanpaaDoorJ07
import Derived.Test.YtgcknlfpedanpaaDoorJ08
import Derived.Test.YtgcknlfpedanpaaDoorJ09
import Derived.Test.YtgcknlfpedanpaaDoorJ12
import Derived.Test.YtgcknlfpedanpaaDoorJ13
import Derived.Test.YtgcknlfpedanpaaDoorJ14
namespace Go.Proofs.YtgcknlfpedanpaaDoor
open Go.RowKit
set_option linter.unusedVariables false

/-- Where Put's loop is. -/
def RelPq (W : World) (l : List Pst) (i : Value) (wr : World) : Prop :=
  ∃ k : Nat, k ≤ l.length ∧ i = .int .i64 k ∧ (l.take k).all rightB = true ∧ CnI W (36 :: (l.take k).flatMap stepT) wr
theorem cnI_of {W wr w' : World} {F : Nat → Prop} {acc acc' : List UInt8} {o : Obj} (h : CnI W acc wr) (hF : ∀ k, F k → W.heap.size ≤ k) (g : Wr (wr.alloc o) W.heap.size F acc' w') : CnI W acc' w' := by
  have hz := h.2.size
  have e : (wr.alloc o).heap.size = wr.heap.size + 1 := by simp
  refine ⟨g.1.mono (fun k hk => ?_), (h.2.alloc hz o).trans (g.2.below (fun k _ h => hF k h) (by omega))⟩
  rcases hk with h | h
  · exact hF k h
  · omega

set_option maxRecDepth 100000 in
set_option maxHeartbeats 8000000 in
theorem put13p_any (l : List Pst) (A : Option Addr) (n c : Nat) (W : World) (hP : Pow13 W) (hx : RdP W A n l) (hw : wtP l ≤ 1000000) :
    Calls Tryd.prog 10 #[.slice A n c] W fun e w' => e = .returned (.string ⟨(putP l).toArray⟩) ∧ Below W.heap.size W w' := by
  have hl : l.length = n := hx.1
  have HX := Lib.hid hx
  have HPW := Lib.hid hP
  clear hx hP
  have S0 := Lib.hid (CnI.start W)
  go_enter Tryd.func10, Tryd.ntmps10
  go_wp2_with (go_at_call 19; refine (writeString_of W.heap.size _ [] [36] _ rfl _ S0.out.1 (by show 0 + 1 ≤ _; omega)).mono ?_; rintro e w1 ⟨rfl, h1⟩; have S1 : Hid (CnI W [36] w1) := Lib.hid ⟨h1.1.mono (fun k hk => hk.elim id (fun h => by have := S0.out.2.size; omega)), S0.out.2.trans (h1.2.below (fun k _ h => h) S0.out.2.size)⟩; clear h1)
  go_loopw [9] (fun i wr => RelPq W l i wr) (fun i _ => l.length - (intOf i).toNat)
  case atStart => exact ⟨0, Nat.zero_le _, rfl, rfl, S1.out⟩
  case round =>
    obtain ⟨k, hk, rfl, hr, hI⟩ := hrel
    have hk9 : (k : Int) ≤ 1000000 := by have := wt_length l; omega
    by_cases hlt : k < l.length
    · have hltI : (k : Int) < n := by omega
      have hX2 := HX.out.stay hI.2
      obtain ⟨a, rfl, ha, hc⟩ := hX2.2 (by omega)
      obtain ⟨s0, s1, s2⟩ := hc k l[k] (List.getElem?_eq_getElem hlt)
      have HTA := Lib.hid (take_all hlt)
      have HTF := Lib.hid (take_flat hlt)
      have HNO := Lib.hid (fun h => all_not hlt h)
      have hwn := wt_in (List.getElem?_eq_getElem hlt)
      have hsz := flat_le (l.take k) hr
      have hwk := wt_take l k
      generalize hsk : l[k] = sk at *
      have HR := Lib.hid (fun w => right13p_any sk w (by unfold maxLen; omega))
      unfold stpV at HR
      have o1 := Own.fresh wr 26 #[.bool sk.named, .string ⟨sk.name.toArray⟩, .int .i64 sk.index]
      have HO := Lib.hid o1
      have HI := Lib.hid hI
      have hbA : BldS (wr.alloc (.cells #[.bool sk.named, .string ⟨sk.name.toArray⟩, .int .i64 sk.index] 26)) W.heap.size (fun k => W.heap.size ≤ k ∧ k < wr.heap.size) (36 :: (l.take k).flatMap stepT) :=
        hI.1.bound.stay (G := fun k => wr.heap.size ≤ k) (Touch.of_below (below1 wr _) (fun k _ h => h)) (fun k hk h e => by omega)
      have HB0 := Lib.hid hbA
      have hacc : (36 :: (l.take k).flatMap stepT).length ≤ 20000001 := by rw [List.length_cons]; omega
      have HLEN := Lib.hid hacc
      have HEND := Lib.hid (fun (w4 : World) (m : List UInt8) (g : Wr (wr.alloc (.cells #[.bool sk.named, .string ⟨sk.name.toArray⟩, .int .i64 sk.index] 26)) W.heap.size (fun k => W.heap.size ≤ k ∧ k < wr.heap.size) ((((36 :: (l.take k).flatMap stepT) ++ [91]) ++ m) ++ [93]) w4) (hm : stepT sk = 91 :: (m ++ [93])) => show CnI W (36 :: (l.take (k + 1)).flatMap stepT) w4 by
        have := cnI_of hI (fun k h => h.1) g
        rw [HTF.out, hm]
        simpa using this)
      clear hsk hc hX2 o1 hbA hsz hwk hI hacc
      generalize 36 :: (l.take k).flatMap stepT = acc at *
      have HBEL := Lib.hid (fun (w' : World) (m : List UInt8) (g : Wr (wr.alloc (.cells #[.bool sk.named, .string ⟨sk.name.toArray⟩, .int .i64 sk.index] 26)) W.heap.size (fun k => W.heap.size ≤ k ∧ k < wr.heap.size) m w') => (cnI_of HI.out (fun k h => h.1) g).2)
      have hnF : ¬ (W.heap.size ≤ wr.heap.size ∧ wr.heap.size < wr.heap.size) := by omega
      by_cases hrs : rightB sk = true
      · rw [hrs] at HR HTA
        have tkA : True := trivial
        have tkB : True := trivial
        cases hnm : sk.named
        · obtain ⟨hq0, h1, h2⟩ := right_index hrs hnm
          clear hq0
          obtain ⟨v, hv⟩ := Int.eq_ofNat_of_zero_le h1
          have HD := Lib.hid (fun w hw => itoa_any v (by omega) w hw)
          have hN : (⟨(digN v).toArray⟩ : ByteArray).size ≤ 16 := digN_len 15 v (by simp; omega)
          have hNl : (digN v).length ≤ 16 := hN
          have HST := Lib.hid (show stepT sk = 91 :: (digN v ++ [93]) by
            unfold stepT
            rw [hnm, if_neg (by decide), hv, Int.toNat_natCast])
          rw [hnm, hv] at HO HR HB0 HEND HBEL
          rw [hnm] at s0
          rw [hv] at s2
          clear hrs h1 h2 hnm hv HNO
          generalize (⟨sk.name.toArray⟩ : ByteArray) = nm at *
          go_wp2_with (first
            | (go_at_call 8
               go_must (
                 refine (HR.out _).mono ?_
                 rintro e w1 ⟨rfl, hb1⟩
                 have h1 := Wr.start HB0.out hb1
                 have H1 := Lib.hid h1
                 have o1 := h1.2.own HO.out hnF
                 have d0 : w1.cell? ⟨wr.heap.size, 0, none⟩ = some (.bool false) := o1.at 0
                 clear h1 hb1 o1))
            | (go_at_call 19
               clear tkA
               go_must (
                 refine (writeString_of W.heap.size _ _ [91] _ rfl _ H1.out.1 (by show acc.length + 1 ≤ _; have := HLEN.out; omega)).mono ?_
                 rintro e w2 ⟨rfl, h2⟩
                 have h2 := H1.out.more h2
                 have o2 := h2.2.own HO.out hnF
                 clear d0
                 have d0 : w2.cell? ⟨wr.heap.size, 0, none⟩ = some (.bool false) := o2.at 0
                 have d2 : w2.cell? ⟨wr.heap.size, 2, none⟩ = some (.int .i64 v) := o2.at 2
                 have H2 := Lib.hid h2
                 clear h2 o2))
            | (go_at_call 21
               go_must (
                 refine (HD.out _ (HPW.out.stay (HBEL.out _ _ H2.out))).mono ?_
                 rintro e w3 ⟨rfl, hb3⟩
                 have H3 := Lib.hid (H2.out.more (Wr.start H2.out.1 hb3))
                 clear hb3))
            | (go_at_call 19
               clear tkB
               go_must (
                 refine (writeString_of W.heap.size _ _ (digN v) _ rfl _ H3.out.1 (by have := HLEN.out; simp only [List.length_append, List.length_cons, List.length_nil]; omega)).mono ?_
                 rintro e w4 ⟨rfl, h4⟩
                 have H4 := Lib.hid (H3.out.more h4)
                 clear h4))
            | (go_at_call 19
               go_must (
                 refine (writeString_of W.heap.size _ _ [93] _ rfl _ H4.out.1 (by have := HLEN.out; simp only [List.length_append, List.length_cons, List.length_nil]; show _ + 1 ≤ _; omega)).mono ?_
                 rintro e w5 ⟨rfl, h5⟩
                 have H5 := Lib.hid (H4.out.more h5)
                 clear h5)))
          go_roundw
          case rel => exact ⟨k + 1, hlt, by go_num, by rw [HTA.out, hr]; rfl, HEND.out _ _ H5.out HST.out⟩
          case measure => simp [intOf]; omega
        · have hname : (⟨sk.name.toArray⟩ : ByteArray).size ≤ 1000000000 := by show sk.name.length ≤ _; omega
          have hNl : (nameT sk.name).length ≤ 6000002 := by have := nameT_six sk.name; omega
          have HD := Lib.hid (fun b F acc w h1 h2 => putName_any b F acc ⟨sk.name.toArray⟩ w h1 hname h2)
          rw [show (⟨sk.name.toArray⟩ : ByteArray).data.toList = sk.name from rfl] at HD
          have HST := Lib.hid (show stepT sk = 91 :: (nameT sk.name ++ [93]) by
            unfold stepT
            rw [hnm, if_pos rfl])
          rw [hnm] at HO HR HB0 HEND HBEL
          rw [hnm] at s0
          clear hrs hnm HNO hname hwn
          generalize nameT sk.name = nt at *
          generalize (⟨sk.name.toArray⟩ : ByteArray) = nm at *
          generalize sk.index = ix at *
          go_wp2_with (first
            | (go_at_call 8
               go_must (
                 refine (HR.out _).mono ?_
                 rintro e w1 ⟨rfl, hb1⟩
                 have h1 := Wr.start HB0.out hb1
                 have H1 := Lib.hid h1
                 have o1 := h1.2.own HO.out hnF
                 have d0 : w1.cell? ⟨wr.heap.size, 0, none⟩ = some (.bool true) := o1.at 0
                 clear h1 hb1 o1))
            | (go_at_call 19
               clear tkA
               go_must (
                 refine (writeString_of W.heap.size _ _ [91] _ rfl _ H1.out.1 (by show acc.length + 1 ≤ _; have := HLEN.out; omega)).mono ?_
                 rintro e w2 ⟨rfl, h2⟩
                 have h2 := H1.out.more h2
                 have o2 := h2.2.own HO.out hnF
                 clear d0
                 have d0 : w2.cell? ⟨wr.heap.size, 0, none⟩ = some (.bool true) := o2.at 0
                 have d1 : w2.cell? ⟨wr.heap.size, 1, none⟩ = some (.string nm) := o2.at 1
                 have H2 := Lib.hid h2
                 clear h2 o2))
            | (go_at_call 20
               go_must (
                 refine (HD.out _ _ _ _ H2.out.1 (by have := HLEN.out; simp only [List.length_append, List.length_cons, List.length_nil]; omega)).mono ?_
                 rintro e w4 ⟨rfl, h4⟩
                 have H4 := Lib.hid (H2.out.more h4)
                 clear h4))
            | (go_at_call 19
               go_must (
                 refine (writeString_of W.heap.size _ _ [93] _ rfl _ H4.out.1 (by have := HLEN.out; simp only [List.length_append, List.length_cons, List.length_nil]; show _ + 1 ≤ _; omega)).mono ?_
                 rintro e w5 ⟨rfl, h5⟩
                 have H5 := Lib.hid (H4.out.more h5)
                 clear h5)))
          go_roundw
          case rel => exact ⟨k + 1, hlt, by go_num, by rw [HTA.out, hr]; rfl, HEND.out _ _ H5.out HST.out⟩
          case measure => simp [intOf]; omega
      · have HP0 := Lib.hid (HNO.out hrs)
        rw [Bool.eq_false_iff.2 hrs] at HR
        clear hrs HTF HTA HEND
        go_wp2_with (go_at_call 8; refine (HR.out _).mono ?_; rintro e w4 ⟨rfl, hb4⟩; have HB4 := Lib.hid (HBEL.out _ _ (Wr.start HB0.out hb4)); clear hb4)
        go_ret
        rw [HP0.out]
        exact ⟨rfl, HB4.out⟩
    · have hltI : ¬ (k : Int) < n := by omega
      have ht : l.take k = l := List.take_of_length_le (by omega)
      have HP0 := Lib.hid (show putP l = 36 :: l.flatMap stepT by unfold putP; rw [if_pos (by rw [← ht]; exact hr)])
      have hsz := flat_le (l.take k) hr
      rw [ht] at hsz hI
      have HI := Lib.hid hI
      have hlen : (36 :: l.flatMap stepT).length ≤ 1000000000 := by rw [List.length_cons]; omega
      have HS := Lib.hid (CnI.str hI hlen)
      clear hr hI
      go_wp2_with (go_at_call 22; refine HS.out.mono ?_; rintro e w2 ⟨rfl, h2⟩; have HB2 := Lib.hid h2.2; clear h2)
      go_ret
      rw [HP0.out]
      exact ⟨rfl, HB2.out⟩

end Go.Proofs.YtgcknlfpedanpaaDoor
