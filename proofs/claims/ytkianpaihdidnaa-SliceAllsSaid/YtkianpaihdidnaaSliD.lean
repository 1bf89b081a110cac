/- Package slice: All, walked. -/
import Derived.Test.YtkianpaihdidnaaRows
import Derived.Test.YtkianpaihdidnaaRef12E
import Derived.Test.YtkianpaihdidnaaSliB
import Derived.Test.YtkianpaihdidnaaSliC
namespace Go.Proofs.Ytkianpaihdidnaa
open Go.RowKit
set_option linter.unusedVariables false

/-- Where All's loop is. -/
def RelAl (W : World) (s : Sel) (n : Nat) (cs : Array Value) (vO vi : Value) (wr : World) : Prop :=
  ∃ i : Int, vi = .int .i64 i ∧ GRow nmK wr (W.heap.size + 1) vO (aheadI s n i) ∧ goodA s n i ∧ Own wr W.heap.size 23 cs ∧ Below W.heap.size W wr ∧ W.heap.size + 1 ≤ wr.heap.size

theorem al_next {W wr w4 w5 : World} {s : Sel} {n k : Nat} {cs : Array Value} {vO vO' : Value} (hk : hasI s k n = true) (ho : Own wr W.heap.size 23 cs) (hb : Below W.heap.size W wr) (hbase : W.heap.size + 1 ≤ wr.heap.size)
    (hrow0 : GRow nmK wr (W.heap.size + 1) vO (aheadI s n k)) (h4 : Below wr.heap.size wr w4) (hrow : GRow nmK w5 (W.heap.size + 1) vO' (aheadI s n k ++ [k])) (hg : (w4.alloc (.cells #[.int .i64 k] 3)).grownBy w5 vO.ownBlock) :
    RelAl W s n cs vO' (.int .i64 ((k : Int) + byI s)) w5 := by
  obtain ⟨_, _, h3⟩ := all_step s n k hk
  have hz4 := h4.size
  have hd := below1s w4 (.cells #[.int .i64 k] 3)
  have hz := hg.size
  have e : (w4.alloc (.cells #[.int .i64 k] 3)).heap.size = w4.heap.size + 1 := by simp
  refine ⟨_, rfl, ?_, h3, ?_, ?_, by omega⟩
  · rw [ahead_next s n k hk]
    exact hrow
  · have h1 := (ho.stay h4 ho.inside).over (.cells #[.int .i64 k] 3)
    exact (hg.block W.heap.size h1.inside (fun e2 => by have := (hrow0.low e2.symm).1; omega)).trans h1
  · refine ((hb.trans (h4.mono hb.size)).alloc (by omega) _).grown hg (by omega) (fun k2 e2 => ?_)
    have := (hrow0.low e2).1
    omega

set_option maxRecDepth 100000 in
set_option maxHeartbeats 8000000 in
theorem pall_any (s : Sel) (n : Nat) (W : World) (hs : RightI s) (hn : n ≤ 1000) :
    Calls Try.prog 16 #[.agg (selV s), .int .i64 n] W fun e w' => ∃ A c, e = .returned (.slice A (allI s n).length c) ∧ Rd w' w'.heap.size A (allI s n).length (idxs (allI s n)) ∧ Below W.heap.size W w' := by
  have HL := Lib.hid (fun w => pleast_any s n w hs (by omega) (by omega))
  have HH := Lib.hid (fun i w => phas_any s i n w hs (by omega) (by omega))
  obtain ⟨hst1, hst2⟩ := hs.stride
  have hby : -9007199254740991 ≤ byI s ∧ byI s ≤ 9007199254740991 := by
    unfold byI
    split
    · omega
    · split <;> omega
  have HG0 := Lib.hid (all_start s n (by omega)).2
  have HA0 := Lib.hid (ahead_start s n)
  have hbl := below1s W (.cells (selV s) 23)
  have ho0 := Own.fresh W 23 (selV s)
  have HST := Lib.hid (fun (k : Nat) (h : hasI s k n = true) => (all_step s n k h).1)
  generalize hcs : selV s = cs at *
  generalize hlv : leastI s n = lv at *
  generalize hbv : byI s = bv at *
  clear hs hst1 hst2
  have hcs8 : cs = #[.int .i64 s.kind, .string s.name, .int .i64 s.index, .int .i64 s.start, .int .i64 s.en, .bool s.hs, .bool s.he, .int .i64 s.stride] := hcs.symm
  clear hcs
  subst hcs8
  go_enter Try.func16, Try.ntmps16
  go_wp2_with (go_at_call 21; refine (HL.out _).mono ?_; rintro e w2 ⟨rfl, hb2⟩)
  have HO2 := Lib.hid (ho0.stay hb2 ho0.inside)
  have HB2 := Lib.hid (hbl.trans (hb2.mono (by simp)))
  have hz2 := hb2.size
  have hz3 : W.heap.size + 1 ≤ w2.heap.size := by simpa using hz2
  clear hbl ho0 hb2 hz2
  go_loopw [5, 6] (fun vO vi wr => RelAl W s n #[.int .i64 s.kind, .string s.name, .int .i64 s.index, .int .i64 s.start, .int .i64 s.en, .bool s.hs, .bool s.he, .int .i64 s.stride] vO vi wr) (fun _ vi _ => ((n : Int) - intOf vi).toNat)
  case atStart => exact ⟨lv, rfl, by rw [HA0.out]; exact GRow.nil _ _, HG0.out, HO2.out, HB2.out, hz3⟩
  case round =>
    obtain ⟨i, rfl, hrow, hgood, hown, hbw, hbase⟩ := hrel
    obtain ⟨A8, c8, rfl, _⟩ := hrow.form
    have hfew := ahead_few s n i
    have hlen : ((aheadI s n i).length : Int) < 1048576 := by omega
    obtain ⟨s0, s1, s2, s3, s4, s5, s6, s7⟩ := own_sel8 hown
    cases hhas : hasI s i n
    · have KH := Lib.hid (fun w => hhas ▸ HH.out i w)
      have hend := ahead_end s n i hgood hhas
      rw [hend] at hrow hlen
      rw [hend]
      have HR := Lib.hid hrow
      have HBW := Lib.hid hbw
      clear hhas hgood hown hbw hrow hfew hend
      go_wp2_with (go_at_call 10; refine (KH.out _).mono ?_; rintro e w4 ⟨rfl, hb4⟩)
      go_ret
      have hrd := (HR.out.stay (fun g hg => hb4.block g (HR.out.low hg).2)).rd
      refine ⟨_, _, rfl, ?_, HBW.out.trans (hb4.mono HBW.out.size)⟩
      refine ⟨by simp [idxs], fun hn => ?_⟩
      obtain ⟨g, o, e, h1, h2⟩ := hrd.2 hn
      refine ⟨_, e, h1, fun j u hu => ?_⟩
      rw [add_none]
      refine h2 j u ?_
      rw [nm_all]
      exact hu
    · have KH := Lib.hid (fun w => hhas ▸ HH.out i w)
      obtain ⟨hi0, hin⟩ := has_in hhas
      obtain ⟨k, rfl⟩ := Int.eq_ofNat_of_zero_le hi0
      have hstp : 0 < bv := HST.out k hhas
      have HR := Lib.hid hrow
      have HOW := Lib.hid hown
      have HBW := Lib.hid hbw
      have HHS := Lib.hid hhas
      clear hhas hgood hown hbw hrow
      go_wp2_with (first
        | (go_at_call 10; refine (KH.out _).mono ?_; rintro e w4 ⟨rfl, hb4⟩
           have hr1 : RdG nmK (w4.alloc (.cells #[.int .i64 k] 3)) (some ⟨w4.heap.size, 0, none⟩) 1 [k] := (GRow.made (K := nmK) (l := [k]) (base := 0) w4 #[.int .i64 k] rfl (show 1 ≤ maxLen by decide) (Nat.zero_le _)).rd
           have hrow1 := (HR.out.stay (w' := w4) (fun g hg => hb4.block g (HR.out.low hg).2)).stay (w' := w4.alloc (.cells #[.int .i64 k] 3)) (fun g hg => (below1s w4 _).block g (Nat.lt_of_lt_of_le (HR.out.low hg).2 hb4.size))
           have hz4 := hb4.size
           have HR1 := Lib.hid hrow1; have HN1 := Lib.hid hr1; clear hrow1 hr1)
        | (at_builtin; refine row_append (K := nmK) _ rfl (.tmp 23) (.tmp 25) rfl (W.heap.size + 1) _ (aheadI s n k) rfl HR1.out _ 1 1 [k] rfl HN1.out (by omega) (by simp; omega) ?_; intro vO' w5 hr5 hg5 ho5))
      go_roundw
      case rel =>
        have := al_next HHS.out HOW.out HBW.out hbase HR.out hb4 hr5 hg5
        rw [hbv] at this
        exact this
      case measure => simp [intOf]; omega

end Go.Proofs.Ytkianpaihdidnaa
