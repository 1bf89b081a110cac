/- Package quote's Read; the statements of layer 6 at this program. -/
import Derived.Test.YtjnllbgkgdehaaaQuoE
import Derived.Test.YtjnllbgkgdehaaaLaw06B
namespace Go.Proofs.Ytjnllbgkgdehaaa
open Go.RowKit
set_option linter.unusedVariables false

/-- Where Read's loop is. -/
def RelRd (s : ByteArray) (W wr : World) (i : Value) : Prop :=
  ∃ (k : Nat) (st : QSt) (acc : List UInt8), k ≤ s.size ∧ i = .int .i64 k ∧ IsQ wr W.heap.size st acc ∧ st ≠ .done ∧ Below W.heap.size W wr ∧
    readR .plain s.data.toList [] 0 = readR st (s.data.toList.drop k) acc k ∧ acc.length + pendQ st ≤ 4 * k

theorem isQ_zero (w : World) (cs : Array Value) (h : cs = (QL 0 0 0 0 0 0 none (List.replicate 64 0) 0).toArray) : IsQ (w.alloc (.cells cs 47)) w.heap.size .plain [] := by
  subst h
  refine isQ_mk trivial (sg := 0) (lf := 0) (num := 0) (cnt := 0) (fst := 0) (a := 0) ⟨none, List.replicate 64 0, 0, [], ⟨by simp, Own.fresh _ _ _⟩, rfl, by omega, ?_, ?_, rfl⟩ ⟨rfl, rfl, rfl, rfl, rfl⟩ stU_zero
  · intro v hv; simp at hv
  · intro p hp; simp at hp

theorem zero_walk (w : World) : (zeroValue 47).run Try.prog w = .ok (.agg (QL 0 0 0 0 0 0 none (List.replicate 64 0) 0).toArray) w := by kernel_rfl

theorem read_three {l : List UInt8} {n k : Int} {t : List UInt8} {a b : Int} (h1 : l = t) (h2 : n = a) (h3 : k = b) :
    Ending.returned (.tuple #[.string ⟨l.toArray⟩, .int .i64 n, .int .i64 k]) = .returned (.tuple #[.string ⟨t.toArray⟩, .int .i64 a, .int .i64 b]) := by rw [h1, h2, h3]

set_option maxHeartbeats 2000000 in
set_option maxRecDepth 100000 in
theorem read_any (s : ByteArray) (W : World) (hs : s.size ≤ 1000000000) :
    Calls Try.prog 8 #[.string s] W fun e w' => e = .returned (.tuple #[.string ⟨(readR .plain s.data.toList [] 0).1.toArray⟩, .int .i64 (readR .plain s.data.toList [] 0).2.1, .int .i64 (readR .plain s.data.toList [] 0).2.2]) ∧ Below W.heap.size W w' := by
  generalize hR : readR .plain s.data.toList [] 0 = R
  obtain ⟨rt, rn, rk⟩ := R
  replace hR := Lib.hid hR
  have hz0 := fun w => zero_walk w
  generalize hz : (QL 0 0 0 0 0 0 none (List.replicate 64 0) 0).toArray = z at hz0
  replace hz := Lib.hid hz.symm
  go_enter Try.func8, Try.ntmps8
  go_wp2
  go_loopw [9] (fun i wr => RelRd s W wr i) (fun i _ => s.size - (intOf i).toNat)
  case atStart => exact ⟨0, .plain, [], Nat.zero_le _, rfl, isQ_zero W _ hz.out, (by intro e; cases e), below1 W _, rfl, by simp [pendQ]⟩
  case round =>
    obtain ⟨k, st, acc, hk, rfl, hq, hnd, hbel, hrun, hacc⟩ := hrel
    rw [hR.out] at hrun
    by_cases hlt : k < s.size
    · have hl : k < s.data.toList.length := hlt
      have hc : s.data.toList[k] = s[k] := rfl
      rw [List.drop_eq_getElem_cons hl, hc] at hrun
      have hstep := step_any wr W.heap.size st acc s[k] hq
      unfold StepPost at hstep
      have hsz := hbel.size
      have hin := hq.inside
      cases hs : stepQ st s[k] with
      | none =>
        rw [hs] at hstep
        have hstep : Calls Try.prog 16 #[.pointer (some ⟨W.heap.size, 0, none⟩), .int .u8 s[k].toNat] wr fun e w' => e = .returned (.int .i64 (faultQ st s[k])) ∧ IsQ w' W.heap.size st acc ∧ Turned W.heap.size wr w' := hstep
        rw [readR_no hs] at hrun
        have hf := faultQ_ne st s[k]
        generalize faultQ st s[k] = j at *
        have g0 : (j == 0) = false := beq_eq_false_iff_ne.2 hf.2
        have g1 : (j == 1) = false := beq_eq_false_iff_ne.2 hf.1
        cases hrun
        have HS := Lib.hid hstep
        clear hstep hf hs hc
        go_wp2_with (go_at_call 16; refine HS.out.mono ?_; rintro e w1 ⟨rfl, _, ht⟩)
        go_ret3
        exact ⟨rfl, hbel.trans (ht.below (Nat.le_refl _) hsz)⟩
      | some p =>
        obtain ⟨st', x⟩ := p
        rw [hs] at hstep
        have hlen := stepQ_len hs
        by_cases hd : st' = .done
        · subst hd
          rw [readR_done hs] at hrun
          cases hrun
          have HS := Lib.hid (show Calls Try.prog 16 #[.pointer (some ⟨W.heap.size, 0, none⟩), .int .u8 s[k].toNat] wr fun e w' => e = .returned (.int .i64 1) ∧ IsQ w' W.heap.size .done (acc ++ x) ∧ Turned W.heap.size wr w' from hstep)
          have hal : (acc ++ x).length ≤ 1000000000000 := by simp; omega
          replace hal := Lib.hid hal
          clear hstep hs hc hlen
          go_wp2_with (first
            | (go_at_call 16; refine HS.out.mono ?_; rintro e w1 ⟨rfl, hq1, ht⟩; have HQ := Lib.hid hq1; have HT := Lib.hid ht; clear hq1 ht)
            | (go_at_call 17; refine (textQ _ _ _ _ HQ.out hal.out).mono ?_; rintro e w2 ⟨rfl, hb2⟩))
          go_ret3
          have hz := HT.out.2.2.2.1
          exact ⟨read_three rfl (by simp) rfl, (hbel.trans (HT.out.below (Nat.le_refl _) hsz)).trans (hb2.mono (by omega))⟩
        · rw [readR_on hs hd] at hrun
          have hstep : Calls Try.prog 16 #[.pointer (some ⟨W.heap.size, 0, none⟩), .int .u8 s[k].toNat] wr fun e w' => e = .returned (.int .i64 (doneK st')) ∧ IsQ w' W.heap.size st' (acc ++ x) ∧ Turned W.heap.size wr w' := hstep
          rw [doneK_no hd] at hstep
          have HS := Lib.hid hstep
          have HR := Lib.hid hrun
          clear hstep hrun hs hc
          go_wp2_with (go_at_call 16; refine HS.out.mono ?_; rintro e w1 ⟨rfl, hq1, ht⟩)
          go_roundw
          case rel => exact ⟨k + 1, st', acc ++ x, hlt, by go_num, hq1, hd, hbel.trans (ht.below (Nat.le_refl _) hsz), by rw [hR.out]; exact HR.out, by simp; omega⟩
          case measure => simp [intOf]; omega
    · obtain rfl : k = s.size := by omega
      rw [show s.data.toList.drop s.size = [] from List.drop_of_length_le (Nat.le_refl _)] at hrun
      cases hrun
      go_wp2
      go_ret3
      exact ⟨rfl, hbel⟩

theorem lasts_true : Lasts (fun _ => True) := fun _ _ _ _ => trivial
theorem putC : PutC (fun _ => True) := fun s w hs _ => put_any s w (by omega)
theorem readC : ReadC (fun _ => True) := fun s w hs _ => read_any s w (by omega)

theorem quotePuts_walk (s : ByteArray) (W : World) (hs : s.size ≤ maxLen) :
    Calls Try.prog 3 #[.string s] W fun e w' => e = .returned (.bool true) ∧ Below W.heap.size W w' :=
  quotePuts_core lasts_true putC readC s W trivial hs
theorem quoteBack_walk (s raw : ByteArray) (W : World) (hs : s.size ≤ maxLen) (hr : raw.size ≤ maxLen) :
    Calls Try.prog 4 #[.string s, .string raw] W fun e w' => e = .returned (.bool true) ∧ Below W.heap.size W w' :=
  quoteBack_core lasts_true putC readC s raw W trivial hs hr

end Go.Proofs.Ytjnllbgkgdehaaa
