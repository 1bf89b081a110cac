/- Package path: reading an index; Right. -/
import Derived.Test.YtgcknlfpedanpaaDoorRows
import Derived.Test.YtgcknlfpedanpaaDoorJ03
import Derived.Test.YtgcknlfpedanpaaDoorJ07
import Derived.Test.YtgcknlfpedanpaaDoorJ08
import Derived.Test.YtgcknlfpedanpaaDoorJ09
import Derived.Test.YtgcknlfpedanpaaDoorJ12
import Derived.Test.YtgcknlfpedanpaaDoorJ13
import Derived.Handy
namespace Go.Proofs.YtgcknlfpedanpaaDoor
open Go.RowKit
set_option linter.unusedVariables false

theorem runD_nil : runD [] = 0 := rfl
theorem runD_drop (s : ByteArray) (k : Nat) (h : k < s.size) : runD (s.data.toList.drop k) = if digB s[k] then runD (s.data.toList.drop (k + 1)) + 1 else 0 := by
  have hx : k < s.data.toList.length := h
  rw [List.drop_eq_getElem_cons hx]
  rfl
theorem head13 (s : ByteArray) (k : Nat) (hk : k ≤ s.size) : (s.extract 0 k).data.toList = s.data.toList.take k := by
  rw [ByteArray.data_extract, Array.toList_extract, List.extract_eq_take_drop, List.drop_zero, Nat.sub_zero]
/-- What cutIndex answers. -/
def CiEnd (s : ByteArray) (W : World) (e : Ending) (w' : World) : Prop :=
  (match indexC s.data.toList with
    | none => ∃ x r, e = .returned (.tuple #[.int .i64 x, .string r, .bool false])
    | some (v, r) => e = .returned (.tuple #[.int .i64 v, .string ⟨r.toArray⟩, .bool true])) ∧ Below W.heap.size W w'
theorem CiEnd.no {s : ByteArray} {W w' : World} {x : Int} {r : ByteArray} (h : indexC s.data.toList = none) (hb : Below W.heap.size W w') : CiEnd s W (.returned (.tuple #[.int .i64 x, .string r, .bool false])) w' := by
  unfold CiEnd
  rw [h]
  exact ⟨⟨x, r, rfl⟩, hb⟩
theorem CiEnd.yes {s : ByteArray} {W w' : World} {v : Int} {r : List UInt8} (h : indexC s.data.toList = some (v, r)) (hb : Below W.heap.size W w') : CiEnd s W (.returned (.tuple #[.int .i64 v, .string ⟨r.toArray⟩, .bool true])) w' := by
  unfold CiEnd
  rw [h]
  exact ⟨rfl, hb⟩
/-- Where cutIndex's loop is. -/
def RelCi (s : ByteArray) (W : World) (v : Value) (wr : World) : Prop :=
  ∃ k : Nat, v = .int .i64 k ∧ k ≤ s.size ∧ k + runD (s.data.toList.drop k) = runD s.data.toList ∧ wr = W

set_option maxHeartbeats 4000000 in
set_option maxRecDepth 100000 in
theorem cutIndex_any (s : ByteArray) (hs : s.size ≤ 1000000) (W : World) (hT : Err13 W) :
    Calls Tryd.prog 40 #[.string s] W (CiEnd s W) := by
  have HT := Lib.hid hT
  clear hT
  go_enter Tryd.func40, Tryd.ntmps40
  go_wp2
  go_loopw [5] (fun v wr => RelCi s W v wr) (fun v _ => s.size - (intOf v).toNat)
  case atStart => exact ⟨0, rfl, Nat.zero_le _, by simp, rfl⟩
  case round =>
    obtain ⟨k, rfl, hk, hr, rfl⟩ := hrel
    by_cases hd : ∃ h : k < s.size, digB s[k] = true
    · obtain ⟨hlt, hd⟩ := hd
      have HD := Lib.hid (fun w => digit_any s[k].toNat w)
      rw [digB_is, hd] at HD
      rw [runD_drop s k hlt, if_pos hd] at hr
      have HR := Lib.hid hr
      have hltI : (k : Int) < s.size := by omega
      clear hr hd
      go_wp2_with (go_at_call 53; refine (HD.out _).mono ?_; rintro e w' ⟨rfl, rfl⟩)
      go_roundw
      case rel => exact ⟨k + 1, by go_num, hlt, by have := HR.out; omega, rfl⟩
      case measure => simp [intOf]; omega
    · have hrun : runD s.data.toList = k := by
        by_cases hlt : k < s.size
        · rw [runD_drop s k hlt, if_neg (fun h => hd ⟨hlt, h⟩)] at hr
          omega
        · rw [List.drop_of_length_le (by show s.size ≤ k; omega), runD_nil] at hr
          omega
      have hh := head13 s k hk
      have ht := tail13 s k hk
      have hz : (s.extract 0 k).size ≤ 1000000 := by rw [ByteArray.size_extract]; omega
      have hAt : ∃ (D : Prop), D ∧ (D → True) := ⟨True, trivial, fun _ => trivial⟩
      have HD : Hid (∀ h : k < s.size, ∀ w, Calls Tryd.prog 53 #[.int .u8 s[k].toNat] w fun e w' => e = .returned (.bool false) ∧ w = w') := Lib.hid (fun h w => by
        have := digit_any s[k].toNat w
        rw [digB_is, Bool.eq_false_iff.2 (fun hc => hd ⟨h, hc⟩)] at this
        exact this)
      have hq : indexC s.data.toList = match Lib.atoiAll (s.data.toList.take k) with | .ok v => some (v, s.data.toList.drop k) | _ => none := by unfold indexC; rw [hrun]; cases Lib.atoiAll (s.data.toList.take k) <;> rfl
      clear hr hd hAt hrun
      have kI : (k : Int) ≤ s.size := by omega
      have tail : ∀ (Q : Prop), Q → Q := fun _ h => h
      cases ha : Lib.atoiAll (s.data.toList.take k) with
      | ok v =>
        rw [ha] at hq
        have HQ := Lib.hid (fun w' => CiEnd.yes (s := s) (W := wr) (w' := w') (v := v) (r := s.data.toList.drop k) hq)
        rw [← hh] at ha
        have HA := Lib.hid (fun w => atoi_yes (s.extract 0 k) hz v ha w)
        rw [← ht, ba_list] at HQ
        clear hq ha hh ht hz tail
        by_cases hlt : k < s.size
        · have HD1 := Lib.hid (HD.out hlt)
          have hltI : (k : Int) < s.size := by omega
          go_wp2_with (first
            | (go_at_call 53; refine (HD1.out _).mono ?_; rintro e w' ⟨rfl, rfl⟩)
            | (go_at_call 54; refine (HA.out _).mono ?_; rintro e w2 ⟨rfl, hb2⟩; have HB := Lib.hid hb2; clear hb2))
          go_quiet (fail)
          go_wp2
          go_ret3
          exact HQ.out _ (below_drewN HB.out _)
        · have hltI : ¬ (k : Int) < s.size := by omega
          go_wp2_with (go_at_call 54; refine (HA.out _).mono ?_; rintro e w2 ⟨rfl, hb2⟩; have HB := Lib.hid hb2; clear hb2)
          go_quiet (fail)
          go_wp2
          go_ret3
          exact HQ.out _ (below_drewN HB.out _)
      | _ =>
        have hno : ∀ v, Lib.atoiAll (s.extract 0 k).data.toList ≠ .ok v := by rw [hh, ha]; intro v e; cases e
        rw [ha] at hq
        have HQ := Lib.hid (fun x r w' => CiEnd.no (s := s) (W := wr) (w' := w') (x := x) (r := r) hq)
        have HA := Lib.hid (fun w hw => atoi_no (s.extract 0 k) hz hno w hw)
        clear hq ha hh ht hz hno tail
        by_cases hlt : k < s.size
        · have HD1 := Lib.hid (HD.out hlt)
          have hltI : (k : Int) < s.size := by omega
          go_wp2_with (first
            | (go_at_call 53; refine (HD1.out _).mono ?_; rintro e w' ⟨rfl, rfl⟩)
            | (go_at_call 54; refine (HA.out _ HT.out).mono ?_; rintro e w2 ⟨x, t, N, rfl, hb2⟩; have HB := Lib.hid hb2; clear hb2))
          go_quiet (fail)
          go_wp2
          go_ret3
          exact HQ.out _ _ _ (below_drewN HB.out _)
        · have hltI : ¬ (k : Int) < s.size := by omega
          go_wp2_with (go_at_call 54; refine (HA.out _ HT.out).mono ?_; rintro e w2 ⟨x, t, N, rfl, hb2⟩; have HB := Lib.hid hb2; clear hb2)
          go_quiet (fail)
          go_wp2
          go_ret3
          exact HQ.out _ _ _ (below_drewN HB.out _)

end Go.Proofs.YtgcknlfpedanpaaDoor

namespace Go.Proofs.YtgcknlfpedanpaaDoor
open Go.RowKit
set_option linter.unusedVariables false
set_option linter.unusedSimpArgs false

theorem nameC_len : ∀ (f : Nat) (l acc nm r : List UInt8), nameC f l acc = some (nm, r) → nm.length + r.length + 1 ≤ acc.length + l.length
  | 0, l, acc, nm, r, h => by cases h
  | f + 1, l, acc, nm, r, h => by
    rw [nameC_on] at h
    split at h
    · cases h
    rename_i h0
    have hl : 1 ≤ l.length := List.length_pos_iff.2 h0
    split at h
    · injection h with h
      injection h with h1 h2
      subst h1 h2
      rw [List.length_tail]
      omega
    split at h
    · split at h
      · cases h
      rename_i hn
      have := nameC_len f _ _ _ _ h
      have := escC_le l
      rw [List.length_drop] at *
      simp at *
      omega
    · have := nameC_len f _ _ _ _ h
      rw [List.length_tail] at *
      simp at *
      omega
theorem inner_len {l r : List UInt8} {s : Pst} (h : innerC l = some (s, r)) : s.name.length + r.length ≤ l.length := by
  unfold innerC at h
  split at h
  · rename_i h39
    cases hc : nameC l.length l.tail [] with
    | none => rw [hc] at h; cases h
    | some p =>
      obtain ⟨nm, r'⟩ := p
      rw [hc] at h
      have := nameC_len _ _ _ _ _ hc
      have h := Option.some.inj h
      injection h with h1 h2
      subst h1 h2
      rw [List.length_tail] at this
      simp at this
      show nm.length + r'.length ≤ _
      omega
  · unfold indexC at h
    cases ha : Lib.atoiAll (l.take (runD l)) with
    | ok v =>
      rw [ha] at h
      have h := Option.some.inj h
      injection h with h1 h2
      subst h1 h2
      rw [List.length_drop]
      show 0 + _ ≤ _
      omega
    | _ => rw [ha] at h; cases h
theorem cut_wt {l r : List UInt8} {s : Pst} (h : cutC l = some (s, r)) : s.name.length + 1 + r.length + 1 ≤ l.length := by
  unfold cutC at h
  split at h
  · cases h
  rename_i h0
  cases l with
  | nil => simp at h0
  | cons c t =>
    cases hc : innerC t with
    | none =>
      rw [show (c :: t).tail = t from rfl, hc] at h
      cases h
    | some p =>
      obtain ⟨s', r'⟩ := p
      rw [show (c :: t).tail = t from rfl, hc] at h
      have hi := inner_len hc
      have h : (if r'.head? ≠ some 93 then none else some (s', r'.tail)) = some (s, r) := h
      split at h
      · cases h
      · rename_i h93
        have h := Option.some.inj h
        injection h with h1 h2
        subst h1 h2
        cases r' with
        | nil => simp at h93
        | cons a b => simp at hi ⊢; omega

/-- The step of the call's own, in its first new block. -/
def StB (W : World) (c0 c1 c2 : Value) (w : World) : Prop := Own w W.heap.size 26 #[c0, c1, c2] ∧ Below W.heap.size W w
section
variable {W w w' : World} {c0 c1 c2 : Value}
theorem StB.start (W : World) (v : Array Value) : StB W (.bool false) (.string ⟨#[]⟩) (.int .i64 0) (W.alloc (.cells #[.bool false, .string ⟨#[]⟩, .int .i64 0] 26)) := ⟨Own.fresh _ _ _, below1 _ _⟩
theorem StB.mk (W : World) (c0 c1 c2 : Value) : StB W c0 c1 c2 (W.alloc (.cells #[c0, c1, c2] 26)) := ⟨Own.fresh _ _ _, below1 _ _⟩
theorem StB.on (h : StB W c0 c1 c2 w) (hb : Below w.heap.size w w') : StB W c0 c1 c2 w' := ⟨h.1.stay hb h.1.inside, h.2.trans (hb.mono h.2.size)⟩
theorem StB.put0 (h : StB W c0 c1 c2 w) (u : Value) : StB W u c1 c2 (w.setCell ⟨W.heap.size, 0, none⟩ u) := ⟨by simpa using h.1.put 0 u, h.2.setCell (Nat.le_refl _) _⟩
theorem StB.put1 (h : StB W c0 c1 c2 w) (u : Value) : StB W c0 u c2 (w.setCell ⟨W.heap.size, 1, none⟩ u) := ⟨by simpa using h.1.put 1 u, h.2.setCell (Nat.le_refl _) _⟩
theorem StB.put2 (h : StB W c0 c1 c2 w) (u : Value) : StB W c0 c1 u (w.setCell ⟨W.heap.size, 2, none⟩ u) := ⟨by simpa using h.1.put 2 u, h.2.setCell (Nat.le_refl _) _⟩
theorem StB.a0 (h : StB W c0 c1 c2 w) : w.cell? ⟨W.heap.size, 0, none⟩ = some c0 := h.1.at 0
theorem StB.a1 (h : StB W c0 c1 c2 w) : w.cell? ⟨W.heap.size, 1, none⟩ = some c1 := h.1.at 1
theorem StB.a2 (h : StB W c0 c1 c2 w) : w.cell? ⟨W.heap.size, 2, none⟩ = some c2 := h.1.at 2
theorem StB.free (h : StB W c0 c1 c2 w) (i : Nat) : w.frozen? ⟨W.heap.size, i, none⟩ = false := h.1.free i
end
/-- What cutStep answers. -/
def CsEnd (l : List UInt8) (W : World) (e : Ending) (w' : World) : Prop :=
  (match cutC l with
    | none => ∃ (st : Pst) (r : ByteArray), e = .returned (.tuple #[.agg (stpV st), .string r, .bool false])
    | some (st, r) => e = .returned (.tuple #[.agg (stpV st), .string ⟨r.toArray⟩, .bool true])) ∧ Below W.heap.size W w'
theorem CsEnd.no {l : List UInt8} {W w' : World} {b : Bool} {n : List UInt8} {x : Int} {r : ByteArray} (h : cutC l = none) (hb : Below W.heap.size W w') : CsEnd l W (.returned (.tuple #[.agg #[.bool b, .string ⟨n.toArray⟩, .int .i64 x], .string r, .bool false])) w' := by
  unfold CsEnd
  rw [h]
  exact ⟨⟨⟨b, n, x⟩, r, rfl⟩, hb⟩
theorem CsEnd.yes {l : List UInt8} {W w' : World} {st : Pst} {r : List UInt8} (h : cutC l = some (st, r)) (hb : Below W.heap.size W w') : CsEnd l W (.returned (.tuple #[.agg #[.bool st.named, .string ⟨st.name.toArray⟩, .int .i64 st.index], .string ⟨r.toArray⟩, .bool true])) w' := by
  unfold CsEnd
  rw [h]
  exact ⟨rfl, hb⟩
theorem pre_one (c : UInt8) (l : List UInt8) : Lib.hasPrefix l [c] = decide (l.head? = some c) := by
  cases l with
  | nil => rfl
  | cons a t =>
    unfold Lib.hasPrefix
    by_cases hc : c = a
    · simp [List.isPrefixOf, hc]
    · simp only [List.isPrefixOf, List.head?_cons, Option.some.injEq, Bool.and_true]
      rw [beq_eq_false_iff_ne.2 hc, decide_eq_false (fun e => hc e.symm)]
theorem trim_one (c : UInt8) (l : List UInt8) (h : l.head? = some c) : Lib.trimPrefix l [c] = l.tail := by
  unfold Lib.trimPrefix
  rw [pre_one, if_pos (decide_eq_true h)]
  simp

set_option maxHeartbeats 4000000 in
set_option maxRecDepth 100000 in
theorem cutStep_no91 (s : ByteArray) (hs : s.size ≤ 1000000) (W : World) (h91 : s.data.toList.head? ≠ some 91) :
    Calls Tryd.prog 26 #[.string s] W (CsEnd s.data.toList W) := by
  have HC := Lib.hid (fun w => Tryd.strings_CutPrefix s ⟨#[91]⟩ w)
  rw [show (⟨#[91]⟩ : ByteArray).data.toList = [91] from rfl, pre_one, decide_eq_false h91] at HC
  have HN := Lib.hid (show cutC s.data.toList = none by unfold cutC; rw [if_pos h91])
  clear h91
  generalize Lib.trimPrefix s.data.toList [91] = tr at *
  have H0 := Lib.hid (StB.start W #[])
  have f0 := H0.out.free 0
  have f1 := H0.out.free 1
  have f2 := H0.out.free 2
  go_enter Tryd.func26, Tryd.ntmps26
  go_wp2_with (go_at_call 25; refine (HC.out _).mono ?_; rintro e w' ⟨rfl, rfl⟩)
  refine bodyPost_ret (by simp [results, Tryd.results26, go_sem]; try rfl) rfl ?_
  exact CsEnd.no HN.out H0.out.2

set_option maxHeartbeats 4000000 in
set_option maxRecDepth 100000 in
theorem cutStep_name (s : ByteArray) (hs : s.size ≤ 1000000) (W : World) (h91 : s.data.toList.head? = some 91) (h39 : s.data.toList.tail.head? = some 39) :
    Calls Tryd.prog 26 #[.string s] W (CsEnd s.data.toList W) := by
  have HC := Lib.hid (fun w => Tryd.strings_CutPrefix s ⟨#[91]⟩ w)
  rw [show (⟨#[91]⟩ : ByteArray).data.toList = [91] from rfl, pre_one, decide_eq_true h91, trim_one _ _ h91] at HC
  have hcut : cutC s.data.toList = (innerC s.data.toList.tail).bind fun p => if p.2.head? ≠ some 93 then none else some (p.1, p.2.tail) := by
    unfold cutC
    rw [if_neg (fun h => h h91)]
  have hin : innerC s.data.toList.tail = (nameC s.data.toList.tail.length s.data.toList.tail.tail []).map fun p => (⟨true, p.1, 0⟩, p.2) := by
    unfold innerC
    rw [if_pos h39]
  have hsl : s.data.toList.tail.length ≤ 1000000 := by rw [List.length_tail]; show s.size - 1 ≤ _; omega
  obtain ⟨ib, hib⟩ : ∃ ib : ByteArray, (⟨s.data.toList.tail.toArray⟩ : ByteArray) = ib := ⟨_, rfl⟩
  have hil : s.data.toList.tail = ib.data.toList := by rw [← hib]
  rw [hib] at HC
  rw [hil] at hin h39 hsl
  clear hib
  have hz0 : 0 < ib.size := by
    cases hc : ib.data.toList with
    | nil => rw [hc] at h39; cases h39
    | cons a b => show 0 < ib.data.toList.length; rw [hc]; simp
  have e39 : ib[0] = 39 := by
    have hx : 0 < ib.data.toList.length := hz0
    have := List.drop_eq_getElem_cons hx
    rw [List.drop_zero] at this
    rw [this] at h39
    exact Option.some.inj h39
  have hE := neq_empty ib (by omega)
  have g39 : ((ib[0].toNat : Int) == 39) = true := by rw [e39]; rfl
  have g1I : (1 : Int) ≤ ib.size := by omega
  have ht1 := tail13 ib 1 (by omega)
  have hz1 : (ib.extract 1 ib.size).size = ib.size - 1 := by rw [ByteArray.size_extract]; omega
  have htt : ib.data.toList.tail = (ib.extract 1 ib.size).data.toList := by rw [ht1]; simp
  have hsl : ib.size ≤ 1000000 := hsl
  have HN := Lib.hid (fun w => cutName_any (ib.extract 1 ib.size) (by omega) w)
  rw [htt, show ib.data.toList.length = (ib.extract 1 ib.size).size + 1 by rw [hz1]; show ib.size = _; omega] at hin
  rw [hil, hin] at hcut
  unfold CnEnd at HN
  clear hin hil h39 ht1 hz1 htt h91 e39
  have H0 := Lib.hid (StB.start W #[])
  have f0 := H0.out.free 0
  have f1 := H0.out.free 1
  have f2 := H0.out.free 2
  have P1 := Lib.hid (StB.mk W (.bool true) (.string ⟨#[]⟩) (.int .i64 0))
  cases hnc : nameC ((ib.extract 1 ib.size).size + 1) (ib.extract 1 ib.size).data.toList [] with
  | none =>
    rw [hnc] at HN hcut
    have HF := Lib.hid (show cutC s.data.toList = none from hcut)
    clear hcut hnc
    go_enter Tryd.func26, Tryd.ntmps26
    go_wp2_with (first
      | (go_at_call 25; refine (HC.out _).mono ?_; rintro e w' ⟨rfl, rfl⟩)
      | (go_at_call 39; refine (HN.out _).mono ?_; rintro e w1 ⟨rfl, hb1⟩; have h1 := P1.out.on hb1; clear f0 f1 f2; have f0 := h1.free 0; have f1 := h1.free 1; have f2 := h1.free 2; have g0 := h1.a0; have g1 := h1.a1; have g2 := h1.a2; have h2 := h1.put1 (.string ⟨#[]⟩); have e0 := h2.free 0; have e1 := h2.free 1; have e2 := h2.free 2; have HP := Lib.hid h1; clear h1 hb1 h2))
    have H1 := (((HP.out.put1 (.string ⟨#[]⟩)).put0 (.bool false)).put1 (.string ⟨#[]⟩)).put2 (.int .i64 0)
    have d0 := H1.a0
    have d1 := H1.a1
    have d2 := H1.a2
    refine bodyPost_ret (by simp [results, Tryd.results26, go_sem, d0, d1, d2]; try rfl) rfl ?_
    exact CsEnd.no HF.out H1.2
  | some p =>
    obtain ⟨nm, r⟩ := p
    rw [hnc] at HN hcut
    have HK := Lib.hid (fun w => Tryd.strings_CutPrefix ⟨r.toArray⟩ ⟨#[93]⟩ w)
    rw [show (⟨#[93]⟩ : ByteArray).data.toList = [93] from rfl, show (⟨r.toArray⟩ : ByteArray).data.toList = r from rfl, pre_one] at HK
    have hcut : cutC s.data.toList = if r.head? ≠ some 93 then none else some (⟨true, nm, 0⟩, r.tail) := hcut
    by_cases h93 : r.head? = some 93
    · rw [decide_eq_true h93, trim_one _ _ h93] at HK
      rw [if_neg (fun h => h h93)] at hcut
      have HF := Lib.hid hcut
      clear hcut hnc h93
      go_enter Tryd.func26, Tryd.ntmps26
      have tk := trivial
      go_wp2_with (first
        | (go_at_call 25; clear tk; refine (HC.out _).mono ?_; rintro e w' ⟨rfl, rfl⟩)
        | (go_at_call 39; refine (HN.out _).mono ?_; rintro e w1 ⟨rfl, hb1⟩; have h1 := P1.out.on hb1; clear f0 f1 f2; have f0 := h1.free 0; have f1 := h1.free 1; have f2 := h1.free 2; have g0 := h1.a0; have g1 := h1.a1; have g2 := h1.a2; have h2 := h1.put1 (.string ⟨nm.toArray⟩); have d0 := h2.a0; have d1 := h2.a1; have d2 := h2.a2; have e0 := h2.free 0; have e1 := h2.free 1; have e2 := h2.free 2; have HP := Lib.hid h1; clear h1 hb1 h2)
        | (go_at_call 25; refine (HK.out _).mono ?_; rintro e w' ⟨rfl, rfl⟩))
      have H1 := HP.out.put1 (.string ⟨nm.toArray⟩)
      have H2 := ((H1.put0 (.bool true)).put1 (.string ⟨nm.toArray⟩)).put2 (.int .i64 0)
      have c0 := H2.a0
      have c1 := H2.a1
      have c2 := H2.a2
      refine bodyPost_ret (by simp [results, Tryd.results26, go_sem, c0, c1, c2]; try rfl) rfl ?_
      exact CsEnd.yes HF.out H2.2
    · rw [decide_eq_false h93] at HK
      rw [if_pos h93] at hcut
      have HF := Lib.hid hcut
      clear hcut hnc h93
      generalize Lib.trimPrefix r [93] = tr at *
      go_enter Tryd.func26, Tryd.ntmps26
      have tk := trivial
      go_wp2_with (first
        | (go_at_call 25; clear tk; refine (HC.out _).mono ?_; rintro e w' ⟨rfl, rfl⟩)
        | (go_at_call 39; refine (HN.out _).mono ?_; rintro e w1 ⟨rfl, hb1⟩; have h1 := P1.out.on hb1; clear f0 f1 f2; have f0 := h1.free 0; have f1 := h1.free 1; have f2 := h1.free 2; have g0 := h1.a0; have g1 := h1.a1; have g2 := h1.a2; have h2 := h1.put1 (.string ⟨nm.toArray⟩); have d0 := h2.a0; have d1 := h2.a1; have d2 := h2.a2; have e0 := h2.free 0; have e1 := h2.free 1; have e2 := h2.free 2; have HP := Lib.hid h1; clear h1 hb1 h2)
        | (go_at_call 25; refine (HK.out _).mono ?_; rintro e w' ⟨rfl, rfl⟩))
      have H1 := HP.out.put1 (.string ⟨nm.toArray⟩)
      have H2 := ((H1.put0 (.bool true)).put1 (.string ⟨nm.toArray⟩)).put2 (.int .i64 0)
      have c0 := H2.a0
      have c1 := H2.a1
      have c2 := H2.a2
      refine bodyPost_ret (by simp [results, Tryd.results26, go_sem, c0, c1, c2]; try rfl) rfl ?_
      exact CsEnd.no HF.out H2.2

end Go.Proofs.YtgcknlfpedanpaaDoor

namespace Go.Proofs.YtgcknlfpedanpaaDoor
open Go.RowKit
set_option linter.unusedVariables false
set_option linter.unusedSimpArgs false

set_option maxHeartbeats 4000000 in
set_option maxRecDepth 100000 in
theorem cutStep_index (s : ByteArray) (hs : s.size ≤ 1000000) (W : World) (hT : Err13 W) (h91 : s.data.toList.head? = some 91) (h39 : s.data.toList.tail.head? ≠ some 39) :
    Calls Tryd.prog 26 #[.string s] W (CsEnd s.data.toList W) := by
  have HC := Lib.hid (fun w => Tryd.strings_CutPrefix s ⟨#[91]⟩ w)
  rw [show (⟨#[91]⟩ : ByteArray).data.toList = [91] from rfl, pre_one, decide_eq_true h91, trim_one _ _ h91] at HC
  have hcut : cutC s.data.toList = (innerC s.data.toList.tail).bind fun p => if p.2.head? ≠ some 93 then none else some (p.1, p.2.tail) := by
    unfold cutC
    rw [if_neg (fun h => h h91)]
  have hin : innerC s.data.toList.tail = (indexC s.data.toList.tail).map fun p => (⟨false, [], p.1⟩, p.2) := by
    unfold innerC
    rw [if_neg h39]
  have hsl : s.data.toList.tail.length ≤ 1000000 := by rw [List.length_tail]; show s.size - 1 ≤ _; omega
  obtain ⟨ib, hib⟩ : ∃ ib : ByteArray, (⟨s.data.toList.tail.toArray⟩ : ByteArray) = ib := ⟨_, rfl⟩
  have hil : s.data.toList.tail = ib.data.toList := by rw [← hib]
  rw [hib] at HC
  rw [hil] at hin h39 hsl
  clear hib
  have hsl : ib.size ≤ 1000000 := hsl
  have H0 := Lib.hid (StB.start W #[])
  have HT := Lib.hid (hT.stay H0.out.2)
  have HN := Lib.hid (fun w hw => cutIndex_any ib hsl w hw)
  rw [hil, hin] at hcut
  unfold CiEnd at HN
  have hE : ib.size = 0 ∨ (0 < ib.size ∧ ∀ h : 0 < ib.size, ((ib[0].toNat : Int) == 39) = false) := by
    rcases Nat.eq_zero_or_pos ib.size with h | h
    · exact .inl h
    · refine .inr ⟨h, fun h => ?_⟩
      have hx : 0 < ib.data.toList.length := h
      have := List.drop_eq_getElem_cons hx
      rw [List.drop_zero] at this
      rw [this] at h39
      rw [beq_eq_false_iff_ne]
      intro e
      have : ib[0] = 39 := UInt8.toNat_inj.1 (by show ib[0].toNat = 39; omega)
      exact h39 (congrArg some this)
  clear hin hil h39 h91 hT
  have f0 := H0.out.free 0
  have f1 := H0.out.free 1
  have f2 := H0.out.free 2
  cases hnc : indexC ib.data.toList with
  | none =>
    rw [hnc] at HN hcut
    have HF := Lib.hid (show cutC s.data.toList = none from hcut)
    clear hcut hnc
    have fin : ∀ (x : Int) (w1 : World), StB W (.bool false) (.string ⟨#[]⟩) (.int .i64 0) w1 → StB W (.bool false) (.string ⟨#[]⟩) (.int .i64 0) ((((w1.setCell ⟨W.heap.size, 2, none⟩ (.int .i64 x)).setCell ⟨W.heap.size, 0, none⟩ (.bool false)).setCell ⟨W.heap.size, 1, none⟩ (.string ⟨#[]⟩)).setCell ⟨W.heap.size, 2, none⟩ (.int .i64 0)) := fun x w1 h => (((h.put2 _).put0 _).put1 _).put2 _
    rcases hE with hE | ⟨h0, hE⟩
    · obtain rfl := ba_empty hE
      clear hE
      go_enter Tryd.func26, Tryd.ntmps26
      go_wp2_with (first
        | (go_at_call 25; refine (HC.out _).mono ?_; rintro e w' ⟨rfl, rfl⟩)
        | (go_at_call 40; refine (HN.out _ HT.out).mono ?_; rintro e w1 ⟨⟨x, r, rfl⟩, hb1⟩; have h1 := H0.out.on hb1; clear f0 f1 f2; have f0 := h1.free 0; have f1 := h1.free 1; have f2 := h1.free 2; have g0 := h1.a0; have g1 := h1.a1; have g2 := h1.a2; have h2 := h1.put2 (.int .i64 x); have d0 := h2.a0; have d1 := h2.a1; have d2 := h2.a2; have e0 := h2.free 0; have e1 := h2.free 1; have e2 := h2.free 2; have HP := Lib.hid h1; clear h1 hb1 h2))
      have H1 := fin x _ HP.out
      have d0 := H1.a0
      have d1 := H1.a1
      have d2 := H1.a2
      refine bodyPost_ret (by simp [results, Tryd.results26, go_sem, d0, d1, d2]; try rfl) rfl ?_
      exact CsEnd.no (n := []) HF.out H1.2
    · have hE := hE h0
      have hEm := neq_empty ib (by omega)
      go_enter Tryd.func26, Tryd.ntmps26
      go_wp2_with (first
        | (go_at_call 25; refine (HC.out _).mono ?_; rintro e w' ⟨rfl, rfl⟩)
        | (go_at_call 40; refine (HN.out _ HT.out).mono ?_; rintro e w1 ⟨⟨x, r, rfl⟩, hb1⟩; have h1 := H0.out.on hb1; clear f0 f1 f2; have f0 := h1.free 0; have f1 := h1.free 1; have f2 := h1.free 2; have g0 := h1.a0; have g1 := h1.a1; have g2 := h1.a2; have h2 := h1.put2 (.int .i64 x); have d0 := h2.a0; have d1 := h2.a1; have d2 := h2.a2; have e0 := h2.free 0; have e1 := h2.free 1; have e2 := h2.free 2; have HP := Lib.hid h1; clear h1 hb1 h2))
      have H1 := fin x _ HP.out
      have d0 := H1.a0
      have d1 := H1.a1
      have d2 := H1.a2
      refine bodyPost_ret (by simp [results, Tryd.results26, go_sem, d0, d1, d2]; try rfl) rfl ?_
      exact CsEnd.no (n := []) HF.out H1.2
  | some p =>
    obtain ⟨v, r⟩ := p
    rw [hnc] at HN hcut
    have HK := Lib.hid (fun w => Tryd.strings_CutPrefix ⟨r.toArray⟩ ⟨#[93]⟩ w)
    rw [show (⟨#[93]⟩ : ByteArray).data.toList = [93] from rfl, show (⟨r.toArray⟩ : ByteArray).data.toList = r from rfl, pre_one] at HK
    have hcut : cutC s.data.toList = if r.head? ≠ some 93 then none else some (⟨false, [], v⟩, r.tail) := hcut
    have hend : ∀ tr : List UInt8, (∃ b : Bool, b = decide (r.head? = some 93) ∧ tr = Lib.trimPrefix r [93]) → ∀ w', Below W.heap.size W w' → CsEnd s.data.toList W (.returned (.tuple #[.agg #[.bool false, .string ⟨#[]⟩, .int .i64 v], .string ⟨tr.toArray⟩, .bool (decide (r.head? = some 93))])) w' := by
      rintro tr ⟨b, _, rfl⟩ w' hb
      by_cases h93 : r.head? = some 93
      · rw [decide_eq_true h93, trim_one _ _ h93]
        rw [if_neg (fun h => h h93)] at hcut
        exact CsEnd.yes (st := ⟨false, [], v⟩) hcut hb
      · rw [decide_eq_false h93]
        rw [if_pos h93] at hcut
        exact CsEnd.no (n := []) hcut hb
    have HE := Lib.hid (hend _ ⟨_, rfl, rfl⟩)
    have fin : ∀ (w1 : World), StB W (.bool false) (.string ⟨#[]⟩) (.int .i64 0) w1 → StB W (.bool false) (.string ⟨#[]⟩) (.int .i64 v) ((((w1.setCell ⟨W.heap.size, 2, none⟩ (.int .i64 v)).setCell ⟨W.heap.size, 0, none⟩ (.bool false)).setCell ⟨W.heap.size, 1, none⟩ (.string ⟨#[]⟩)).setCell ⟨W.heap.size, 2, none⟩ (.int .i64 v)) := fun w1 h => (((h.put2 _).put0 _).put1 _).put2 _
    clear hcut hnc hend
    generalize decide (r.head? = some 93) = ok at *
    generalize Lib.trimPrefix r [93] = tr at *
    rcases hE with hE | ⟨h0, hE⟩
    · obtain rfl := ba_empty hE
      clear hE
      go_enter Tryd.func26, Tryd.ntmps26
      have tk := trivial
      go_wp2_with (first
        | (go_at_call 25; clear tk; refine (HC.out _).mono ?_; rintro e w' ⟨rfl, rfl⟩)
        | (go_at_call 40; refine (HN.out _ HT.out).mono ?_; rintro e w1 ⟨rfl, hb1⟩; have h1 := H0.out.on hb1; clear f0 f1 f2; have f0 := h1.free 0; have f1 := h1.free 1; have f2 := h1.free 2; have g0 := h1.a0; have g1 := h1.a1; have g2 := h1.a2; have h2 := h1.put2 (.int .i64 v); have d0 := h2.a0; have d1 := h2.a1; have d2 := h2.a2; have e0 := h2.free 0; have e1 := h2.free 1; have e2 := h2.free 2; have HP := Lib.hid h1; clear h1 hb1 h2)
        | (go_at_call 25; refine (HK.out _).mono ?_; rintro e w' ⟨rfl, rfl⟩))
      have H2 := fin _ HP.out
      have c0 := H2.a0
      have c1 := H2.a1
      have c2 := H2.a2
      refine bodyPost_ret (by simp [results, Tryd.results26, go_sem, c0, c1, c2]; try rfl) rfl ?_
      exact HE.out _ H2.2
    · have hE := hE h0
      have hEm := neq_empty ib (by omega)
      go_enter Tryd.func26, Tryd.ntmps26
      have tk := trivial
      go_wp2_with (first
        | (go_at_call 25; clear tk; refine (HC.out _).mono ?_; rintro e w' ⟨rfl, rfl⟩)
        | (go_at_call 40; refine (HN.out _ HT.out).mono ?_; rintro e w1 ⟨rfl, hb1⟩; have h1 := H0.out.on hb1; clear f0 f1 f2; have f0 := h1.free 0; have f1 := h1.free 1; have f2 := h1.free 2; have g0 := h1.a0; have g1 := h1.a1; have g2 := h1.a2; have h2 := h1.put2 (.int .i64 v); have d0 := h2.a0; have d1 := h2.a1; have d2 := h2.a2; have e0 := h2.free 0; have e1 := h2.free 1; have e2 := h2.free 2; have HP := Lib.hid h1; clear h1 hb1 h2)
        | (go_at_call 25; refine (HK.out _).mono ?_; rintro e w' ⟨rfl, rfl⟩))
      have H2 := fin _ HP.out
      have c0 := H2.a0
      have c1 := H2.a1
      have c2 := H2.a2
      refine bodyPost_ret (by simp [results, Tryd.results26, go_sem, c0, c1, c2]; try rfl) rfl ?_
      exact HE.out _ H2.2

theorem cutStep_any (s : ByteArray) (hs : s.size ≤ 1000000) (W : World) (hT : Err13 W) :
    Calls Tryd.prog 26 #[.string s] W (CsEnd s.data.toList W) := by
  by_cases h91 : s.data.toList.head? = some 91
  · by_cases h39 : s.data.toList.tail.head? = some 39
    · exact cutStep_name s hs W h91 h39
    · exact cutStep_index s hs W hT h91 h39
  · exact cutStep_no91 s hs W h91

theorem runU_low : ∀ (l : List UInt8) (sg lf n : Int), 0 ≤ n → -1 ≤ runU sg lf l n
  | [], sg, lf, n, h => by
    unfold runU
    split <;> omega
  | c :: t, sg, lf, n, h => by
    unfold runU
    split
    · exact runU_low t _ _ (n + 1) (by omega)
    · omega
theorem badU_low (l : List UInt8) : -1 ≤ badU l := runU_low l 0 0 0 (by omega)

set_option maxRecDepth 100000 in
set_option maxHeartbeats 2000000 in
theorem right13p_any (s : Pst) (W : World) (hs : s.name.length ≤ maxLen) :
    Calls Tryd.prog 8 #[.agg (stpV s)] W fun e w' => e = .returned (.bool (rightB s)) ∧ Below W.heap.size W w' := by
  obtain ⟨nd, nm, ix⟩ := s
  have HB := Lib.hid (fun w => bad_any ⟨nm.toArray⟩ w (by exact hs))
  rw [show (⟨nm.toArray⟩ : ByteArray).data.toList = nm from rfl] at HB
  have HE := Lib.hid (name_eq nm)
  have hr : rightB ⟨nd, nm, ix⟩ = if nd then decide (ix = 0) && decide (badU nm = -1) else decide (nm = []) && decide (0 ≤ ix ∧ ix ≤ 9007199254740991) := rfl
  rw [hr]
  clear hr
  unfold stpV
  cases nd
  · show Calls _ _ _ _ fun e w' => e = .returned (.bool (decide (nm = []) && decide (0 ≤ ix ∧ ix ≤ 9007199254740991))) ∧ _
    by_cases h0 : nm = []
    · have e1 := HE.out
      rw [decide_eq_true h0] at e1 ⊢
      have hd : (true && decide (0 ≤ ix ∧ ix ≤ 9007199254740991)) = (decide (0 ≤ ix) && decide (ix ≤ 9007199254740991)) := by
        by_cases a : 0 ≤ ix <;> by_cases b : ix ≤ 9007199254740991 <;> simp [a, b]
      rw [hd]
      clear hd HE h0 HB
      generalize (⟨nm.toArray⟩ : ByteArray) = nb at *
      go_enter Tryd.func8, Tryd.ntmps8
      go_wp2
      all_goals
        go_ret
        exact ⟨ret_b (by first | (simp_all; done) | (simp_all; omega)), below1 _ _⟩
    · have e1 := HE.out
      rw [decide_eq_false h0] at e1 ⊢
      clear HE h0 HB
      generalize (⟨nm.toArray⟩ : ByteArray) = nb at *
      go_enter Tryd.func8, Tryd.ntmps8
      go_wp2
      all_goals
        go_ret
        exact ⟨ret_b (by first | (simp_all; done) | (simp_all; omega)), below1 _ _⟩
  · show Calls _ _ _ _ fun e w' => e = .returned (.bool (decide (ix = 0) && decide (badU nm = -1))) ∧ _
    clear HE
    have HL := Lib.hid (badU_low nm)
    generalize badU nm = bu at *
    generalize (⟨nm.toArray⟩ : ByteArray) = nb at *
    by_cases h0 : ix = 0
    · subst h0
      have hd : (decide ((0 : Int) = 0) && decide (bu = -1)) = decide (bu < 0) := by
        have h1 : decide (bu = -1) = decide (bu < 0) := by
          have hl := HL.out
          by_cases a : bu = -1
          · rw [decide_eq_true a, decide_eq_true (show bu < 0 by omega)]
          · rw [decide_eq_false a, decide_eq_false (show ¬ bu < 0 by omega)]
        rw [h1]
        simp
      rw [hd]
      clear hd
      go_enter Tryd.func8, Tryd.ntmps8
      go_wp2_with (go_at_call 17; refine (HB.out _).mono ?_; rintro e w' ⟨rfl, hb⟩; have HW := Lib.hid ((below1 W _).trans (hb.mono (by simp))); clear hb)
      go_ret
      exact ⟨ret_b (by simp), HW.out⟩
    · rw [decide_eq_false h0]
      have g0 : (ix == 0) = false := beq_eq_false_iff_ne.2 h0
      go_enter Tryd.func8, Tryd.ntmps8
      go_wp2
      go_ret
      exact ⟨ret_b (by simp), below1 _ _⟩

end Go.Proofs.YtgcknlfpedanpaaDoor
