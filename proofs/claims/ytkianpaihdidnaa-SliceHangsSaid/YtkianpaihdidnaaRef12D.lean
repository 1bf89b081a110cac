/- The document's All (riffleref12): its walk. -/
import Derived.Test.YtkianpaihdidnaaRef12A
namespace Go.Proofs.Ytkianpaihdidnaa
open Go.RowKit
set_option linter.unusedVariables false

theorem own_bool {w : World} {g n : Nat} {f : Nat → Bool} (h : Own w g 4 (bls ((List.range n).map f)).toArray) (k : Nat) (hk : k < n) : w.cell? ⟨g, k, none⟩ = some (.bool (f k)) := by
  have := h.at k
  rw [this]
  simp [bls, hk]
theorem own_set {w : World} {g n : Nat} {f f' : Nat → Bool} (h : Own w g 4 (bls ((List.range n).map f)).toArray) (i : Nat) (hi : i < n) (hf : ∀ j, j < n → f' j = if j = i then true else f j) :
    Own (w.setCell ⟨g, i, none⟩ (.bool true)) g 4 (bls ((List.range n).map f')).toArray := by
  have := h.put i (.bool true)
  rwa [List.setIfInBounds_toArray, bls_set, set_map n f f' i hi hf] at this
theorem own_same {w : World} {g n : Nat} {f f' : Nat → Bool} (h : Own w g 4 (bls ((List.range n).map f)).toArray) (hf : ∀ j, j < n → f j = f' j) : Own w g 4 (bls ((List.range n).map f')).toArray := by
  have e : (List.range n).map f = (List.range n).map f' := List.map_congr_left fun j hj => hf j (List.mem_range.1 hj)
  rwa [e] at h
theorem below_put {w w' : World} {B g i : Nat} {v : Value} (h : Below B w w') (hg : B ≤ g) : Below B w (w'.setCell ⟨g, i, none⟩ v) := h.setCell hg v

/-- Where the loop that collects is. -/
def RelCo (W : World) (g base n : Nat) (f : Nat → Bool) (vO vi : Value) (wr : World) : Prop :=
  ∃ k : Nat, k ≤ n ∧ vi = .int .i64 k ∧ GRow nmK wr base vO (((List.range n).take k).filter f) ∧ Own wr g 4 (bls ((List.range n).map f)).toArray ∧ Below W.heap.size W wr ∧ base ≤ wr.heap.size
/-- Where the loop upwards is. -/
def RelUp (W : World) (b g n : Nat) (cs : Array Value) (lo hi st : Int) (vi : Value) (wr : World) : Prop :=
  ∃ i : Int, vi = .int .i64 i ∧ lo ≤ i ∧ i ≤ (n : Int) + st ∧ (i - lo) % st = 0 ∧ (i = lo ∨ i - st < hi) ∧ Own wr g 4 (bls ((List.range n).map (upTo lo st i))).toArray ∧ Own wr b 23 cs ∧ Below W.heap.size W wr
/-- Where the loop downwards is. -/
def RelDo (W : World) (b g n : Nat) (cs : Array Value) (lo hi st : Int) (vi : Value) (wr : World) : Prop :=
  ∃ i : Int, vi = .int .i64 i ∧ i ≤ hi ∧ -1 - st ≤ i ∧ (hi - i) % st = 0 ∧ (i = hi ∨ lo < i + st) ∧ Own wr g 4 (bls ((List.range n).map (downTo hi st i))).toArray ∧ Own wr b 23 cs ∧ Below W.heap.size W wr

/-- Behind an append of the loop that collects. -/
theorem co_next {W wr w5 : World} {g base n k : Nat} {f : Nat → Bool} {vO vO' : Value} (hk : k < n) (hf : f k = true) (ho : Own wr g 4 (bls ((List.range n).map f)).toArray) (hb : Below W.heap.size W wr) (hbase : base ≤ wr.heap.size) (hgb : g < base) (hW : W.heap.size ≤ base)
    (hrow0 : GRow nmK wr base vO (((List.range n).take k).filter f)) (hrow : GRow nmK w5 base vO' (((List.range n).take k).filter f ++ [k])) (hg : (wr.alloc (.cells #[.int .i64 k] 3)).grownBy w5 vO.ownBlock) :
    RelCo W g base n f vO' (.int .i64 ((k + 1 : Nat) : Int)) w5 := by
  have hd := below1s wr (.cells #[.int .i64 k] 3)
  have hz := hg.size
  have e : (wr.alloc (.cells #[.int .i64 k] 3)).heap.size = wr.heap.size + 1 := by simp
  refine ⟨k + 1, hk, rfl, ?_, ?_, ?_, by omega⟩
  · rw [filter_take n f k hk, hf]
    exact hrow
  · have h1 := ho.stay hd ho.inside
    exact (hg.block g h1.inside (fun e2 => by have := (hrow0.low e2.symm).1; omega)).trans h1
  · refine (hb.alloc hb.size _).grown hg (by have := hb.size; omega) (fun k2 e2 => ?_)
    have := (hrow0.low e2).1
    omega


theorem own_sel8 {w : World} {b : Nat} {T : TypeId} {a0 a1 a2 a3 a4 a5 a6 a7 : Value} (o : Own w b T #[a0, a1, a2, a3, a4, a5, a6, a7]) :
    w.cell? ⟨b, 0, none⟩ = some a0 ∧ w.cell? ⟨b, 1, none⟩ = some a1 ∧ w.cell? ⟨b, 2, none⟩ = some a2 ∧ w.cell? ⟨b, 3, none⟩ = some a3 ∧ w.cell? ⟨b, 4, none⟩ = some a4 ∧ w.cell? ⟨b, 5, none⟩ = some a5 ∧ w.cell? ⟨b, 6, none⟩ = some a6 ∧ w.cell? ⟨b, 7, none⟩ = some a7 :=
  ⟨o.at 0, o.at 1, o.at 2, o.at 3, o.at 4, o.at 5, o.at 6, o.at 7⟩
theorem nm_all (l : List Nat) : nmK.all l = idxs l := by
  induction l with
  | nil => rfl
  | cons a t ih => show nmK.enc a ++ nmK.all t = _; rw [ih]; rfl

set_option maxRecDepth 100000 in
set_option maxHeartbeats 8000000 in
theorem rall_other (s : Sel) (n : Nat) (W : World) (hs : RightI s) (hn : n ≤ 1000) (hk2 : s.kind ≠ 2) (hk : s.kind ≠ 3) :
    Calls Try.prog 17 #[.agg (selV s), .int .i64 n] W fun e w' => ∃ A c, e = .returned (.slice A (allI s n).length c) ∧ Rd w' w'.heap.size A (allI s n).length (idxs (allI s n)) ∧ Below W.heap.size W w' := by
  have hs0 := SelAt.start s (Below.refl W.heap.size W)
  have HB := Lib.hid (fun w => rbounds_any s n w hs (by omega) (by omega))
  have HP := Lib.hid (fun w => rplace_any s.index n w hs.index.mid ⟨by omega, by omega⟩)
  have hbd := bounds_in s n (by omega)
  have hsb := hs.stride
  unfold okI at hsb
  have hnI : (n : Int) ≤ 1000 := by omega
  have ho0 := Own.fresh W 23 (selV s)
  obtain ⟨i0, hi, hz0, hz1, hz2⟩ := info_parts bool_info12
  have hmk := fun W => run_make (P := Try.prog) W 36 4 i0 _ Try.underlying36 hi hz0 .i64 .i64 (n : Int) (n : Int) (by omega) (by omega) (by rw [hz2]; omega) (by omega)
  rw [hz1] at hmk
  simp only [Nat.mul_one, Int.toNat_natCast] at hmk
  clear hi hz0 hz1 hz2
  have ho1 := ho0.over (.cells (madeCells #[Value.bool false] n) 4)
  have hg1 : Own ((W.alloc (.cells (selV s) 23)).alloc (.cells (madeCells #[Value.bool false] n) 4)) (W.heap.size + 1) 4 (bls ((List.range n).map fun _ => false)).toArray := by
    have := Own.fresh (W.alloc (.cells (selV s) 23)) 4 (madeCells #[Value.bool false] n)
    have e : (W.alloc (.cells (selV s) 23)).heap.size = W.heap.size + 1 := by simp
    rw [e] at this
    have e2 : bls ((List.range n).map fun _ => false) = List.replicate n (.bool false) := by
      apply List.ext_getElem
      · simp [bls]
      · intro j h1 h2; simp [bls]
    rw [e2, ← made_one]
    exact this
  have hbl : Below W.heap.size W ((W.alloc (.cells (selV s) 23)).alloc (.cells (madeCells #[Value.bool false] n) 4)) := (below1s W _).alloc (by simp) _
  have hk3 : s.kind ≠ 3 ∨ s.stride = 0 := .inl hk
  have HALL := Lib.hid (show ∀ j, j < n → (fun _ : Nat => false) j = hasI s j n from fun j hj => (has_none s j n (by omega) (by omega) hk2 hk3).symm)
  have g2 : (s.kind == 2) = false := beq_eq_false_iff_ne.2 hk2
  generalize hf : (fun _ : Nat => false) = f at *
  have g3 : (s.kind == 3) = false := beq_eq_false_iff_ne.2 hk
  clear hf hk2 hk3 hk hs hs0
  unfold selV at ho1 hbl hg1 HB
  unfold selV
  generalize s.kind = kd at *
  go_enter Try.func17, Try.ntmps17
  go_upto_region 15 with (first
    | (go_at_call 9; refine (HB.out _).mono ?_; rintro e w3 ⟨rfl, hb3⟩
       have HO3 := Lib.hid (ho1.stay hb3 ho1.inside); have HG3 := Lib.hid (hg1.stay hb3 hg1.inside); have HBL := Lib.hid (hbl.trans (hb3.mono hbl.size))
       obtain ⟨s0, s1, s2, s3, s4, s5, s6, s7⟩ := own_sel8 HO3.out)
    | (go_at_call 15; refine (HP.out _).mono ?_; rintro e w' ⟨rfl, hw⟩; have hw := hw.symm; subst hw))
  have HG := HG3
  have HL := HBL
  clear s0 s1 s2 s3 s4 s5 s6 s7 HO3 hb3 ho1 hg1 hbl HG3 HBL
  generalize hw9 : w3 = w9 at *
  clear hw9
  go_wp2
  have hz9 := HL.out.size
  have hg9 := HG.out.inside
  have hcr : GRow nmK (w9.alloc (.cells #[] 3)) w9.heap.size (.slice (some ⟨w9.heap.size, 0, none⟩) 0 0) [] := GRow.made (K := nmK) (l := []) (base := w9.heap.size) w9 #[] rfl (by decide) (Nat.le_refl _)
  have hco : RelCo W (W.heap.size + 1) w9.heap.size n f (.slice (some ⟨w9.heap.size, 0, none⟩) 0 0) (.int .i64 0) (w9.alloc (.cells #[] 3)) := ⟨0, Nat.zero_le _, rfl, by simpa using hcr, HG.out.over _, HL.out.alloc hz9 _, by simp⟩
  go_loopw [10, 86] (fun vO vi wr => RelCo W (W.heap.size + 1) w9.heap.size n f vO vi wr) (fun _ vi _ => n - (intOf vi).toNat)
  case atStart => exact hco
  case round =>
    obtain ⟨k, hk, rfl, hrow, hown, hbw, hbase⟩ := hrel
    obtain ⟨A8, c8, rfl, _⟩ := hrow.form
    by_cases hlt : k < n
    · have hkI : (k : Int) < n := by omega
      have hcell := own_bool hown k hlt
      have hfew : (((List.range n).take k).filter f).length ≤ 1000 := by
        have h1 := List.length_filter_le f ((List.range n).take k)
        have h2 : ((List.range n).take k).length ≤ n := by simp; omega
        omega
      have HR := Lib.hid hrow
      have HOW := Lib.hid hown
      have HBW := Lib.hid hbw
      have hr1 : RdG nmK (wr.alloc (.cells #[.int .i64 k] 3)) (some ⟨wr.heap.size, 0, none⟩) 1 [k] := (GRow.made (K := nmK) (l := [k]) (base := 0) wr #[.int .i64 k] rfl (show 1 ≤ maxLen by decide) (Nat.zero_le _)).rd
      have hrow1 := hrow.stay (w' := wr.alloc (.cells #[.int .i64 k] 3)) (fun g hg => (below1s wr _).block g (hrow.low hg).2)
      cases hfk : f k
      · rw [hfk] at hcell
        have HF := Lib.hid hfk
        clear hfk hown hbw hrow hrow1 hr1
        go_wp2
        go_roundw
        case rel => exact ⟨k + 1, hlt, by go_num, by rw [filter_take n f k hlt, HF.out]; simpa using HR.out, HOW.out, HBW.out, hbase⟩
        case measure => simp [intOf]; omega
      · rw [hfk] at hcell
        have HF := Lib.hid hfk
        have HR1 := Lib.hid hrow1
        have HN1 := Lib.hid hr1
        clear hfk hown hbw hrow hrow1 hr1
        go_wp2_with (at_builtin; refine row_append (K := nmK) _ rfl (.tmp 92) (.tmp 94) rfl w9.heap.size _ (((List.range n).take k).filter f) rfl HR1.out _ 1 1 [k] rfl HN1.out (by omega) (by simp; omega) ?_; intro vO' w5 hr5 hg5 ho5)
        go_roundw
        case rel =>
          have := co_next hlt HF.out HOW.out HBW.out hbase hg9 hz9 HR.out hr5 hg5
          have e : ((k + 1 : Nat) : Int) = (k : Int) + 1 := by omega
          rw [e] at this
          exact this
        case measure => simp [intOf]; omega
    · obtain rfl : n = k := by omega
      rw [List.take_of_length_le (by simp)] at hrow
      have hkI : ¬ (n : Int) < n := by omega
      have hall : (List.range n).filter f = allI s n := by
        unfold allI
        apply List.filter_congr
        intro j hj
        exact HALL.out j (List.mem_range.1 hj)
      rw [hall] at hrow
      have hrd := hrow.rd
      rw [List.take_of_length_le (by simp), hall]
      go_wp2
      go_ret
      refine ⟨_, ⟨_, rfl⟩, ?_, hbw⟩
      refine ⟨by simp [idxs], fun hn => ?_⟩
      obtain ⟨g, o, e, h1, h2⟩ := hrd.2 hn
      refine ⟨_, e, h1, fun j u hu => ?_⟩
      rw [add_none]
      refine h2 j u ?_
      rw [nm_all]
      exact hu

set_option maxRecDepth 100000 in
set_option maxHeartbeats 8000000 in
theorem rall_zero (s : Sel) (n : Nat) (W : World) (hs : RightI s) (hn : n ≤ 1000) (hk : s.kind = 3) (hst : s.stride = 0) :
    Calls Try.prog 17 #[.agg (selV s), .int .i64 n] W fun e w' => ∃ A c, e = .returned (.slice A (allI s n).length c) ∧ Rd w' w'.heap.size A (allI s n).length (idxs (allI s n)) ∧ Below W.heap.size W w' := by
  have hs0 := SelAt.start s (Below.refl W.heap.size W)
  have HB := Lib.hid (fun w => rbounds_any s n w hs (by omega) (by omega))
  have HP := Lib.hid (fun w => rplace_any s.index n w hs.index.mid ⟨by omega, by omega⟩)
  have hbd := bounds_in s n (by omega)
  have hsb := hs.stride
  unfold okI at hsb
  have hnI : (n : Int) ≤ 1000 := by omega
  have ho0 := Own.fresh W 23 (selV s)
  obtain ⟨i0, hi, hz0, hz1, hz2⟩ := info_parts bool_info12
  have hmk := fun W => run_make (P := Try.prog) W 36 4 i0 _ Try.underlying36 hi hz0 .i64 .i64 (n : Int) (n : Int) (by omega) (by omega) (by rw [hz2]; omega) (by omega)
  rw [hz1] at hmk
  simp only [Nat.mul_one, Int.toNat_natCast] at hmk
  clear hi hz0 hz1 hz2
  have ho1 := ho0.over (.cells (madeCells #[Value.bool false] n) 4)
  have hg1 : Own ((W.alloc (.cells (selV s) 23)).alloc (.cells (madeCells #[Value.bool false] n) 4)) (W.heap.size + 1) 4 (bls ((List.range n).map fun _ => false)).toArray := by
    have := Own.fresh (W.alloc (.cells (selV s) 23)) 4 (madeCells #[Value.bool false] n)
    have e : (W.alloc (.cells (selV s) 23)).heap.size = W.heap.size + 1 := by simp
    rw [e] at this
    have e2 : bls ((List.range n).map fun _ => false) = List.replicate n (.bool false) := by
      apply List.ext_getElem
      · simp [bls]
      · intro j h1 h2; simp [bls]
    rw [e2, ← made_one]
    exact this
  have hbl : Below W.heap.size W ((W.alloc (.cells (selV s) 23)).alloc (.cells (madeCells #[Value.bool false] n) 4)) := (below1s W _).alloc (by simp) _
  have hk2 : s.kind ≠ 2 := by omega
  have hk3 : s.kind ≠ 3 ∨ s.stride = 0 := .inr hst
  have HALL := Lib.hid (show ∀ j, j < n → (fun _ : Nat => false) j = hasI s j n from fun j hj => (has_none s j n (by omega) (by omega) hk2 hk3).symm)
  have g2 : (s.kind == 2) = false := beq_eq_false_iff_ne.2 hk2
  generalize hf : (fun _ : Nat => false) = f at *
  have g3 : (s.kind == 3) = true := beq_iff_eq.2 hk
  have g4 : ¬ s.stride > 0 := by omega
  have g5 : ¬ s.stride < 0 := by omega
  clear hf hk2 hk3 hk hst hs hs0
  unfold selV at ho1 hbl hg1 HB
  unfold selV
  generalize s.kind = kd at *
  generalize s.stride = sd at *
  go_enter Try.func17, Try.ntmps17
  go_upto_region 15 with (first
    | (go_at_call 9; refine (HB.out _).mono ?_; rintro e w3 ⟨rfl, hb3⟩
       have HO3 := Lib.hid (ho1.stay hb3 ho1.inside); have HG3 := Lib.hid (hg1.stay hb3 hg1.inside); have HBL := Lib.hid (hbl.trans (hb3.mono hbl.size))
       obtain ⟨s0, s1, s2, s3, s4, s5, s6, s7⟩ := own_sel8 HO3.out)
    | (go_at_call 15; refine (HP.out _).mono ?_; rintro e w' ⟨rfl, hw⟩; have hw := hw.symm; subst hw))
  have HG := HG3
  have HL := HBL
  clear s0 s1 s2 s3 s4 s5 s6 s7 HO3 hb3 ho1 hg1 hbl HG3 HBL
  generalize hw9 : w3 = w9 at *
  clear hw9
  go_wp2
  have hz9 := HL.out.size
  have hg9 := HG.out.inside
  have hcr : GRow nmK (w9.alloc (.cells #[] 3)) w9.heap.size (.slice (some ⟨w9.heap.size, 0, none⟩) 0 0) [] := GRow.made (K := nmK) (l := []) (base := w9.heap.size) w9 #[] rfl (by decide) (Nat.le_refl _)
  have hco : RelCo W (W.heap.size + 1) w9.heap.size n f (.slice (some ⟨w9.heap.size, 0, none⟩) 0 0) (.int .i64 0) (w9.alloc (.cells #[] 3)) := ⟨0, Nat.zero_le _, rfl, by simpa using hcr, HG.out.over _, HL.out.alloc hz9 _, by simp⟩
  go_loopw [10, 86] (fun vO vi wr => RelCo W (W.heap.size + 1) w9.heap.size n f vO vi wr) (fun _ vi _ => n - (intOf vi).toNat)
  case atStart => exact hco
  case round =>
    obtain ⟨k, hk, rfl, hrow, hown, hbw, hbase⟩ := hrel
    obtain ⟨A8, c8, rfl, _⟩ := hrow.form
    by_cases hlt : k < n
    · have hkI : (k : Int) < n := by omega
      have hcell := own_bool hown k hlt
      have hfew : (((List.range n).take k).filter f).length ≤ 1000 := by
        have h1 := List.length_filter_le f ((List.range n).take k)
        have h2 : ((List.range n).take k).length ≤ n := by simp; omega
        omega
      have HR := Lib.hid hrow
      have HOW := Lib.hid hown
      have HBW := Lib.hid hbw
      have hr1 : RdG nmK (wr.alloc (.cells #[.int .i64 k] 3)) (some ⟨wr.heap.size, 0, none⟩) 1 [k] := (GRow.made (K := nmK) (l := [k]) (base := 0) wr #[.int .i64 k] rfl (show 1 ≤ maxLen by decide) (Nat.zero_le _)).rd
      have hrow1 := hrow.stay (w' := wr.alloc (.cells #[.int .i64 k] 3)) (fun g hg => (below1s wr _).block g (hrow.low hg).2)
      cases hfk : f k
      · rw [hfk] at hcell
        have HF := Lib.hid hfk
        clear hfk hown hbw hrow hrow1 hr1
        go_wp2
        go_roundw
        case rel => exact ⟨k + 1, hlt, by go_num, by rw [filter_take n f k hlt, HF.out]; simpa using HR.out, HOW.out, HBW.out, hbase⟩
        case measure => simp [intOf]; omega
      · rw [hfk] at hcell
        have HF := Lib.hid hfk
        have HR1 := Lib.hid hrow1
        have HN1 := Lib.hid hr1
        clear hfk hown hbw hrow hrow1 hr1
        go_wp2_with (at_builtin; refine row_append (K := nmK) _ rfl (.tmp 92) (.tmp 94) rfl w9.heap.size _ (((List.range n).take k).filter f) rfl HR1.out _ 1 1 [k] rfl HN1.out (by omega) (by simp; omega) ?_; intro vO' w5 hr5 hg5 ho5)
        go_roundw
        case rel =>
          have := co_next hlt HF.out HOW.out HBW.out hbase hg9 hz9 HR.out hr5 hg5
          have e : ((k + 1 : Nat) : Int) = (k : Int) + 1 := by omega
          rw [e] at this
          exact this
        case measure => simp [intOf]; omega
    · obtain rfl : n = k := by omega
      rw [List.take_of_length_le (by simp)] at hrow
      have hkI : ¬ (n : Int) < n := by omega
      have hall : (List.range n).filter f = allI s n := by
        unfold allI
        apply List.filter_congr
        intro j hj
        exact HALL.out j (List.mem_range.1 hj)
      rw [hall] at hrow
      have hrd := hrow.rd
      rw [List.take_of_length_le (by simp), hall]
      go_wp2
      go_ret
      refine ⟨_, ⟨_, rfl⟩, ?_, hbw⟩
      refine ⟨by simp [idxs], fun hn => ?_⟩
      obtain ⟨g, o, e, h1, h2⟩ := hrd.2 hn
      refine ⟨_, e, h1, fun j u hu => ?_⟩
      rw [add_none]
      refine h2 j u ?_
      rw [nm_all]
      exact hu

set_option maxRecDepth 100000 in
set_option maxHeartbeats 8000000 in
theorem rall_in (s : Sel) (n m : Nat) (W : World) (hs : RightI s) (hn : n ≤ 1000) (hk : s.kind = 2) (hm : m < n) (hp : placeI s.index n = m) :
    Calls Try.prog 17 #[.agg (selV s), .int .i64 n] W fun e w' => ∃ A c, e = .returned (.slice A (allI s n).length c) ∧ Rd w' w'.heap.size A (allI s n).length (idxs (allI s n)) ∧ Below W.heap.size W w' := by
  have hs0 := SelAt.start s (Below.refl W.heap.size W)
  have HB := Lib.hid (fun w => rbounds_any s n w hs (by omega) (by omega))
  have HP := Lib.hid (fun w => rplace_any s.index n w hs.index.mid ⟨by omega, by omega⟩)
  have hbd := bounds_in s n (by omega)
  have hsb := hs.stride
  unfold okI at hsb
  have hnI : (n : Int) ≤ 1000 := by omega
  have ho0 := Own.fresh W 23 (selV s)
  obtain ⟨i0, hi, hz0, hz1, hz2⟩ := info_parts bool_info12
  have hmk := fun W => run_make (P := Try.prog) W 36 4 i0 _ Try.underlying36 hi hz0 .i64 .i64 (n : Int) (n : Int) (by omega) (by omega) (by rw [hz2]; omega) (by omega)
  rw [hz1] at hmk
  simp only [Nat.mul_one, Int.toNat_natCast] at hmk
  clear hi hz0 hz1 hz2
  have ho1 := ho0.over (.cells (madeCells #[Value.bool false] n) 4)
  have hg1 : Own ((W.alloc (.cells (selV s) 23)).alloc (.cells (madeCells #[Value.bool false] n) 4)) (W.heap.size + 1) 4 (bls ((List.range n).map fun _ => false)).toArray := by
    have := Own.fresh (W.alloc (.cells (selV s) 23)) 4 (madeCells #[Value.bool false] n)
    have e : (W.alloc (.cells (selV s) 23)).heap.size = W.heap.size + 1 := by simp
    rw [e] at this
    have e2 : bls ((List.range n).map fun _ => false) = List.replicate n (.bool false) := by
      apply List.ext_getElem
      · simp [bls]
      · intro j h1 h2; simp [bls]
    rw [e2, ← made_one]
    exact this
  have hbl : Below W.heap.size W ((W.alloc (.cells (selV s) 23)).alloc (.cells (madeCells #[Value.bool false] n) 4)) := (below1s W _).alloc (by simp) _
  obtain ⟨x, hx⟩ : ∃ x, x = placeI s.index n := ⟨_, rfl⟩
  have hall0 : ∀ j : Nat, j < n → hasI s j n = decide (x = (j : Int)) := fun j hj => by
    rw [has_index s j n (by omega) (by omega) hk, ← hx]
    by_cases h : x = (j : Int)
    · simp [h]
    · simp [h]
  rw [← hx] at HP
  obtain rfl : x = (m : Int) := hx.trans hp
  obtain ⟨f, hf⟩ : ∃ f : Nat → Bool, f = fun (j : Nat) => decide ((m : Int) = (j : Int)) := ⟨_, rfl⟩
  have HALL := Lib.hid (show ∀ j, j < n → f j = hasI s j n from fun j hj => by rw [hf, hall0 j hj])
  have HSET := Lib.hid (show ∀ j, j < n → f j = if j = m then true else (fun _ : Nat => false) j from fun j hj => by
    rw [hf]
    by_cases h : j = m
    · subst h; simp
    · rw [if_neg h]
      exact decide_eq_false (by omega))
  have HM := Lib.hid hm
  have g2 : (s.kind == 2) = true := beq_iff_eq.2 hk
  have g3 : (s.kind == 3) = false := by rw [beq_eq_false_iff_ne]; omega
  have q1 : (m : Int) ≥ 0 := by omega
  have q2 : (m : Int) < n := by omega
  clear hall0 hf hm hx hp hk hs hs0
  unfold selV at ho1 hbl hg1 HB
  unfold selV
  generalize s.kind = kd at *
  go_enter Try.func17, Try.ntmps17
  go_upto_region 15 with (first
    | (go_at_call 9; refine (HB.out _).mono ?_; rintro e w3 ⟨rfl, hb3⟩; have c0 := own_bool (hg1.stay hb3 hg1.inside) m HM.out; have c1 := (hg1.stay hb3 hg1.inside).free m
       have HO3 := Lib.hid (ho1.stay hb3 ho1.inside); have HG3 := Lib.hid (hg1.stay hb3 hg1.inside); have HBL := Lib.hid (hbl.trans (hb3.mono hbl.size))
       obtain ⟨s0, s1, s2, s3, s4, s5, s6, s7⟩ := own_sel8 HO3.out)
    | (go_at_call 15; refine (HP.out _).mono ?_; rintro e w' ⟨rfl, hw⟩; have hw := hw.symm; subst hw))
  have HG := Lib.hid (own_set HG3.out m HM.out HSET.out)
  have HL := Lib.hid (below_put (i := m) (v := .bool true) HBL.out (show W.heap.size ≤ W.heap.size + 1 by omega))
  clear s0 s1 s2 s3 s4 s5 s6 s7 c0 c1 HO3 hb3 ho1 hg1 hbl HG3 HBL
  generalize w3.setCell ⟨W.heap.size + 1, m, none⟩ (.bool true) = w9 at *
  go_wp2
  have hz9 := HL.out.size
  have hg9 := HG.out.inside
  have hcr : GRow nmK (w9.alloc (.cells #[] 3)) w9.heap.size (.slice (some ⟨w9.heap.size, 0, none⟩) 0 0) [] := GRow.made (K := nmK) (l := []) (base := w9.heap.size) w9 #[] rfl (by decide) (Nat.le_refl _)
  have hco : RelCo W (W.heap.size + 1) w9.heap.size n f (.slice (some ⟨w9.heap.size, 0, none⟩) 0 0) (.int .i64 0) (w9.alloc (.cells #[] 3)) := ⟨0, Nat.zero_le _, rfl, by simpa using hcr, HG.out.over _, HL.out.alloc hz9 _, by simp⟩
  go_loopw [10, 86] (fun vO vi wr => RelCo W (W.heap.size + 1) w9.heap.size n f vO vi wr) (fun _ vi _ => n - (intOf vi).toNat)
  case atStart => exact hco
  case round =>
    obtain ⟨k, hk, rfl, hrow, hown, hbw, hbase⟩ := hrel
    obtain ⟨A8, c8, rfl, _⟩ := hrow.form
    by_cases hlt : k < n
    · have hkI : (k : Int) < n := by omega
      have hcell := own_bool hown k hlt
      have hfew : (((List.range n).take k).filter f).length ≤ 1000 := by
        have h1 := List.length_filter_le f ((List.range n).take k)
        have h2 : ((List.range n).take k).length ≤ n := by simp; omega
        omega
      have HR := Lib.hid hrow
      have HOW := Lib.hid hown
      have HBW := Lib.hid hbw
      have hr1 : RdG nmK (wr.alloc (.cells #[.int .i64 k] 3)) (some ⟨wr.heap.size, 0, none⟩) 1 [k] := (GRow.made (K := nmK) (l := [k]) (base := 0) wr #[.int .i64 k] rfl (show 1 ≤ maxLen by decide) (Nat.zero_le _)).rd
      have hrow1 := hrow.stay (w' := wr.alloc (.cells #[.int .i64 k] 3)) (fun g hg => (below1s wr _).block g (hrow.low hg).2)
      cases hfk : f k
      · rw [hfk] at hcell
        have HF := Lib.hid hfk
        clear hfk hown hbw hrow hrow1 hr1
        go_wp2
        go_roundw
        case rel => exact ⟨k + 1, hlt, by go_num, by rw [filter_take n f k hlt, HF.out]; simpa using HR.out, HOW.out, HBW.out, hbase⟩
        case measure => simp [intOf]; omega
      · rw [hfk] at hcell
        have HF := Lib.hid hfk
        have HR1 := Lib.hid hrow1
        have HN1 := Lib.hid hr1
        clear hfk hown hbw hrow hrow1 hr1
        go_wp2_with (at_builtin; refine row_append (K := nmK) _ rfl (.tmp 92) (.tmp 94) rfl w9.heap.size _ (((List.range n).take k).filter f) rfl HR1.out _ 1 1 [k] rfl HN1.out (by omega) (by simp; omega) ?_; intro vO' w5 hr5 hg5 ho5)
        go_roundw
        case rel =>
          have := co_next hlt HF.out HOW.out HBW.out hbase hg9 hz9 HR.out hr5 hg5
          have e : ((k + 1 : Nat) : Int) = (k : Int) + 1 := by omega
          rw [e] at this
          exact this
        case measure => simp [intOf]; omega
    · obtain rfl : n = k := by omega
      rw [List.take_of_length_le (by simp)] at hrow
      have hkI : ¬ (n : Int) < n := by omega
      have hall : (List.range n).filter f = allI s n := by
        unfold allI
        apply List.filter_congr
        intro j hj
        exact HALL.out j (List.mem_range.1 hj)
      rw [hall] at hrow
      have hrd := hrow.rd
      rw [List.take_of_length_le (by simp), hall]
      go_wp2
      go_ret
      refine ⟨_, ⟨_, rfl⟩, ?_, hbw⟩
      refine ⟨by simp [idxs], fun hn => ?_⟩
      obtain ⟨g, o, e, h1, h2⟩ := hrd.2 hn
      refine ⟨_, e, h1, fun j u hu => ?_⟩
      rw [add_none]
      refine h2 j u ?_
      rw [nm_all]
      exact hu

set_option maxRecDepth 100000 in
set_option maxHeartbeats 8000000 in
theorem rall_below (s : Sel) (n : Nat) (W : World) (hs : RightI s) (hn : n ≤ 1000) (hk : s.kind = 2) (hp : placeI s.index n < 0) :
    Calls Try.prog 17 #[.agg (selV s), .int .i64 n] W fun e w' => ∃ A c, e = .returned (.slice A (allI s n).length c) ∧ Rd w' w'.heap.size A (allI s n).length (idxs (allI s n)) ∧ Below W.heap.size W w' := by
  have hs0 := SelAt.start s (Below.refl W.heap.size W)
  have HB := Lib.hid (fun w => rbounds_any s n w hs (by omega) (by omega))
  have HP := Lib.hid (fun w => rplace_any s.index n w hs.index.mid ⟨by omega, by omega⟩)
  have hbd := bounds_in s n (by omega)
  have hsb := hs.stride
  unfold okI at hsb
  have hnI : (n : Int) ≤ 1000 := by omega
  have ho0 := Own.fresh W 23 (selV s)
  obtain ⟨i0, hi, hz0, hz1, hz2⟩ := info_parts bool_info12
  have hmk := fun W => run_make (P := Try.prog) W 36 4 i0 _ Try.underlying36 hi hz0 .i64 .i64 (n : Int) (n : Int) (by omega) (by omega) (by rw [hz2]; omega) (by omega)
  rw [hz1] at hmk
  simp only [Nat.mul_one, Int.toNat_natCast] at hmk
  clear hi hz0 hz1 hz2
  have ho1 := ho0.over (.cells (madeCells #[Value.bool false] n) 4)
  have hg1 : Own ((W.alloc (.cells (selV s) 23)).alloc (.cells (madeCells #[Value.bool false] n) 4)) (W.heap.size + 1) 4 (bls ((List.range n).map fun _ => false)).toArray := by
    have := Own.fresh (W.alloc (.cells (selV s) 23)) 4 (madeCells #[Value.bool false] n)
    have e : (W.alloc (.cells (selV s) 23)).heap.size = W.heap.size + 1 := by simp
    rw [e] at this
    have e2 : bls ((List.range n).map fun _ => false) = List.replicate n (.bool false) := by
      apply List.ext_getElem
      · simp [bls]
      · intro j h1 h2; simp [bls]
    rw [e2, ← made_one]
    exact this
  have hbl : Below W.heap.size W ((W.alloc (.cells (selV s) 23)).alloc (.cells (madeCells #[Value.bool false] n) 4)) := (below1s W _).alloc (by simp) _
  obtain ⟨x, hx⟩ : ∃ x, x = placeI s.index n := ⟨_, rfl⟩
  have hall0 : ∀ j : Nat, j < n → hasI s j n = decide (x = (j : Int)) := fun j hj => by
    rw [has_index s j n (by omega) (by omega) hk, ← hx]
    by_cases h : x = (j : Int)
    · simp [h]
    · simp [h]
  rw [← hx] at HP
  rw [← hx] at hp
  have q1 : ¬ x ≥ 0 := by omega
  obtain ⟨f, hf⟩ : ∃ f : Nat → Bool, f = fun _ => false := ⟨_, rfl⟩
  have HALL := Lib.hid (show ∀ j, j < n → f j = hasI s j n from fun j hj => by rw [hf, hall0 j hj]; exact (decide_eq_false (by omega)).symm)
  have g2 : (s.kind == 2) = true := beq_iff_eq.2 hk
  have g3 : (s.kind == 3) = false := by rw [beq_eq_false_iff_ne]; omega
  rw [← hf] at hg1
  clear hall0 hf hx hp hk hs hs0
  unfold selV at ho1 hbl hg1 HB
  unfold selV
  generalize s.kind = kd at *
  go_enter Try.func17, Try.ntmps17
  go_upto_region 15 with (first
    | (go_at_call 9; refine (HB.out _).mono ?_; rintro e w3 ⟨rfl, hb3⟩
       have HO3 := Lib.hid (ho1.stay hb3 ho1.inside); have HG3 := Lib.hid (hg1.stay hb3 hg1.inside); have HBL := Lib.hid (hbl.trans (hb3.mono hbl.size))
       obtain ⟨s0, s1, s2, s3, s4, s5, s6, s7⟩ := own_sel8 HO3.out)
    | (go_at_call 15; refine (HP.out _).mono ?_; rintro e w' ⟨rfl, hw⟩; have hw := hw.symm; subst hw))
  have HG := HG3
  have HL := HBL
  clear s0 s1 s2 s3 s4 s5 s6 s7 HO3 hb3 ho1 hg1 hbl HG3 HBL
  generalize hw9 : w3 = w9 at *
  clear hw9
  go_wp2
  have hz9 := HL.out.size
  have hg9 := HG.out.inside
  have hcr : GRow nmK (w9.alloc (.cells #[] 3)) w9.heap.size (.slice (some ⟨w9.heap.size, 0, none⟩) 0 0) [] := GRow.made (K := nmK) (l := []) (base := w9.heap.size) w9 #[] rfl (by decide) (Nat.le_refl _)
  have hco : RelCo W (W.heap.size + 1) w9.heap.size n f (.slice (some ⟨w9.heap.size, 0, none⟩) 0 0) (.int .i64 0) (w9.alloc (.cells #[] 3)) := ⟨0, Nat.zero_le _, rfl, by simpa using hcr, HG.out.over _, HL.out.alloc hz9 _, by simp⟩
  go_loopw [10, 86] (fun vO vi wr => RelCo W (W.heap.size + 1) w9.heap.size n f vO vi wr) (fun _ vi _ => n - (intOf vi).toNat)
  case atStart => exact hco
  case round =>
    obtain ⟨k, hk, rfl, hrow, hown, hbw, hbase⟩ := hrel
    obtain ⟨A8, c8, rfl, _⟩ := hrow.form
    by_cases hlt : k < n
    · have hkI : (k : Int) < n := by omega
      have hcell := own_bool hown k hlt
      have hfew : (((List.range n).take k).filter f).length ≤ 1000 := by
        have h1 := List.length_filter_le f ((List.range n).take k)
        have h2 : ((List.range n).take k).length ≤ n := by simp; omega
        omega
      have HR := Lib.hid hrow
      have HOW := Lib.hid hown
      have HBW := Lib.hid hbw
      have hr1 : RdG nmK (wr.alloc (.cells #[.int .i64 k] 3)) (some ⟨wr.heap.size, 0, none⟩) 1 [k] := (GRow.made (K := nmK) (l := [k]) (base := 0) wr #[.int .i64 k] rfl (show 1 ≤ maxLen by decide) (Nat.zero_le _)).rd
      have hrow1 := hrow.stay (w' := wr.alloc (.cells #[.int .i64 k] 3)) (fun g hg => (below1s wr _).block g (hrow.low hg).2)
      cases hfk : f k
      · rw [hfk] at hcell
        have HF := Lib.hid hfk
        clear hfk hown hbw hrow hrow1 hr1
        go_wp2
        go_roundw
        case rel => exact ⟨k + 1, hlt, by go_num, by rw [filter_take n f k hlt, HF.out]; simpa using HR.out, HOW.out, HBW.out, hbase⟩
        case measure => simp [intOf]; omega
      · rw [hfk] at hcell
        have HF := Lib.hid hfk
        have HR1 := Lib.hid hrow1
        have HN1 := Lib.hid hr1
        clear hfk hown hbw hrow hrow1 hr1
        go_wp2_with (at_builtin; refine row_append (K := nmK) _ rfl (.tmp 92) (.tmp 94) rfl w9.heap.size _ (((List.range n).take k).filter f) rfl HR1.out _ 1 1 [k] rfl HN1.out (by omega) (by simp; omega) ?_; intro vO' w5 hr5 hg5 ho5)
        go_roundw
        case rel =>
          have := co_next hlt HF.out HOW.out HBW.out hbase hg9 hz9 HR.out hr5 hg5
          have e : ((k + 1 : Nat) : Int) = (k : Int) + 1 := by omega
          rw [e] at this
          exact this
        case measure => simp [intOf]; omega
    · obtain rfl : n = k := by omega
      rw [List.take_of_length_le (by simp)] at hrow
      have hkI : ¬ (n : Int) < n := by omega
      have hall : (List.range n).filter f = allI s n := by
        unfold allI
        apply List.filter_congr
        intro j hj
        exact HALL.out j (List.mem_range.1 hj)
      rw [hall] at hrow
      have hrd := hrow.rd
      rw [List.take_of_length_le (by simp), hall]
      go_wp2
      go_ret
      refine ⟨_, ⟨_, rfl⟩, ?_, hbw⟩
      refine ⟨by simp [idxs], fun hn => ?_⟩
      obtain ⟨g, o, e, h1, h2⟩ := hrd.2 hn
      refine ⟨_, e, h1, fun j u hu => ?_⟩
      rw [add_none]
      refine h2 j u ?_
      rw [nm_all]
      exact hu

set_option maxRecDepth 100000 in
set_option maxHeartbeats 8000000 in
theorem rall_above (s : Sel) (n : Nat) (W : World) (hs : RightI s) (hn : n ≤ 1000) (hk : s.kind = 2) (hp : (n : Int) ≤ placeI s.index n) :
    Calls Try.prog 17 #[.agg (selV s), .int .i64 n] W fun e w' => ∃ A c, e = .returned (.slice A (allI s n).length c) ∧ Rd w' w'.heap.size A (allI s n).length (idxs (allI s n)) ∧ Below W.heap.size W w' := by
  have hs0 := SelAt.start s (Below.refl W.heap.size W)
  have HB := Lib.hid (fun w => rbounds_any s n w hs (by omega) (by omega))
  have HP := Lib.hid (fun w => rplace_any s.index n w hs.index.mid ⟨by omega, by omega⟩)
  have hbd := bounds_in s n (by omega)
  have hsb := hs.stride
  unfold okI at hsb
  have hnI : (n : Int) ≤ 1000 := by omega
  have ho0 := Own.fresh W 23 (selV s)
  obtain ⟨i0, hi, hz0, hz1, hz2⟩ := info_parts bool_info12
  have hmk := fun W => run_make (P := Try.prog) W 36 4 i0 _ Try.underlying36 hi hz0 .i64 .i64 (n : Int) (n : Int) (by omega) (by omega) (by rw [hz2]; omega) (by omega)
  rw [hz1] at hmk
  simp only [Nat.mul_one, Int.toNat_natCast] at hmk
  clear hi hz0 hz1 hz2
  have ho1 := ho0.over (.cells (madeCells #[Value.bool false] n) 4)
  have hg1 : Own ((W.alloc (.cells (selV s) 23)).alloc (.cells (madeCells #[Value.bool false] n) 4)) (W.heap.size + 1) 4 (bls ((List.range n).map fun _ => false)).toArray := by
    have := Own.fresh (W.alloc (.cells (selV s) 23)) 4 (madeCells #[Value.bool false] n)
    have e : (W.alloc (.cells (selV s) 23)).heap.size = W.heap.size + 1 := by simp
    rw [e] at this
    have e2 : bls ((List.range n).map fun _ => false) = List.replicate n (.bool false) := by
      apply List.ext_getElem
      · simp [bls]
      · intro j h1 h2; simp [bls]
    rw [e2, ← made_one]
    exact this
  have hbl : Below W.heap.size W ((W.alloc (.cells (selV s) 23)).alloc (.cells (madeCells #[Value.bool false] n) 4)) := (below1s W _).alloc (by simp) _
  obtain ⟨x, hx⟩ : ∃ x, x = placeI s.index n := ⟨_, rfl⟩
  have hall0 : ∀ j : Nat, j < n → hasI s j n = decide (x = (j : Int)) := fun j hj => by
    rw [has_index s j n (by omega) (by omega) hk, ← hx]
    by_cases h : x = (j : Int)
    · simp [h]
    · simp [h]
  rw [← hx] at HP
  rw [← hx] at hp
  have q1 : x ≥ 0 := by omega
  have q2 : ¬ x < n := by omega
  obtain ⟨f, hf⟩ : ∃ f : Nat → Bool, f = fun _ => false := ⟨_, rfl⟩
  have HALL := Lib.hid (show ∀ j, j < n → f j = hasI s j n from fun j hj => by rw [hf, hall0 j hj]; exact (decide_eq_false (by omega)).symm)
  have g2 : (s.kind == 2) = true := beq_iff_eq.2 hk
  have g3 : (s.kind == 3) = false := by rw [beq_eq_false_iff_ne]; omega
  rw [← hf] at hg1
  clear hall0 hf hx hp hk hs hs0
  unfold selV at ho1 hbl hg1 HB
  unfold selV
  generalize s.kind = kd at *
  go_enter Try.func17, Try.ntmps17
  go_upto_region 15 with (first
    | (go_at_call 9; refine (HB.out _).mono ?_; rintro e w3 ⟨rfl, hb3⟩
       have HO3 := Lib.hid (ho1.stay hb3 ho1.inside); have HG3 := Lib.hid (hg1.stay hb3 hg1.inside); have HBL := Lib.hid (hbl.trans (hb3.mono hbl.size))
       obtain ⟨s0, s1, s2, s3, s4, s5, s6, s7⟩ := own_sel8 HO3.out)
    | (go_at_call 15; refine (HP.out _).mono ?_; rintro e w' ⟨rfl, hw⟩; have hw := hw.symm; subst hw))
  have HG := HG3
  have HL := HBL
  clear s0 s1 s2 s3 s4 s5 s6 s7 HO3 hb3 ho1 hg1 hbl HG3 HBL
  generalize hw9 : w3 = w9 at *
  clear hw9
  go_wp2
  have hz9 := HL.out.size
  have hg9 := HG.out.inside
  have hcr : GRow nmK (w9.alloc (.cells #[] 3)) w9.heap.size (.slice (some ⟨w9.heap.size, 0, none⟩) 0 0) [] := GRow.made (K := nmK) (l := []) (base := w9.heap.size) w9 #[] rfl (by decide) (Nat.le_refl _)
  have hco : RelCo W (W.heap.size + 1) w9.heap.size n f (.slice (some ⟨w9.heap.size, 0, none⟩) 0 0) (.int .i64 0) (w9.alloc (.cells #[] 3)) := ⟨0, Nat.zero_le _, rfl, by simpa using hcr, HG.out.over _, HL.out.alloc hz9 _, by simp⟩
  go_loopw [10, 86] (fun vO vi wr => RelCo W (W.heap.size + 1) w9.heap.size n f vO vi wr) (fun _ vi _ => n - (intOf vi).toNat)
  case atStart => exact hco
  case round =>
    obtain ⟨k, hk, rfl, hrow, hown, hbw, hbase⟩ := hrel
    obtain ⟨A8, c8, rfl, _⟩ := hrow.form
    by_cases hlt : k < n
    · have hkI : (k : Int) < n := by omega
      have hcell := own_bool hown k hlt
      have hfew : (((List.range n).take k).filter f).length ≤ 1000 := by
        have h1 := List.length_filter_le f ((List.range n).take k)
        have h2 : ((List.range n).take k).length ≤ n := by simp; omega
        omega
      have HR := Lib.hid hrow
      have HOW := Lib.hid hown
      have HBW := Lib.hid hbw
      have hr1 : RdG nmK (wr.alloc (.cells #[.int .i64 k] 3)) (some ⟨wr.heap.size, 0, none⟩) 1 [k] := (GRow.made (K := nmK) (l := [k]) (base := 0) wr #[.int .i64 k] rfl (show 1 ≤ maxLen by decide) (Nat.zero_le _)).rd
      have hrow1 := hrow.stay (w' := wr.alloc (.cells #[.int .i64 k] 3)) (fun g hg => (below1s wr _).block g (hrow.low hg).2)
      cases hfk : f k
      · rw [hfk] at hcell
        have HF := Lib.hid hfk
        clear hfk hown hbw hrow hrow1 hr1
        go_wp2
        go_roundw
        case rel => exact ⟨k + 1, hlt, by go_num, by rw [filter_take n f k hlt, HF.out]; simpa using HR.out, HOW.out, HBW.out, hbase⟩
        case measure => simp [intOf]; omega
      · rw [hfk] at hcell
        have HF := Lib.hid hfk
        have HR1 := Lib.hid hrow1
        have HN1 := Lib.hid hr1
        clear hfk hown hbw hrow hrow1 hr1
        go_wp2_with (at_builtin; refine row_append (K := nmK) _ rfl (.tmp 92) (.tmp 94) rfl w9.heap.size _ (((List.range n).take k).filter f) rfl HR1.out _ 1 1 [k] rfl HN1.out (by omega) (by simp; omega) ?_; intro vO' w5 hr5 hg5 ho5)
        go_roundw
        case rel =>
          have := co_next hlt HF.out HOW.out HBW.out hbase hg9 hz9 HR.out hr5 hg5
          have e : ((k + 1 : Nat) : Int) = (k : Int) + 1 := by omega
          rw [e] at this
          exact this
        case measure => simp [intOf]; omega
    · obtain rfl : n = k := by omega
      rw [List.take_of_length_le (by simp)] at hrow
      have hkI : ¬ (n : Int) < n := by omega
      have hall : (List.range n).filter f = allI s n := by
        unfold allI
        apply List.filter_congr
        intro j hj
        exact HALL.out j (List.mem_range.1 hj)
      rw [hall] at hrow
      have hrd := hrow.rd
      rw [List.take_of_length_le (by simp), hall]
      go_wp2
      go_ret
      refine ⟨_, ⟨_, rfl⟩, ?_, hbw⟩
      refine ⟨by simp [idxs], fun hn => ?_⟩
      obtain ⟨g, o, e, h1, h2⟩ := hrd.2 hn
      refine ⟨_, e, h1, fun j u hu => ?_⟩
      rw [add_none]
      refine h2 j u ?_
      rw [nm_all]
      exact hu

set_option maxRecDepth 100000 in
set_option maxHeartbeats 8000000 in
theorem rall_up (s : Sel) (n : Nat) (W : World) (hs : RightI s) (hn : n ≤ 1000) (hk : s.kind = 3) (hp : 0 < s.stride) :
    Calls Try.prog 17 #[.agg (selV s), .int .i64 n] W fun e w' => ∃ A c, e = .returned (.slice A (allI s n).length c) ∧ Rd w' w'.heap.size A (allI s n).length (idxs (allI s n)) ∧ Below W.heap.size W w' := by
  have hs0 := SelAt.start s (Below.refl W.heap.size W)
  have HB := Lib.hid (fun w => rbounds_any s n w hs (by omega) (by omega))
  have HP := Lib.hid (fun w => rplace_any s.index n w hs.index.mid ⟨by omega, by omega⟩)
  have hbd := bounds_in s n (by omega)
  have hsb := hs.stride
  unfold okI at hsb
  have hnI : (n : Int) ≤ 1000 := by omega
  have ho0 := Own.fresh W 23 (selV s)
  obtain ⟨i0, hi, hz0, hz1, hz2⟩ := info_parts bool_info12
  have hmk := fun W => run_make (P := Try.prog) W 36 4 i0 _ Try.underlying36 hi hz0 .i64 .i64 (n : Int) (n : Int) (by omega) (by omega) (by rw [hz2]; omega) (by omega)
  rw [hz1] at hmk
  simp only [Nat.mul_one, Int.toNat_natCast] at hmk
  clear hi hz0 hz1 hz2
  have ho1 := ho0.over (.cells (madeCells #[Value.bool false] n) 4)
  have hg1 : Own ((W.alloc (.cells (selV s) 23)).alloc (.cells (madeCells #[Value.bool false] n) 4)) (W.heap.size + 1) 4 (bls ((List.range n).map fun _ => false)).toArray := by
    have := Own.fresh (W.alloc (.cells (selV s) 23)) 4 (madeCells #[Value.bool false] n)
    have e : (W.alloc (.cells (selV s) 23)).heap.size = W.heap.size + 1 := by simp
    rw [e] at this
    have e2 : bls ((List.range n).map fun _ => false) = List.replicate n (.bool false) := by
      apply List.ext_getElem
      · simp [bls]
      · intro j h1 h2; simp [bls]
    rw [e2, ← made_one]
    exact this
  have hbl : Below W.heap.size W ((W.alloc (.cells (selV s) 23)).alloc (.cells (madeCells #[Value.bool false] n) 4)) := (below1s W _).alloc (by simp) _
  have HALL := Lib.hid (show ∀ j, j < n → (fun j : Nat => hasI s j n) j = hasI s j n from fun _ _ => rfl)
  have HASF := Lib.hid (show ∀ j : Nat, j < n → hasI s j n = decide (lowI s n ≤ (j : Int) ∧ (j : Int) < highI s n ∧ ((j : Int) - lowI s n) % s.stride = 0) from fun j hj => has_up s j n (by omega) (by omega) hk hp)
  have g2 : (s.kind == 2) = false := by rw [beq_eq_false_iff_ne]; omega
  have g3 : (s.kind == 3) = true := beq_iff_eq.2 hk
  have hb1 := hbd.2.2.2.2.1 hp
  generalize hf : (fun j : Nat => hasI s j n) = f at *
  have HFF := Lib.hid hf
  clear hf hk hs hs0
  unfold selV at ho1 hbl hg1 HB
  unfold selV
  generalize s.kind = kd at *
  generalize lowI s n = lo at *
  generalize highI s n = hi at *
  generalize s.stride = sd at *
  have hp1 : sd > 0 := by omega
  have hp2 : ¬ sd < 0 := by omega
  go_enter Try.func17, Try.ntmps17
  go_wp2_with (first
    | (go_at_call 9; refine (HB.out _).mono ?_; rintro e w3 ⟨rfl, hb3⟩
       have HO3 := Lib.hid (ho1.stay hb3 ho1.inside); have HG3 := Lib.hid (hg1.stay hb3 hg1.inside); have HBL := Lib.hid (hbl.trans (hb3.mono hbl.size))
       obtain ⟨s0, s1, s2, s3, s4, s5, s6, s7⟩ := own_sel8 HO3.out)
    | (go_at_call 15; refine (HP.out _).mono ?_; rintro e w' ⟨rfl, hw⟩; have hw := hw.symm; subst hw))
  clear s0 s1 s2 s3 s4 s5 s6 s7 ho1 hg1 hbl
  go_loopw [8] (fun vi wr => RelUp W W.heap.size (W.heap.size + 1) n #[.int .i64 kd, .string s.name, .int .i64 s.index, .int .i64 s.start, .int .i64 s.en, .bool s.hs, .bool s.he, .int .i64 sd] lo hi sd vi wr) (fun vi _ => (hi - intOf vi).toNat)
  case atStart => exact ⟨lo, rfl, Int.le_refl _, by omega, by simp, .inl rfl, own_same HG3.out (fun j _ => (up_start lo sd j).symm), HO3.out, HBL.out⟩
  case round =>
    obtain ⟨i, rfl, h1, h2, h3, h4, hg, ho, hbw⟩ := hrel
    by_cases hlt : i < hi
    · obtain ⟨m, rfl⟩ := Int.eq_ofNat_of_zero_le (show 0 ≤ i by omega)
      have hm : m < n := by omega
      have c0 := own_bool hg m hm
      have c1 := hg.free m
      obtain ⟨s0, s1, s2, s3, s4, s5, s6, s7⟩ := own_sel8 ho
      have HGW := Lib.hid hg
      have HOW := Lib.hid ho
      have HBW := Lib.hid hbw
      have H3 := Lib.hid h3
      have H4 := Lib.hid h4
      have HMM := Lib.hid hm
      have hm0 : (0 : Int) ≤ m := by omega
      have hmn : (m : Int) < n := by omega
      clear hg ho hbw h3 h4 hm
      go_wp2
      go_roundw
      case rel =>
        have hne : W.heap.size ≠ W.heap.size + 1 := by omega
        refine ⟨(m : Int) + sd, by go_num, by omega, by omega, ?_, .inr (by omega), own_set HGW.out m HMM.out (fun j hj => ?_), HOW.out.past hne _, below_put HBW.out (by omega)⟩
        · have := H3.out
          rw [show (m : Int) + sd - lo = (m - lo) + sd by omega, Int.add_emod_right]
          exact this
        · rw [up_step lo sd m j hp (by omega) H3.out]
          by_cases e : j = m
          · subst e; simp
          · rw [if_neg (show ¬ (j : Int) = m by omega), if_neg e]
      case measure => simp [intOf]; omega
    · have HG := Lib.hid (show Own wr (W.heap.size + 1) 4 (bls ((List.range n).map f)).toArray from own_same hg (fun j hj => by
        rw [← HFF.out]
        show _ = hasI s j n
        rw [HASF.out j hj]
        exact up_end lo sd i hi j hp h3 (by omega) h4))
      have HL := Lib.hid hbw
      obtain ⟨s0, s1, s2, s3, s4, s5, s6, s7⟩ := own_sel8 ho
      clear hg hbw h3 h4
      go_upto_region 15 with fail
      clear s0 s1 s2 s3 s4 s5 s6 s7 ho HG3 HBL HO3
      generalize hw9 : wr = w9 at *
      clear hw9
      go_wp2
      have hz9 := HL.out.size
      have hg9 := HG.out.inside
      have hcr : GRow nmK (w9.alloc (.cells #[] 3)) w9.heap.size (.slice (some ⟨w9.heap.size, 0, none⟩) 0 0) [] := GRow.made (K := nmK) (l := []) (base := w9.heap.size) w9 #[] rfl (by decide) (Nat.le_refl _)
      have hco : RelCo W (W.heap.size + 1) w9.heap.size n f (.slice (some ⟨w9.heap.size, 0, none⟩) 0 0) (.int .i64 0) (w9.alloc (.cells #[] 3)) := ⟨0, Nat.zero_le _, rfl, by simpa using hcr, HG.out.over _, HL.out.alloc hz9 _, by simp⟩
      go_loopw [10, 86] (fun vO vi wr => RelCo W (W.heap.size + 1) w9.heap.size n f vO vi wr) (fun _ vi _ => n - (intOf vi).toNat)
      case atStart => exact hco
      case round =>
        obtain ⟨k, hk, rfl, hrow, hown, hbw, hbase⟩ := hrel
        obtain ⟨A8, c8, rfl, _⟩ := hrow.form
        by_cases hlt : k < n
        · have hkI : (k : Int) < n := by omega
          have hcell := own_bool hown k hlt
          have hfew : (((List.range n).take k).filter f).length ≤ 1000 := by
            have h1 := List.length_filter_le f ((List.range n).take k)
            have h2 : ((List.range n).take k).length ≤ n := by simp; omega
            omega
          have HR := Lib.hid hrow
          have HOW := Lib.hid hown
          have HBW := Lib.hid hbw
          have hr1 : RdG nmK (wr.alloc (.cells #[.int .i64 k] 3)) (some ⟨wr.heap.size, 0, none⟩) 1 [k] := (GRow.made (K := nmK) (l := [k]) (base := 0) wr #[.int .i64 k] rfl (show 1 ≤ maxLen by decide) (Nat.zero_le _)).rd
          have hrow1 := hrow.stay (w' := wr.alloc (.cells #[.int .i64 k] 3)) (fun g hg => (below1s wr _).block g (hrow.low hg).2)
          cases hfk : f k
          · rw [hfk] at hcell
            have HF := Lib.hid hfk
            clear hfk hown hbw hrow hrow1 hr1
            go_wp2
            go_roundw
            case rel => exact ⟨k + 1, hlt, by go_num, by rw [filter_take n f k hlt, HF.out]; simpa using HR.out, HOW.out, HBW.out, hbase⟩
            case measure => simp [intOf]; omega
          · rw [hfk] at hcell
            have HF := Lib.hid hfk
            have HR1 := Lib.hid hrow1
            have HN1 := Lib.hid hr1
            clear hfk hown hbw hrow hrow1 hr1
            go_wp2_with (at_builtin; refine row_append (K := nmK) _ rfl (.tmp 92) (.tmp 94) rfl w9.heap.size _ (((List.range n).take k).filter f) rfl HR1.out _ 1 1 [k] rfl HN1.out (by omega) (by simp; omega) ?_; intro vO' w5 hr5 hg5 ho5)
            go_roundw
            case rel =>
              have := co_next hlt HF.out HOW.out HBW.out hbase hg9 hz9 HR.out hr5 hg5
              have e : ((k + 1 : Nat) : Int) = (k : Int) + 1 := by omega
              rw [e] at this
              exact this
            case measure => simp [intOf]; omega
        · obtain rfl : n = k := by omega
          rw [List.take_of_length_le (by simp)] at hrow
          have hkI : ¬ (n : Int) < n := by omega
          have hall : (List.range n).filter f = allI s n := by
            unfold allI
            apply List.filter_congr
            intro j hj
            exact HALL.out j (List.mem_range.1 hj)
          rw [hall] at hrow
          have hrd := hrow.rd
          rw [List.take_of_length_le (by simp), hall]
          go_wp2
          go_ret
          refine ⟨_, ⟨_, rfl⟩, ?_, hbw⟩
          refine ⟨by simp [idxs], fun hn => ?_⟩
          obtain ⟨g, o, e, h1, h2⟩ := hrd.2 hn
          refine ⟨_, e, h1, fun j u hu => ?_⟩
          rw [add_none]
          refine h2 j u ?_
          rw [nm_all]
          exact hu

set_option maxRecDepth 100000 in
set_option maxHeartbeats 8000000 in
theorem rall_down (s : Sel) (n : Nat) (W : World) (hs : RightI s) (hn : n ≤ 1000) (hk : s.kind = 3) (hp : s.stride < 0) :
    Calls Try.prog 17 #[.agg (selV s), .int .i64 n] W fun e w' => ∃ A c, e = .returned (.slice A (allI s n).length c) ∧ Rd w' w'.heap.size A (allI s n).length (idxs (allI s n)) ∧ Below W.heap.size W w' := by
  have hs0 := SelAt.start s (Below.refl W.heap.size W)
  have HB := Lib.hid (fun w => rbounds_any s n w hs (by omega) (by omega))
  have HP := Lib.hid (fun w => rplace_any s.index n w hs.index.mid ⟨by omega, by omega⟩)
  have hbd := bounds_in s n (by omega)
  have hsb := hs.stride
  unfold okI at hsb
  have hnI : (n : Int) ≤ 1000 := by omega
  have ho0 := Own.fresh W 23 (selV s)
  obtain ⟨i0, hi, hz0, hz1, hz2⟩ := info_parts bool_info12
  have hmk := fun W => run_make (P := Try.prog) W 36 4 i0 _ Try.underlying36 hi hz0 .i64 .i64 (n : Int) (n : Int) (by omega) (by omega) (by rw [hz2]; omega) (by omega)
  rw [hz1] at hmk
  simp only [Nat.mul_one, Int.toNat_natCast] at hmk
  clear hi hz0 hz1 hz2
  have ho1 := ho0.over (.cells (madeCells #[Value.bool false] n) 4)
  have hg1 : Own ((W.alloc (.cells (selV s) 23)).alloc (.cells (madeCells #[Value.bool false] n) 4)) (W.heap.size + 1) 4 (bls ((List.range n).map fun _ => false)).toArray := by
    have := Own.fresh (W.alloc (.cells (selV s) 23)) 4 (madeCells #[Value.bool false] n)
    have e : (W.alloc (.cells (selV s) 23)).heap.size = W.heap.size + 1 := by simp
    rw [e] at this
    have e2 : bls ((List.range n).map fun _ => false) = List.replicate n (.bool false) := by
      apply List.ext_getElem
      · simp [bls]
      · intro j h1 h2; simp [bls]
    rw [e2, ← made_one]
    exact this
  have hbl : Below W.heap.size W ((W.alloc (.cells (selV s) 23)).alloc (.cells (madeCells #[Value.bool false] n) 4)) := (below1s W _).alloc (by simp) _
  have HALL := Lib.hid (show ∀ j, j < n → (fun j : Nat => hasI s j n) j = hasI s j n from fun _ _ => rfl)
  have HASF := Lib.hid (show ∀ j : Nat, j < n → hasI s j n = decide (lowI s n < (j : Int) ∧ (j : Int) ≤ highI s n ∧ (highI s n - (j : Int)) % (0 - s.stride) = 0) from fun j hj => has_down s j n (by omega) (by omega) hk hp)
  have g2 : (s.kind == 2) = false := by rw [beq_eq_false_iff_ne]; omega
  have g3 : (s.kind == 3) = true := beq_iff_eq.2 hk
  have hb1 := hbd.2.2.2.2.2 hp
  generalize hf : (fun j : Nat => hasI s j n) = f at *
  have HFF := Lib.hid hf
  clear hf hk hs hs0
  unfold selV at ho1 hbl hg1 HB
  unfold selV
  generalize s.kind = kd at *
  generalize lowI s n = lo at *
  generalize highI s n = hi at *
  generalize s.stride = sd at *
  have hp1 : ¬ sd > 0 := by omega
  have hp2 : sd < 0 := by omega
  go_enter Try.func17, Try.ntmps17
  go_wp2_with (first
    | (go_at_call 9; refine (HB.out _).mono ?_; rintro e w3 ⟨rfl, hb3⟩
       have HO3 := Lib.hid (ho1.stay hb3 ho1.inside); have HG3 := Lib.hid (hg1.stay hb3 hg1.inside); have HBL := Lib.hid (hbl.trans (hb3.mono hbl.size))
       obtain ⟨s0, s1, s2, s3, s4, s5, s6, s7⟩ := own_sel8 HO3.out)
    | (go_at_call 15; refine (HP.out _).mono ?_; rintro e w' ⟨rfl, hw⟩; have hw := hw.symm; subst hw))
  clear s0 s1 s2 s3 s4 s5 s6 s7 ho1 hg1 hbl
  go_loopw [9] (fun vi wr => RelDo W W.heap.size (W.heap.size + 1) n #[.int .i64 kd, .string s.name, .int .i64 s.index, .int .i64 s.start, .int .i64 s.en, .bool s.hs, .bool s.he, .int .i64 sd] lo hi (0 - sd) vi wr) (fun vi _ => (intOf vi - lo).toNat)
  case atStart => exact ⟨hi, rfl, Int.le_refl _, by omega, by simp, .inl rfl, own_same HG3.out (fun j _ => (down_start hi (0 - sd) j).symm), HO3.out, HBL.out⟩
  case round =>
    obtain ⟨i, rfl, h1, h2, h3, h4, hg, ho, hbw⟩ := hrel
    by_cases hlt : lo < i
    · obtain ⟨m, rfl⟩ := Int.eq_ofNat_of_zero_le (show 0 ≤ i by omega)
      have hm : m < n := by omega
      have c0 := own_bool hg m hm
      have c1 := hg.free m
      obtain ⟨s0, s1, s2, s3, s4, s5, s6, s7⟩ := own_sel8 ho
      have HGW := Lib.hid hg
      have HOW := Lib.hid ho
      have HBW := Lib.hid hbw
      have H3 := Lib.hid h3
      have H4 := Lib.hid h4
      have HMM := Lib.hid hm
      have hm0 : (0 : Int) ≤ m := by omega
      have hmn : (m : Int) < n := by omega
      clear hg ho hbw h3 h4 hm
      go_wp2
      go_roundw
      case rel =>
        have hne : W.heap.size ≠ W.heap.size + 1 := by omega
        refine ⟨(m : Int) + sd, by go_num, by omega, by omega, ?_, .inr (by omega), ?_, HOW.out.past hne _, below_put HBW.out (by omega)⟩
        · have := H3.out
          rw [show hi - ((m : Int) + sd) = (hi - m) + (0 - sd) by omega, Int.add_emod_right]
          exact this
        · have e : (m : Int) + sd = m - (0 - sd) := by omega
          rw [e]
          refine own_set HGW.out m HMM.out (fun j hj => ?_)
          rw [down_step hi (0 - sd) m j (by omega) (by omega) H3.out]
          by_cases e : j = m
          · subst e; simp
          · rw [if_neg (show ¬ (j : Int) = m by omega), if_neg e]
      case measure => simp [intOf]; omega
    · have HG := Lib.hid (show Own wr (W.heap.size + 1) 4 (bls ((List.range n).map f)).toArray from own_same hg (fun j hj => by
        rw [← HFF.out]
        show _ = hasI s j n
        rw [HASF.out j hj]
        exact down_end hi (0 - sd) i lo j (by omega) h3 (by omega) h4))
      have HL := Lib.hid hbw
      obtain ⟨s0, s1, s2, s3, s4, s5, s6, s7⟩ := own_sel8 ho
      clear hg hbw h3 h4
      go_upto_region 15 with fail
      clear s0 s1 s2 s3 s4 s5 s6 s7 ho HG3 HBL HO3
      generalize hw9 : wr = w9 at *
      clear hw9
      go_wp2
      have hz9 := HL.out.size
      have hg9 := HG.out.inside
      have hcr : GRow nmK (w9.alloc (.cells #[] 3)) w9.heap.size (.slice (some ⟨w9.heap.size, 0, none⟩) 0 0) [] := GRow.made (K := nmK) (l := []) (base := w9.heap.size) w9 #[] rfl (by decide) (Nat.le_refl _)
      have hco : RelCo W (W.heap.size + 1) w9.heap.size n f (.slice (some ⟨w9.heap.size, 0, none⟩) 0 0) (.int .i64 0) (w9.alloc (.cells #[] 3)) := ⟨0, Nat.zero_le _, rfl, by simpa using hcr, HG.out.over _, HL.out.alloc hz9 _, by simp⟩
      go_loopw [10, 86] (fun vO vi wr => RelCo W (W.heap.size + 1) w9.heap.size n f vO vi wr) (fun _ vi _ => n - (intOf vi).toNat)
      case atStart => exact hco
      case round =>
        obtain ⟨k, hk, rfl, hrow, hown, hbw, hbase⟩ := hrel
        obtain ⟨A8, c8, rfl, _⟩ := hrow.form
        by_cases hlt : k < n
        · have hkI : (k : Int) < n := by omega
          have hcell := own_bool hown k hlt
          have hfew : (((List.range n).take k).filter f).length ≤ 1000 := by
            have h1 := List.length_filter_le f ((List.range n).take k)
            have h2 : ((List.range n).take k).length ≤ n := by simp; omega
            omega
          have HR := Lib.hid hrow
          have HOW := Lib.hid hown
          have HBW := Lib.hid hbw
          have hr1 : RdG nmK (wr.alloc (.cells #[.int .i64 k] 3)) (some ⟨wr.heap.size, 0, none⟩) 1 [k] := (GRow.made (K := nmK) (l := [k]) (base := 0) wr #[.int .i64 k] rfl (show 1 ≤ maxLen by decide) (Nat.zero_le _)).rd
          have hrow1 := hrow.stay (w' := wr.alloc (.cells #[.int .i64 k] 3)) (fun g hg => (below1s wr _).block g (hrow.low hg).2)
          cases hfk : f k
          · rw [hfk] at hcell
            have HF := Lib.hid hfk
            clear hfk hown hbw hrow hrow1 hr1
            go_wp2
            go_roundw
            case rel => exact ⟨k + 1, hlt, by go_num, by rw [filter_take n f k hlt, HF.out]; simpa using HR.out, HOW.out, HBW.out, hbase⟩
            case measure => simp [intOf]; omega
          · rw [hfk] at hcell
            have HF := Lib.hid hfk
            have HR1 := Lib.hid hrow1
            have HN1 := Lib.hid hr1
            clear hfk hown hbw hrow hrow1 hr1
            go_wp2_with (at_builtin; refine row_append (K := nmK) _ rfl (.tmp 92) (.tmp 94) rfl w9.heap.size _ (((List.range n).take k).filter f) rfl HR1.out _ 1 1 [k] rfl HN1.out (by omega) (by simp; omega) ?_; intro vO' w5 hr5 hg5 ho5)
            go_roundw
            case rel =>
              have := co_next hlt HF.out HOW.out HBW.out hbase hg9 hz9 HR.out hr5 hg5
              have e : ((k + 1 : Nat) : Int) = (k : Int) + 1 := by omega
              rw [e] at this
              exact this
            case measure => simp [intOf]; omega
        · obtain rfl : n = k := by omega
          rw [List.take_of_length_le (by simp)] at hrow
          have hkI : ¬ (n : Int) < n := by omega
          have hall : (List.range n).filter f = allI s n := by
            unfold allI
            apply List.filter_congr
            intro j hj
            exact HALL.out j (List.mem_range.1 hj)
          rw [hall] at hrow
          have hrd := hrow.rd
          rw [List.take_of_length_le (by simp), hall]
          go_wp2
          go_ret
          refine ⟨_, ⟨_, rfl⟩, ?_, hbw⟩
          refine ⟨by simp [idxs], fun hn => ?_⟩
          obtain ⟨g, o, e, h1, h2⟩ := hrd.2 hn
          refine ⟨_, e, h1, fun j u hu => ?_⟩
          rw [add_none]
          refine h2 j u ?_
          rw [nm_all]
          exact hu

end Go.Proofs.Ytkianpaihdidnaa
