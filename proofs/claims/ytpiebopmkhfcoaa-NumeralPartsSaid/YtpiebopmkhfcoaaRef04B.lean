/- The contracts of the document's Step, Fault and Count for layer 4 (riffleref04). -/
import Derived.Test.YtpiebopmkhfcoaaRef04
import Derived.Test.YtpiebopmkhfcoaaNumB
import Derived.Laws.BytesArg
import Derived.StillTailTactics
namespace Go.Proofs.Ytpiebopmkhfcoaa
open Go.RowKit

theorem conv_one (W : World) (x : Int) :
    (convert 32 9 (.slice (some ⟨W.heap.size, 0, none⟩) 1 1)).run Try.prog (W.alloc (.cells #[.int .u8 x] 5)) = .ok (.string (strOfNums [x])) (W.alloc (.cells #[.int .u8 x] 5)) := by
  exact run_convert_bytes_arg _ _ _ Try.underlying32 Try.underlying5 W.heap.size 0 1 1 [x] rfl (fun i hi => by
    obtain rfl : i = 0 := by omega
    simp) _ Try.underlying9

theorem cat_data (s t : ByteArray) : (s ++ t).data.toList = s.data.toList ++ t.data.toList := by simp
theorem one_data (c : UInt8) : (strOfNums [(c.toNat : Int)]).data.toList = [c] := by
  rw [strOfNums_data]; simp

set_option maxRecDepth 100000 in
set_option maxHeartbeats 4000000 in
theorem rstep_at (s : ByteArray) (c : UInt8) (a : Int) (h : At a s.data.toList) (W : World) (hs : s.size ≤ 400) :
    Calls Try.prog 8 #[.string s, .int .u8 c.toNat] W fun e w' => e = .returned (.int .i64 (anI a c.toNat)) ∧ Below W.heap.size W w' := by
  have hcv := conv_one
  have hz1 : (strOfNums [(c.toNat : Int)]).size = 1 := rfl
  have hg := at_goes h c
  have kt := fun w => ris_any (s ++ strOfNums [(c.toNat : Int)]) w (by simp [hz1]; omega)
  have ku := fun w => ris_any (s ++ strOfNums [(c.toNat : Int)] ++ ⟨#[49]⟩) w (by rw [ByteArray.size_append, ByteArray.size_append, hz1]; show _ + 1 ≤ _; omega)
  have ks := fun w => ris_any s w (by omega)
  rw [cat_data, one_data] at kt
  rw [cat_data, cat_data, one_data] at ku
  rw [at_is h] at ks
  rw [show (ByteArray.mk #[49]).data.toList = [49] from rfl] at ku
  have KT := Lib.hid kt
  have KU := Lib.hid ku
  have KS := Lib.hid ks
  have HV := Lib.hid (show anI a c.toNat = if decide (nxI a c.toNat ≠ 0) then 0 else if whI a && !stickI c.toNat then 1 else 2 by unfold anI; simp)
  clear kt ku ks
  have hsz : s.size ≤ 400 := hs
  generalize isR (s.data.toList ++ [c]) = x at *
  generalize isR (s.data.toList ++ [c] ++ [49]) = y at *
  rw [← hg] at HV
  generalize whI a = z at *
  have HG := Lib.hid (rdigit_any c.toNat)
  have HL := Lib.hid (ralpha_any c.toNat)
  have HK := Lib.hid (show stickI c.toNat = (isDigitI c.toNat || isAlphaI c.toNat || decide ((c.toNat : Int) = 46) || decide ((c.toNat : Int) = 43) || decide ((c.toNat : Int) = 45)) from rfl)
  clear hg h hs
  generalize isDigitI c.toNat = d at *
  generalize isAlphaI c.toNat = b at *
  generalize stickI c.toNat = k at *
  generalize anI a c.toNat = r at *
  generalize (c.toNat : Int) = n at *
  cases x
  case true =>
    go_enter Try.func8, Try.ntmps8
    go_wp2_with (first
      | (go_at_call 10; (with_reducible refine (KT.out _).mono ?_); rintro e w1 ⟨rfl, rfl⟩)
      | (go_at_call 10; (with_reducible refine (KU.out _).mono ?_); rintro e w1 ⟨rfl, rfl⟩)
      | (go_at_call 10; (with_reducible refine (KS.out _).mono ?_); rintro e w1 ⟨rfl, rfl⟩)
      | (go_at_call 17; refine (HG.out _).mono ?_; rintro e w1 ⟨rfl, rfl⟩)
      | (go_at_call 18; refine (HL.out _).mono ?_; rintro e w1 ⟨rfl, rfl⟩))
    go_ret
    exact ⟨ret_i (by rw [HV.out]; rfl), (Below.refl _ _).alloc (Nat.le_refl _) _⟩
  cases y
  case true =>
    go_enter Try.func8, Try.ntmps8
    go_wp2_with (first
      | (go_at_call 10; (with_reducible refine (KT.out _).mono ?_); rintro e w1 ⟨rfl, rfl⟩)
      | (go_at_call 10; (with_reducible refine (KU.out _).mono ?_); rintro e w1 ⟨rfl, rfl⟩)
      | (go_at_call 10; (with_reducible refine (KS.out _).mono ?_); rintro e w1 ⟨rfl, rfl⟩)
      | (go_at_call 17; refine (HG.out _).mono ?_; rintro e w1 ⟨rfl, rfl⟩)
      | (go_at_call 18; refine (HL.out _).mono ?_; rintro e w1 ⟨rfl, rfl⟩))
    go_ret
    exact ⟨ret_i (by rw [HV.out]; rfl), (Below.refl _ _).alloc (Nat.le_refl _) _⟩
  cases z
  case false =>
    go_enter Try.func8, Try.ntmps8
    go_wp2_with (first
      | (go_at_call 10; (with_reducible refine (KT.out _).mono ?_); rintro e w1 ⟨rfl, rfl⟩)
      | (go_at_call 10; (with_reducible refine (KU.out _).mono ?_); rintro e w1 ⟨rfl, rfl⟩)
      | (go_at_call 10; (with_reducible refine (KS.out _).mono ?_); rintro e w1 ⟨rfl, rfl⟩)
      | (go_at_call 17; refine (HG.out _).mono ?_; rintro e w1 ⟨rfl, rfl⟩)
      | (go_at_call 18; refine (HL.out _).mono ?_; rintro e w1 ⟨rfl, rfl⟩))
    go_ret
    exact ⟨ret_i (by rw [HV.out]; rfl), (Below.refl _ _).alloc (Nat.le_refl _) _⟩
  by_cases h1 : n = 46
  · subst h1
    cases d <;> cases b
    all_goals
      go_enter Try.func8, Try.ntmps8
      go_wp2_with (first
      | (go_at_call 10; (with_reducible refine (KT.out _).mono ?_); rintro e w1 ⟨rfl, rfl⟩)
      | (go_at_call 10; (with_reducible refine (KU.out _).mono ?_); rintro e w1 ⟨rfl, rfl⟩)
      | (go_at_call 10; (with_reducible refine (KS.out _).mono ?_); rintro e w1 ⟨rfl, rfl⟩)
      | (go_at_call 17; refine (HG.out _).mono ?_; rintro e w1 ⟨rfl, rfl⟩)
      | (go_at_call 18; refine (HL.out _).mono ?_; rintro e w1 ⟨rfl, rfl⟩))
      go_ret
      exact ⟨ret_i (by rw [HV.out, HK.out]; rfl), (Below.refl _ _).alloc (Nat.le_refl _) _⟩
  have g1 : (n != 46) = true := by simp [h1]
  by_cases h2 : n = 43
  · subst h2
    cases d <;> cases b
    all_goals
      go_enter Try.func8, Try.ntmps8
      go_wp2_with (first
      | (go_at_call 10; (with_reducible refine (KT.out _).mono ?_); rintro e w1 ⟨rfl, rfl⟩)
      | (go_at_call 10; (with_reducible refine (KU.out _).mono ?_); rintro e w1 ⟨rfl, rfl⟩)
      | (go_at_call 10; (with_reducible refine (KS.out _).mono ?_); rintro e w1 ⟨rfl, rfl⟩)
      | (go_at_call 17; refine (HG.out _).mono ?_; rintro e w1 ⟨rfl, rfl⟩)
      | (go_at_call 18; refine (HL.out _).mono ?_; rintro e w1 ⟨rfl, rfl⟩))
      go_ret
      exact ⟨ret_i (by rw [HV.out, HK.out]; rfl), (Below.refl _ _).alloc (Nat.le_refl _) _⟩
  have g2 : (n != 43) = true := by simp [h2]
  by_cases h3 : n = 45
  · subst h3
    cases d <;> cases b
    all_goals
      go_enter Try.func8, Try.ntmps8
      go_wp2_with (first
      | (go_at_call 10; (with_reducible refine (KT.out _).mono ?_); rintro e w1 ⟨rfl, rfl⟩)
      | (go_at_call 10; (with_reducible refine (KU.out _).mono ?_); rintro e w1 ⟨rfl, rfl⟩)
      | (go_at_call 10; (with_reducible refine (KS.out _).mono ?_); rintro e w1 ⟨rfl, rfl⟩)
      | (go_at_call 17; refine (HG.out _).mono ?_; rintro e w1 ⟨rfl, rfl⟩)
      | (go_at_call 18; refine (HL.out _).mono ?_; rintro e w1 ⟨rfl, rfl⟩))
      go_ret
      exact ⟨ret_i (by rw [HV.out, HK.out]; rfl), (Below.refl _ _).alloc (Nat.le_refl _) _⟩
  have g3 : (n != 45) = true := by simp [h3]
  cases d <;> cases b
  all_goals
    go_enter Try.func8, Try.ntmps8
    go_wp2_with (first
      | (go_at_call 10; (with_reducible refine (KT.out _).mono ?_); rintro e w1 ⟨rfl, rfl⟩)
      | (go_at_call 10; (with_reducible refine (KU.out _).mono ?_); rintro e w1 ⟨rfl, rfl⟩)
      | (go_at_call 10; (with_reducible refine (KS.out _).mono ?_); rintro e w1 ⟨rfl, rfl⟩)
      | (go_at_call 17; refine (HG.out _).mono ?_; rintro e w1 ⟨rfl, rfl⟩)
      | (go_at_call 18; refine (HL.out _).mono ?_; rintro e w1 ⟨rfl, rfl⟩))
    go_ret
    exact ⟨ret_i (by rw [HV.out, HK.out]; simp [h1, h2, h3]), (Below.refl _ _).alloc (Nat.le_refl _) _⟩

theorem head_is (s : ByteArray) (k : Nat) : (s.extract 0 k).data.toList = s.data.toList.take k := by
  rw [ByteArray.data_extract, Array.toList_extract, List.extract_eq_take_drop]
  simp
theorem an_zero {a c : Int} (h : nxI a c ≠ 0) : anI a c = 0 := by unfold anI; rw [if_pos h]
theorem an_more {a c : Int} (h : nxI a c = 0) : anI a c ≠ 0 := by
  unfold anI
  rw [if_neg (by simp [h])]
  split <;> omega
theorem at_take {a : Int} {l : List UInt8} (k : Nat) (hk : k < l.length) (h : At a (l.take k)) (hc : nxI a l[k].toNat ≠ 0) : At (nxI a l[k].toNat) (l.take (k + 1)) := by
  rw [List.take_succ_eq_append_getElem hk]
  exact at_step h _ hc

/-- Where the document's Fault's loop is. -/
def RelRF (s : ByteArray) (W wr : World) (i : Value) : Prop :=
  ∃ (k : Nat) (a : Int), k ≤ s.size ∧ i = .int .i64 k ∧ At a (s.data.toList.take k) ∧ Below W.heap.size W wr ∧ fRun 0 s.data.toList 0 = fRun a (s.data.toList.drop k) k

set_option maxRecDepth 100000 in
set_option maxHeartbeats 2000000 in
theorem rfault_any (s : ByteArray) (W : World) (hs : s.size ≤ 400) :
    Calls Try.prog 13 #[.string s] W fun e w' => e = .returned (.int .i64 (fRun 0 s.data.toList 0)) ∧ Below W.heap.size W w' := by
  go_enter Try.func13, Try.ntmps13
  go_wp2
  go_loopw [3] (fun i wr => RelRF s W wr i) (fun i _ => s.size - (intOf i).toNat)
  case atStart => exact ⟨0, 0, Nat.zero_le _, rfl, at_nil, Below.refl _ _, rfl⟩
  case round =>
    obtain ⟨k, a, hk, rfl, hat, hbel, hrun⟩ := hrel
    by_cases hlt : k < s.size
    · have hl : k < s.data.toList.length := hlt
      rw [fRun_cons _ _ _ hl] at hrun
      have hc : s.data.toList[k] = s[k] := rfl
      rw [hc] at hrun
      have HS := fun w => rstep_at (s.extract 0 k) s[k] a (by rw [head_is]; exact hat) w (by simp; omega)
      by_cases hok : nxI a s[k].toNat = 0
      · rw [if_pos hok] at hrun
        have han' : (anI a s[k].toNat != 0) = true := by simp [an_more hok]
        have HS := Lib.hid HS
        have HR := Lib.hid hrun
        clear hrun hok hc hat
        generalize anI a s[k].toNat = x at *
        go_wp2
        go_still_tail 6, (by kernel_rfl)
        change wpList _ _ _ _ _ wr.drew
        go_wp2_with (go_at_call 8; refine (HS.out _).mono ?_; rintro e w' ⟨rfl, hb⟩)
        go_ret
        exact ⟨ret_i HR.out.symm, hbel.drew.trans (hb.mono hbel.size)⟩
      · rw [if_neg hok] at hrun
        rw [an_zero hok] at HS
        have hat' := at_take k hl hat (by rw [hc]; exact hok)
        rw [hc] at hat'
        have HS := Lib.hid HS
        have HR := Lib.hid hrun
        have HA := Lib.hid hat'
        clear hrun hok hc hat hat'
        go_wp2
        go_still_tail 6, (by kernel_rfl)
        change wpList _ _ _ _ _ wr.drew
        go_wp2_with (go_at_call 8; refine (HS.out _).mono ?_; rintro e w' ⟨rfl, hb⟩)
        go_roundw
        case rel => exact ⟨k + 1, _, hlt, by go_num, HA.out, hbel.drew.trans (hb.mono hbel.size), HR.out⟩
        case measure => simp [intOf]; omega
    · obtain rfl : k = s.size := by omega
      rw [show s.data.toList.drop s.size = [] from List.drop_of_length_le (Nat.le_refl _)] at hrun
      rw [show s.data.toList.take s.size = s.data.toList from List.take_of_length_le (Nat.le_refl _)] at hat
      have hi := ris_any s wr (by omega)
      rw [at_is hat] at hi
      have HI := Lib.hid hi
      have HR := Lib.hid (show fRun 0 s.data.toList 0 = if whI a then -1 else (s.size : Int) from hrun)
      clear hrun hi hat
      generalize whI a = x at *
      cases x
      all_goals
        go_wp2_with (go_at_call 10; refine HI.out.mono ?_; rintro e w' ⟨rfl, rfl⟩)
        go_ret
        exact ⟨ret_i (by rw [HR.out]; rfl), hbel⟩

theorem take_snoc (l : List UInt8) (k : Nat) (h : k < l.length) : l.take (k + 1) = l.take k ++ [l[k]] := List.take_succ_eq_append_getElem h

/-- Behind a byte that led nowhere nothing is whole. -/
def Dead (l : List UInt8) : Prop := ∀ r, isR (l ++ r) = false
theorem dead_more {l : List UInt8} (h : Dead l) (m : List UInt8) : Dead (l ++ m) := fun r => by rw [List.append_assoc]; exact h _
theorem dead_now {l : List UInt8} (h : Dead l) : isR l = false := by have := h []; rwa [List.append_nil] at this

/-- Where the document's Count's loop is: k bytes are looked at; n: what was found. -/
def CntAt (l : List UInt8) (k : Nat) (n : Int) : Prop :=
  (∃ a, At a (l.take k) ∧ cRun 0 l 0 0 = cRun a (l.drop k) k n) ∨ (Dead (l.take k) ∧ cRun 0 l 0 0 = n)

theorem cnt_step {l : List UInt8} {k : Nat} {n : Int} (h : CntAt l k n) (hk : k < l.length) : CntAt l (k + 1) (if isR (l.take (k + 1)) then k + 1 else n) := by
  rcases h with ⟨a, hat, hc⟩ | ⟨hd, hc⟩
  · rw [cRun_cons _ _ _ hk] at hc
    by_cases hok : nxI a l[k].toNat = 0
    · rw [if_pos hok] at hc
      have hd : Dead (l.take (k + 1)) := fun r => by rw [take_snoc l k hk, List.append_assoc]; exact at_dead hat _ hok r
      rw [dead_now hd]
      exact .inr ⟨hd, hc⟩
    · rw [if_neg hok] at hc
      have hat' := at_take k hk hat hok
      rw [at_is hat']
      exact .inl ⟨_, hat', hc⟩
  · have hd' : Dead (l.take (k + 1)) := by rw [take_snoc l k hk]; exact dead_more hd _
    rw [dead_now hd']
    exact .inr ⟨hd', hc⟩

theorem cnt_end {l : List UInt8} {n : Int} (h : CntAt l l.length n) : cRun 0 l 0 0 = n := by
  rcases h with ⟨a, _, hc⟩ | ⟨_, hc⟩
  · rw [List.drop_of_length_le (Nat.le_refl _)] at hc
    exact hc
  · exact hc

def RelRC (s : ByteArray) (W wr : World) (m i : Value) : Prop :=
  ∃ (k n : Nat), k ≤ s.size ∧ n ≤ k ∧ i = .int .i64 ((k + 1 : Nat) : Int) ∧ m = .int .i64 n ∧ W = wr ∧ CntAt s.data.toList k n

set_option maxRecDepth 100000 in
set_option maxHeartbeats 2000000 in
theorem rcount_any (s : ByteArray) (W : World) (hs : s.size ≤ 400) :
    Calls Try.prog 15 #[.string s] W fun e w' => e = .returned (.int .i64 (cRun 0 s.data.toList 0 0)) ∧ W = w' := by
  go_enter Try.func15, Try.ntmps15
  go_wp2
  go_loopw [3, 4] (fun m i wr => RelRC s W wr m i) (fun _ i _ => s.size + 1 - (intOf i).toNat)
  case atStart => exact ⟨0, 0, Nat.zero_le _, Nat.le_refl _, rfl, rfl, rfl, .inl ⟨0, at_nil, rfl⟩⟩
  case round =>
    obtain ⟨k, n, hk, hn, rfl, rfl, rfl, hcn⟩ := hrel
    by_cases hlt : k < s.size
    · have hl : k < s.data.toList.length := hlt
      have h1 : k + 1 ≤ s.size := hlt
      have hi := ris_any (s.extract 0 (k + 1)) W (by simp; omega)
      rw [head_is] at hi
      have hcn' := cnt_step hcn hl
      have HI := Lib.hid hi
      clear hi hcn
      generalize isR (s.data.toList.take (k + 1)) = x at *
      cases x
      · have HC := Lib.hid (show CntAt s.data.toList (k + 1) n from hcn')
        clear hcn'
        go_wp2_with (go_at_call 10; refine HI.out.mono ?_; rintro e w' ⟨rfl, rfl⟩)
        go_roundw
        case rel => exact ⟨k + 1, n, hlt, by omega, by go_num, rfl, rfl, HC.out⟩
        case measure => simp [intOf]; omega
      · have HC := Lib.hid (show CntAt s.data.toList (k + 1) ((k + 1 : Nat) : Int) from by simpa using hcn')
        clear hcn'
        go_wp2_with (go_at_call 10; refine HI.out.mono ?_; rintro e w' ⟨rfl, rfl⟩)
        go_roundw
        case rel => exact ⟨k + 1, k + 1, hlt, Nat.le_refl _, by go_num, by go_num, rfl, HC.out⟩
        case measure => simp [intOf]; omega
    · obtain rfl : k = s.size := by omega
      have HR := Lib.hid (cnt_end (l := s.data.toList) hcn)
      clear hcn
      go_wp2
      go_ret
      exact ⟨ret_i (by rw [HR.out]), rfl⟩

end Go.Proofs.Ytpiebopmkhfcoaa
