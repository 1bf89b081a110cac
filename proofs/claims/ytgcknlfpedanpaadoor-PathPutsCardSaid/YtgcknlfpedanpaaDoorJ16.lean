/- The document's one (riffleref13): the sign that begins a text within marks. -/
import Derived.Test.YtgcknlfpedanpaaDoorJ13
namespace Go.Proofs.YtgcknlfpedanpaaDoor
open Go.RowKit
set_option linter.unusedVariables false

/-- What one answers of a text. -/
def OneEnd (l : List UInt8) (W : World) (e : Ending) (w' : World) : Prop :=
  ∃ A c, e = .returned (.tuple #[.slice A (oneM l).1.length c, .int .i64 ((oneM l).2 : Nat)]) ∧ Rd w' w'.heap.size A (oneM l).1.length (byteCells (oneM l).1) ∧ Below W.heap.size W w'
theorem oneEnd_of {l b : List UInt8} {n : Nat} {W w' : World} {A : Option Addr} {c : Nat} (h : oneM l = (b, n)) (hr : Rd w' w'.heap.size A b.length (byteCells b)) (hb : Below W.heap.size W w') : OneEnd l W (.returned (.tuple #[.slice A b.length c, .int .i64 (n : Nat)])) w' := by
  unfold OneEnd
  rw [h]
  exact ⟨A, c, rfl, hr, hb⟩
theorem oneEnd_none {l : List UInt8} {W w' : World} (h : oneM l = ([], 0)) (hb : Below W.heap.size W w') : OneEnd l W (.returned (.tuple #[.slice none 0 0, .int .i64 0])) w' :=
  oneEnd_of (A := none) (c := 0) h (Rd.zero _ _ _) hb
theorem one_head (s : ByteArray) (h : 0 < s.size) : oneM s.data.toList = if s[0] = 39 ∨ s[0].toNat < 32 then ([], 0) else if s[0] ≠ 92 then (s.data.toList.take (sgnL s.data.toList), sgnL s.data.toList) else backM s.data.toList (s.data.toList.drop 1) := by
  have hh := head_is s h
  have e : oneM (s[0] :: s.data.toList.drop 1) = if s[0] = 39 ∨ s[0].toNat < 32 then ([], 0) else if s[0] ≠ 92 then ((s[0] :: s.data.toList.drop 1).take (sgnL (s[0] :: s.data.toList.drop 1)), sgnL (s[0] :: s.data.toList.drop 1)) else backM (s[0] :: s.data.toList.drop 1) (s.data.toList.drop 1) := oneM_cons _ _
  rw [← hh] at e
  exact e

/-- Where the search for a sign's end is. -/
def RelOn (s : ByteArray) (W : World) (i : Value) (wr : World) : Prop :=
  ∃ m : Nat, m ≤ 4 ∧ m ≤ s.size ∧ i = .int .i64 ((m + 1 : Nat) : Int) ∧ Below W.heap.size W wr ∧
    ((∃ sg lf, m ≤ 3 ∧ InvL (s.data.toList.take m) sg lf ∧ StU sg lf ∧ sgnL s.data.toList = sgnGo sg lf (s.data.toList.drop m) m) ∨
     (1 ≤ m ∧ sgnL s.data.toList = 0 ∧ (begR (s.data.toList.take m)).1 = false))

set_option maxRecDepth 100000 in
set_option maxHeartbeats 8000000 in
theorem one13_sign (s : ByteArray) (W : World) (h0 : 0 < s.size) (h9 : s.size ≤ 1000) (h39 : ¬ (s[0] = 39 ∨ s[0].toNat < 32)) (h92 : s[0] ≠ 92) :
    Calls Tryd.prog 28 #[.string s] W (OneEnd s.data.toList W) := by
  have hsl : s.data.toList.length = s.size := rfl
  have hO := one_head s h0
  rw [if_neg h39, if_pos h92] at hO
  have HO := Lib.hid hO
  have g1 : ((s[0].toNat : Int) == 39) = false := beq_eq_false_iff_ne.2 fun e => h39 (.inl (UInt8.toNat_inj.1 (by rw [show ((39 : UInt8).toNat) = 39 from rfl]; omega)))
  have g2 : ¬ (s[0].toNat : Int) < 32 := fun e => h39 (.inr (by omega))
  have g3 : ((s[0].toNat : Int) != 92) = true := bne_iff_ne.2 fun e => h92 (UInt8.toNat_inj.1 (by rw [show ((92 : UInt8).toNat) = 92 from rfl]; omega))
  clear hO h39 h92
  go_enter Tryd.func28, Tryd.ntmps28
  go_wp2
  go_loopw [4] (fun i wr => RelOn s W i wr) (fun i _ => 6 - (intOf i).toNat)
  case atStart => exact ⟨0, by omega, by omega, rfl, Below.refl _ _, .inl ⟨0, 0, by omega, rfl, stU_zero, rfl⟩⟩
  case round =>
    obtain ⟨m, hm4, hm, rfl, hb, hway⟩ := hrel
    by_cases hlt : m < s.size ∧ m < 4
    · obtain ⟨hl1, hl2⟩ := hlt
      obtain ⟨hp1, hp2⟩ := part_zero s m hl1
      have q1 : (m : Int) + 1 ≤ s.size := by omega
      have q2 : (m : Int) + 1 ≤ 4 := by omega
      have q3 : m + 1 ≤ s.size := by omega
      have hz1 : 0 < (s.extract 0 (m + 1)).size := by rw [ByteArray.size_extract]; omega
      rcases hway with ⟨sg, lf, hm3, hinv, hst, hsg⟩ | ⟨hm1, hsg, hbg⟩
      · rw [sgnGo_cons _ _ _ _ _ (show m < s.data.toList.length from hl1), show s.data.toList[m] = s[m] from rfl] at hsg
        by_cases hok : okU sg lf s[m].toNat = true
        · have hst' := stU_step hst (Int.natCast_nonneg _) hok
          have hinv' := invL_step hinv hok
          rw [if_pos hok] at hsg
          by_cases hz : lfU lf s[m].toNat = 0
          · have HB := Lib.hid (fun w => rbegins_step _ _ _ _ _ hp1 hinv w (x := true) (y := true) (z := sgU sg lf s[m].toNat) (by unfold ansU; rw [if_pos hok, if_pos hz]))
            rw [if_pos hz] at hsg
            have hsz : (s.extract 0 (m + 1)).size = m + 1 := by rw [ByteArray.size_extract]; omega
            have HCV := Lib.hid (fun w => conv_str13 w (s.extract 0 (m + 1)))
            rw [hsz, hp2] at HCV
            have hlen : (s.data.toList.take (m + 1)).length = m + 1 := by rw [List.length_take]; omega
            have HE := Lib.hid (show oneM s.data.toList = (s.data.toList.take (m + 1), m + 1) by rw [HO.out, hsg])
            have HL := Lib.hid hlen
            clear hinv' hinv hsg hp1 hp2 hok hz hst hst' hsl hsz hlen
            go_wp2_with (go_at_call 31; refine (HB.out _).mono ?_; rintro e w4 ⟨rfl, hb2⟩; obtain ⟨c9, w9, cv9, rd9, hb9⟩ := HCV.out w4; have HR9 := Lib.hid rd9; have HB9 := Lib.hid ((hb.trans (hb2.mono hb.size)).trans (hb9.mono (hb.trans (hb2.mono hb.size)).size)); clear rd9 hb9)
            go_ret2
            have hfin := oneEnd_of (W := W) (w' := w9) (A := some ⟨w4.heap.size, 0, none⟩) (c := c9) HE.out (by rw [HL.out]; exact HR9.out) HB9.out
            rw [HL.out] at hfin
            exact hfin
          · have HB := Lib.hid (fun w => rbegins_step _ _ _ _ _ hp1 hinv w (x := true) (y := false) (z := 0) (by unfold ansU; rw [if_pos hok, if_neg hz]))
            rw [if_neg hz] at hsg hinv'
            rw [← hp1, hp2] at hinv'
            have hi3 := (invL_len hinv').1
            rw [List.length_take] at hi3
            have hi3' : m + 1 ≤ 3 := by omega
            have HS := Lib.hid hsg
            have HI := Lib.hid hinv'
            have HT := Lib.hid hst'
            clear hinv' hinv hsg hp1 hp2 hok hz hst hst' hsl hi3
            go_wp2_with (go_at_call 31; refine (HB.out _).mono ?_; rintro e w' ⟨rfl, hb2⟩)
            go_roundw
            case rel => exact ⟨m + 1, by omega, by omega, by go_num, hb.trans (hb2.mono hb.size), .inl ⟨_, _, hi3', HI.out, HT.out, HS.out⟩⟩
            case measure => simp [intOf]; omega
        · have HB := Lib.hid (fun w => rbegins_step _ _ _ _ _ hp1 hinv w (x := false) (y := false) (z := 0) (by unfold ansU; rw [if_neg hok]))
          rw [if_neg hok] at hsg
          have hbg := beg_any (s.data.toList.take m) s[m] sg lf hinv
          rw [← hp1, hp2] at hbg
          have HG := Lib.hid (show (begR (s.data.toList.take (m + 1))).1 = false by rw [hbg]; unfold ansU; rw [if_neg hok])
          have HS := Lib.hid hsg
          clear hinv hsg hp1 hp2 hok hst hsl hbg
          go_wp2_with (go_at_call 31; refine (HB.out _).mono ?_; rintro e w' ⟨rfl, hb2⟩)
          go_roundw
          case rel => exact ⟨m + 1, by omega, by omega, by go_num, hb.trans (hb2.mono hb.size), .inr ⟨by omega, HS.out, HG.out⟩⟩
          case measure => simp [intOf]; omega
      · have HB := Lib.hid (fun w => rbegins_any (s.extract 0 (m + 1)) w hz1)
        have hd : begR (s.extract 0 (m + 1)).data.toList = (false, false, 0) := by
          rw [hp1]
          refine beg_dead _ _ (fun e => ?_) hbg
          have := congrArg List.length e
          rw [List.length_take, List.length_nil] at this
          omega
        rw [hd] at HB
        rw [hp2] at hd
        have HG := Lib.hid (show (begR (s.data.toList.take (m + 1))).1 = false by rw [hd])
        have HS := Lib.hid hsg
        clear hsg hp1 hp2 hsl hd hbg
        go_wp2_with (go_at_call 31; refine (HB.out _).mono ?_; rintro e w' ⟨rfl, hb2⟩)
        go_roundw
        case rel => exact ⟨m + 1, by omega, by omega, by go_num, hb.trans (hb2.mono hb.size), .inr ⟨by omega, HS.out, HG.out⟩⟩
        case measure => simp [intOf]; omega
    · have hn0 : sgnL s.data.toList = 0 := by
        rcases hway with ⟨sg, lf, hm3, hinv, hst, hsg⟩ | ⟨hm1, hsg, hbg⟩
        · rw [hsg, List.drop_of_length_le (by rw [hsl]; omega)]
          rfl
        · exact hsg
      have HE := Lib.hid (show oneM s.data.toList = ([], 0) by rw [HO.out, hn0]; rfl)
      clear hway hn0 hsl
      by_cases hs1 : m < s.size
      · have q1 : (m : Int) + 1 ≤ s.size := by omega
        have q2 : ¬ (m : Int) + 1 ≤ 4 := by omega
        go_wp2
        go_ret2
        exact oneEnd_none HE.out hb
      · have q1 : ¬ (m : Int) + 1 ≤ s.size := by omega
        go_wp2
        go_ret2
        exact oneEnd_none HE.out hb

set_option maxRecDepth 100000 in
set_option maxHeartbeats 2000000 in
theorem one13_end (s : ByteArray) (W : World) (h0 : 0 < s.size) (h39 : s[0] = 39 ∨ s[0].toNat < 32) : Calls Tryd.prog 28 #[.string s] W (OneEnd s.data.toList W) := by
  have hO := one_head s h0
  rw [if_pos h39] at hO
  have HE := Lib.hid hO
  clear hO
  by_cases h : s[0] = 39
  · have g1 : ((s[0].toNat : Int) == 39) = true := by rw [h]; rfl
    clear h h39
    go_enter Tryd.func28, Tryd.ntmps28
    go_wp2
    go_ret2
    exact oneEnd_none HE.out (Below.refl _ _)
  · have g1 : ((s[0].toNat : Int) == 39) = false := beq_eq_false_iff_ne.2 fun e => h (UInt8.toNat_inj.1 (by rw [show ((39 : UInt8).toNat) = 39 from rfl]; omega))
    have g2 : (s[0].toNat : Int) < 32 := by
      rcases h39 with h' | h'
      · exact absurd h' h
      · omega
    clear h h39
    go_enter Tryd.func28, Tryd.ntmps28
    go_wp2
    go_ret2
    exact oneEnd_none HE.out (Below.refl _ _)

/-- Where the search for a sign below 32 is. -/
def RelCt (s : ByteArray) (W : World) (i : Value) (wr : World) : Prop :=
  ∃ j : Nat, j ≤ 32 ∧ i = .int .i64 j ∧ Below W.heap.size W wr ∧ ∀ q, q < j → ¬ (escN (UInt8.ofNat q) = 0 ∧ s.data.toList.take 6 = ctlN (UInt8.ofNat q))

set_option maxRecDepth 100000 in
set_option maxHeartbeats 8000000 in
theorem one13_esc (s : ByteArray) (W : World) (h0 : 0 < s.size) (h9 : s.size ≤ 1000) (h92 : s[0] = 92) : Calls Tryd.prog 28 #[.string s] W (OneEnd s.data.toList W) := by
  have hsl : s.data.toList.length = s.size := rfl
  have hO := one_head s h0
  rw [if_neg (by rw [h92]; decide), if_neg (fun h => h h92)] at hO
  have g1 : ((s[0].toNat : Int) == 39) = false := by rw [h92]; rfl
  have g2 : ¬ (s[0].toNat : Int) < 32 := by rw [h92]; decide
  have g3 : ((s[0].toNat : Int) != 92) = false := by rw [h92]; rfl
  clear h92
  by_cases h2 : s.size < 2
  · have HE := Lib.hid (show oneM s.data.toList = ([], 0) by rw [hO, List.drop_of_length_le (by rw [hsl]; omega)]; rfl)
    have g4 : (s.size : Int) < 2 := by omega
    clear hO hsl h2
    go_enter Tryd.func28, Tryd.ntmps28
    go_wp2
    go_ret2
    exact oneEnd_none HE.out (Below.refl _ _)
  have h2' : 1 < s.size := by omega
  have g4 : ¬ (s.size : Int) < 2 := by omega
  have hd1 : s.data.toList.drop 1 = s[1] :: s.data.toList.drop 2 := List.drop_eq_getElem_cons (show 1 < s.data.toList.length from h2')
  rw [hd1, backM_cons] at hO
  by_cases hlet : letN s[1] ≠ 0
  · rw [if_pos hlet] at hO
    have hc := letN_cases hlet
    clear hlet hd1 hsl
    rcases hc with hc | hc | hc | hc | hc | hc | hc
    · have hcI : (s[1].toNat : Int) = 98 := by rw [hc]; rfl
      have HE := Lib.hid (show oneM s.data.toList = ([8], 2) by rw [hO, hc]; rfl)
      have HR := Lib.hid (fun w => lit_rd w #[.int .u8 8] [8] rfl)
      clear hc hO
      have qq1 : ((s[1].toNat : Int) == 98) = true := by rw [hcI]; rfl
      clear hcI
      go_enter Tryd.func28, Tryd.ntmps28
      go_wp2_with (go_at_call 36; refine (letters13_any _).mono ?_; rintro e w3 ⟨rfl, o1, o2, hb3, hlt3⟩; have HO1 := Lib.hid o1; have HO2 := Lib.hid o2; have HB3 := Lib.hid hb3; clear o1 o2 hb3)
      have f0 := HO1.out.at 0
      have g0' := HO2.out.at 0
      have f1 := HO1.out.at 1
      have g1' := HO2.out.at 1
      have f2 := HO1.out.at 2
      have g2' := HO2.out.at 2
      have f3 := HO1.out.at 3
      have g3' := HO2.out.at 3
      have f4 := HO1.out.at 4
      have g4' := HO2.out.at 4
      have f5 := HO1.out.at 5
      have g5' := HO2.out.at 5
      have f6 := HO1.out.at 6
      have g6' := HO2.out.at 6
      simp [byteCells, fromL] at f0 f1 f2 f3 f4 f5 f6
      simp [byteCells, toL] at g0' g1' g2' g3' g4' g5' g6'
      refine wp_loop_rounds 8 ?_
      rw [rounds_succ]; go_wp2
      go_ret2
      exact oneEnd_of HE.out ((HR.out _).more (by simp)) (HB3.out.alloc HB3.out.size _)
    · have hcI : (s[1].toNat : Int) = 116 := by rw [hc]; rfl
      have HE := Lib.hid (show oneM s.data.toList = ([9], 2) by rw [hO, hc]; rfl)
      have HR := Lib.hid (fun w => lit_rd w #[.int .u8 9] [9] rfl)
      clear hc hO
      have q01 : ((s[1].toNat : Int) == 98) = false := by rw [hcI]; rfl
      have qq1 : ((s[1].toNat : Int) == 116) = true := by rw [hcI]; rfl
      clear hcI
      go_enter Tryd.func28, Tryd.ntmps28
      go_wp2_with (go_at_call 36; refine (letters13_any _).mono ?_; rintro e w3 ⟨rfl, o1, o2, hb3, hlt3⟩; have HO1 := Lib.hid o1; have HO2 := Lib.hid o2; have HB3 := Lib.hid hb3; clear o1 o2 hb3)
      have f0 := HO1.out.at 0
      have g0' := HO2.out.at 0
      have f1 := HO1.out.at 1
      have g1' := HO2.out.at 1
      have f2 := HO1.out.at 2
      have g2' := HO2.out.at 2
      have f3 := HO1.out.at 3
      have g3' := HO2.out.at 3
      have f4 := HO1.out.at 4
      have g4' := HO2.out.at 4
      have f5 := HO1.out.at 5
      have g5' := HO2.out.at 5
      have f6 := HO1.out.at 6
      have g6' := HO2.out.at 6
      simp [byteCells, fromL] at f0 f1 f2 f3 f4 f5 f6
      simp [byteCells, toL] at g0' g1' g2' g3' g4' g5' g6'
      refine wp_loop_rounds 8 ?_
      rw [rounds_succ]; go_wp2
      rw [rounds_succ]; go_wp2
      go_ret2
      exact oneEnd_of HE.out ((HR.out _).more (by simp)) (HB3.out.alloc HB3.out.size _)
    · have hcI : (s[1].toNat : Int) = 110 := by rw [hc]; rfl
      have HE := Lib.hid (show oneM s.data.toList = ([10], 2) by rw [hO, hc]; rfl)
      have HR := Lib.hid (fun w => lit_rd w #[.int .u8 10] [10] rfl)
      clear hc hO
      have q01 : ((s[1].toNat : Int) == 98) = false := by rw [hcI]; rfl
      have q11 : ((s[1].toNat : Int) == 116) = false := by rw [hcI]; rfl
      have qq1 : ((s[1].toNat : Int) == 110) = true := by rw [hcI]; rfl
      clear hcI
      go_enter Tryd.func28, Tryd.ntmps28
      go_wp2_with (go_at_call 36; refine (letters13_any _).mono ?_; rintro e w3 ⟨rfl, o1, o2, hb3, hlt3⟩; have HO1 := Lib.hid o1; have HO2 := Lib.hid o2; have HB3 := Lib.hid hb3; clear o1 o2 hb3)
      have f0 := HO1.out.at 0
      have g0' := HO2.out.at 0
      have f1 := HO1.out.at 1
      have g1' := HO2.out.at 1
      have f2 := HO1.out.at 2
      have g2' := HO2.out.at 2
      have f3 := HO1.out.at 3
      have g3' := HO2.out.at 3
      have f4 := HO1.out.at 4
      have g4' := HO2.out.at 4
      have f5 := HO1.out.at 5
      have g5' := HO2.out.at 5
      have f6 := HO1.out.at 6
      have g6' := HO2.out.at 6
      simp [byteCells, fromL] at f0 f1 f2 f3 f4 f5 f6
      simp [byteCells, toL] at g0' g1' g2' g3' g4' g5' g6'
      refine wp_loop_rounds 8 ?_
      rw [rounds_succ]; go_wp2
      rw [rounds_succ]; go_wp2
      rw [rounds_succ]; go_wp2
      go_ret2
      exact oneEnd_of HE.out ((HR.out _).more (by simp)) (HB3.out.alloc HB3.out.size _)
    · have hcI : (s[1].toNat : Int) = 102 := by rw [hc]; rfl
      have HE := Lib.hid (show oneM s.data.toList = ([12], 2) by rw [hO, hc]; rfl)
      have HR := Lib.hid (fun w => lit_rd w #[.int .u8 12] [12] rfl)
      clear hc hO
      have q01 : ((s[1].toNat : Int) == 98) = false := by rw [hcI]; rfl
      have q11 : ((s[1].toNat : Int) == 116) = false := by rw [hcI]; rfl
      have q21 : ((s[1].toNat : Int) == 110) = false := by rw [hcI]; rfl
      have qq1 : ((s[1].toNat : Int) == 102) = true := by rw [hcI]; rfl
      clear hcI
      go_enter Tryd.func28, Tryd.ntmps28
      go_wp2_with (go_at_call 36; refine (letters13_any _).mono ?_; rintro e w3 ⟨rfl, o1, o2, hb3, hlt3⟩; have HO1 := Lib.hid o1; have HO2 := Lib.hid o2; have HB3 := Lib.hid hb3; clear o1 o2 hb3)
      have f0 := HO1.out.at 0
      have g0' := HO2.out.at 0
      have f1 := HO1.out.at 1
      have g1' := HO2.out.at 1
      have f2 := HO1.out.at 2
      have g2' := HO2.out.at 2
      have f3 := HO1.out.at 3
      have g3' := HO2.out.at 3
      have f4 := HO1.out.at 4
      have g4' := HO2.out.at 4
      have f5 := HO1.out.at 5
      have g5' := HO2.out.at 5
      have f6 := HO1.out.at 6
      have g6' := HO2.out.at 6
      simp [byteCells, fromL] at f0 f1 f2 f3 f4 f5 f6
      simp [byteCells, toL] at g0' g1' g2' g3' g4' g5' g6'
      refine wp_loop_rounds 8 ?_
      rw [rounds_succ]; go_wp2
      rw [rounds_succ]; go_wp2
      rw [rounds_succ]; go_wp2
      rw [rounds_succ]; go_wp2
      go_ret2
      exact oneEnd_of HE.out ((HR.out _).more (by simp)) (HB3.out.alloc HB3.out.size _)
    · have hcI : (s[1].toNat : Int) = 114 := by rw [hc]; rfl
      have HE := Lib.hid (show oneM s.data.toList = ([13], 2) by rw [hO, hc]; rfl)
      have HR := Lib.hid (fun w => lit_rd w #[.int .u8 13] [13] rfl)
      clear hc hO
      have q01 : ((s[1].toNat : Int) == 98) = false := by rw [hcI]; rfl
      have q11 : ((s[1].toNat : Int) == 116) = false := by rw [hcI]; rfl
      have q21 : ((s[1].toNat : Int) == 110) = false := by rw [hcI]; rfl
      have q31 : ((s[1].toNat : Int) == 102) = false := by rw [hcI]; rfl
      have qq1 : ((s[1].toNat : Int) == 114) = true := by rw [hcI]; rfl
      clear hcI
      go_enter Tryd.func28, Tryd.ntmps28
      go_wp2_with (go_at_call 36; refine (letters13_any _).mono ?_; rintro e w3 ⟨rfl, o1, o2, hb3, hlt3⟩; have HO1 := Lib.hid o1; have HO2 := Lib.hid o2; have HB3 := Lib.hid hb3; clear o1 o2 hb3)
      have f0 := HO1.out.at 0
      have g0' := HO2.out.at 0
      have f1 := HO1.out.at 1
      have g1' := HO2.out.at 1
      have f2 := HO1.out.at 2
      have g2' := HO2.out.at 2
      have f3 := HO1.out.at 3
      have g3' := HO2.out.at 3
      have f4 := HO1.out.at 4
      have g4' := HO2.out.at 4
      have f5 := HO1.out.at 5
      have g5' := HO2.out.at 5
      have f6 := HO1.out.at 6
      have g6' := HO2.out.at 6
      simp [byteCells, fromL] at f0 f1 f2 f3 f4 f5 f6
      simp [byteCells, toL] at g0' g1' g2' g3' g4' g5' g6'
      refine wp_loop_rounds 8 ?_
      rw [rounds_succ]; go_wp2
      rw [rounds_succ]; go_wp2
      rw [rounds_succ]; go_wp2
      rw [rounds_succ]; go_wp2
      rw [rounds_succ]; go_wp2
      go_ret2
      exact oneEnd_of HE.out ((HR.out _).more (by simp)) (HB3.out.alloc HB3.out.size _)
    · have hcI : (s[1].toNat : Int) = 39 := by rw [hc]; rfl
      have HE := Lib.hid (show oneM s.data.toList = ([39], 2) by rw [hO, hc]; rfl)
      have HR := Lib.hid (fun w => lit_rd w #[.int .u8 39] [39] rfl)
      clear hc hO
      have q01 : ((s[1].toNat : Int) == 98) = false := by rw [hcI]; rfl
      have q11 : ((s[1].toNat : Int) == 116) = false := by rw [hcI]; rfl
      have q21 : ((s[1].toNat : Int) == 110) = false := by rw [hcI]; rfl
      have q31 : ((s[1].toNat : Int) == 102) = false := by rw [hcI]; rfl
      have q41 : ((s[1].toNat : Int) == 114) = false := by rw [hcI]; rfl
      have qq1 : ((s[1].toNat : Int) == 39) = true := by rw [hcI]; rfl
      clear hcI
      go_enter Tryd.func28, Tryd.ntmps28
      go_wp2_with (go_at_call 36; refine (letters13_any _).mono ?_; rintro e w3 ⟨rfl, o1, o2, hb3, hlt3⟩; have HO1 := Lib.hid o1; have HO2 := Lib.hid o2; have HB3 := Lib.hid hb3; clear o1 o2 hb3)
      have f0 := HO1.out.at 0
      have g0' := HO2.out.at 0
      have f1 := HO1.out.at 1
      have g1' := HO2.out.at 1
      have f2 := HO1.out.at 2
      have g2' := HO2.out.at 2
      have f3 := HO1.out.at 3
      have g3' := HO2.out.at 3
      have f4 := HO1.out.at 4
      have g4' := HO2.out.at 4
      have f5 := HO1.out.at 5
      have g5' := HO2.out.at 5
      have f6 := HO1.out.at 6
      have g6' := HO2.out.at 6
      simp [byteCells, fromL] at f0 f1 f2 f3 f4 f5 f6
      simp [byteCells, toL] at g0' g1' g2' g3' g4' g5' g6'
      refine wp_loop_rounds 8 ?_
      rw [rounds_succ]; go_wp2
      rw [rounds_succ]; go_wp2
      rw [rounds_succ]; go_wp2
      rw [rounds_succ]; go_wp2
      rw [rounds_succ]; go_wp2
      rw [rounds_succ]; go_wp2
      go_ret2
      exact oneEnd_of HE.out ((HR.out _).more (by simp)) (HB3.out.alloc HB3.out.size _)
    · have hcI : (s[1].toNat : Int) = 92 := by rw [hc]; rfl
      have HE := Lib.hid (show oneM s.data.toList = ([92], 2) by rw [hO, hc]; rfl)
      have HR := Lib.hid (fun w => lit_rd w #[.int .u8 92] [92] rfl)
      clear hc hO
      have q01 : ((s[1].toNat : Int) == 98) = false := by rw [hcI]; rfl
      have q11 : ((s[1].toNat : Int) == 116) = false := by rw [hcI]; rfl
      have q21 : ((s[1].toNat : Int) == 110) = false := by rw [hcI]; rfl
      have q31 : ((s[1].toNat : Int) == 102) = false := by rw [hcI]; rfl
      have q41 : ((s[1].toNat : Int) == 114) = false := by rw [hcI]; rfl
      have q51 : ((s[1].toNat : Int) == 39) = false := by rw [hcI]; rfl
      have qq1 : ((s[1].toNat : Int) == 92) = true := by rw [hcI]; rfl
      clear hcI
      go_enter Tryd.func28, Tryd.ntmps28
      go_wp2_with (go_at_call 36; refine (letters13_any _).mono ?_; rintro e w3 ⟨rfl, o1, o2, hb3, hlt3⟩; have HO1 := Lib.hid o1; have HO2 := Lib.hid o2; have HB3 := Lib.hid hb3; clear o1 o2 hb3)
      have f0 := HO1.out.at 0
      have g0' := HO2.out.at 0
      have f1 := HO1.out.at 1
      have g1' := HO2.out.at 1
      have f2 := HO1.out.at 2
      have g2' := HO2.out.at 2
      have f3 := HO1.out.at 3
      have g3' := HO2.out.at 3
      have f4 := HO1.out.at 4
      have g4' := HO2.out.at 4
      have f5 := HO1.out.at 5
      have g5' := HO2.out.at 5
      have f6 := HO1.out.at 6
      have g6' := HO2.out.at 6
      simp [byteCells, fromL] at f0 f1 f2 f3 f4 f5 f6
      simp [byteCells, toL] at g0' g1' g2' g3' g4' g5' g6'
      refine wp_loop_rounds 8 ?_
      rw [rounds_succ]; go_wp2
      rw [rounds_succ]; go_wp2
      rw [rounds_succ]; go_wp2
      rw [rounds_succ]; go_wp2
      rw [rounds_succ]; go_wp2
      rw [rounds_succ]; go_wp2
      rw [rounds_succ]; go_wp2
      go_ret2
      exact oneEnd_of HE.out ((HR.out _).more (by simp)) (HB3.out.alloc HB3.out.size _)
  · rw [if_neg hlet] at hO
    have hlet := Classical.not_not.1 hlet
    have q01 : ((s[1].toNat : Int) == 98) = false := beq_eq_false_iff_ne.2 (fun e => by have e2 : s[1] = 98 := UInt8.toNat_inj.1 (by rw [show ((98 : UInt8).toNat) = 98 from rfl]; omega); rw [e2] at hlet; exact absurd hlet (by decide))
    have q11 : ((s[1].toNat : Int) == 116) = false := beq_eq_false_iff_ne.2 (fun e => by have e2 : s[1] = 116 := UInt8.toNat_inj.1 (by rw [show ((116 : UInt8).toNat) = 116 from rfl]; omega); rw [e2] at hlet; exact absurd hlet (by decide))
    have q21 : ((s[1].toNat : Int) == 110) = false := beq_eq_false_iff_ne.2 (fun e => by have e2 : s[1] = 110 := UInt8.toNat_inj.1 (by rw [show ((110 : UInt8).toNat) = 110 from rfl]; omega); rw [e2] at hlet; exact absurd hlet (by decide))
    have q31 : ((s[1].toNat : Int) == 102) = false := beq_eq_false_iff_ne.2 (fun e => by have e2 : s[1] = 102 := UInt8.toNat_inj.1 (by rw [show ((102 : UInt8).toNat) = 102 from rfl]; omega); rw [e2] at hlet; exact absurd hlet (by decide))
    have q41 : ((s[1].toNat : Int) == 114) = false := beq_eq_false_iff_ne.2 (fun e => by have e2 : s[1] = 114 := UInt8.toNat_inj.1 (by rw [show ((114 : UInt8).toNat) = 114 from rfl]; omega); rw [e2] at hlet; exact absurd hlet (by decide))
    have q51 : ((s[1].toNat : Int) == 39) = false := beq_eq_false_iff_ne.2 (fun e => by have e2 : s[1] = 39 := UInt8.toNat_inj.1 (by rw [show ((39 : UInt8).toNat) = 39 from rfl]; omega); rw [e2] at hlet; exact absurd hlet (by decide))
    have q61 : ((s[1].toNat : Int) == 92) = false := beq_eq_false_iff_ne.2 (fun e => by have e2 : s[1] = 92 := UInt8.toNat_inj.1 (by rw [show ((92 : UInt8).toNat) = 92 from rfl]; omega); rw [e2] at hlet; exact absurd hlet (by decide))
    have HOO := Lib.hid hO
    clear hO hlet hd1
    go_enter Tryd.func28, Tryd.ntmps28
    go_wp2_with (go_at_call 36; refine (letters13_any _).mono ?_; rintro e w3 ⟨rfl, o1, o2, hb3, hlt3⟩; have HO1 := Lib.hid o1; have HO2 := Lib.hid o2; have HB3 := Lib.hid hb3; clear o1 o2 hb3)
    have f0 := HO1.out.at 0
    have g0' := HO2.out.at 0
    have f1 := HO1.out.at 1
    have g1' := HO2.out.at 1
    have f2 := HO1.out.at 2
    have g2' := HO2.out.at 2
    have f3 := HO1.out.at 3
    have g3' := HO2.out.at 3
    have f4 := HO1.out.at 4
    have g4' := HO2.out.at 4
    have f5 := HO1.out.at 5
    have g5' := HO2.out.at 5
    have f6 := HO1.out.at 6
    have g6' := HO2.out.at 6
    simp [byteCells, fromL] at f0 f1 f2 f3 f4 f5 f6
    simp [byteCells, toL] at g0' g1' g2' g3' g4' g5' g6'
    refine wp_loop_rounds 8 ?_
    rw [rounds_succ]; go_wp2
    rw [rounds_succ]; go_wp2
    rw [rounds_succ]; go_wp2
    rw [rounds_succ]; go_wp2
    rw [rounds_succ]; go_wp2
    rw [rounds_succ]; go_wp2
    rw [rounds_succ]; go_wp2
    rw [rounds_succ]; go_wp2
    clear q01 q11 q21 q31 q41 q51 q61 f0 f1 f2 f3 f4 f5 f6 g0' g1' g2' g3' g4' g5' g6' HO1 HO2
    go_loopw [12] (fun i wr => RelCt s W i wr) (fun i _ => 33 - (intOf i).toNat)
    case atStart => exact ⟨0, by omega, rfl, HB3.out, fun q hq => by omega⟩
    case round =>
      obtain ⟨j, hj, rfl, hb, hno⟩ := hrel
      have hjI : (j : Int) ≤ 32 := by omega
      by_cases hlt : j < 32
      · have hjI2 : (j : Int) < 32 := by omega
        have hjt : (UInt8.ofNat j).toNat = j := UInt8.toNat_ofNat_of_lt' (by show j < 256; omega)
        have hwr : IntKind.u8.wrap (j : Int) = j := by rw [IntKind.wrap_u8]; omega
        have HNO := Lib.hid hno
        have hcv : (convert 39 9 (.slice (some ⟨wr.heap.size, 0, none⟩) 1 1)).run Tryd.prog (wr.alloc (.cells #[.int .u8 (j : Int)] 5)) = .ok (.string ⟨#[UInt8.ofNat j]⟩) (wr.alloc (.cells #[.int .u8 (j : Int)] 5)) :=
          Buf.conv (Buf.made wr #[.int .u8 (j : Int)] [UInt8.ofNat j] (by unfold byteCells; simp only [List.map_cons, List.map_nil]; rw [hjt]) (by simp [maxLen]) (Nat.le_refl _))
        have HS := Lib.hid (fun w => sign13_any ⟨#[UInt8.ofNat j]⟩ w (by show 0 < 1; decide) (by show 1 ≤ 1000; decide))
        unfold SgnEnd at HS
        have hs1 : sgnL [UInt8.ofNat j] = 1 := sgn_small _ _ (by rw [hjt]; omega)
        rw [show (⟨#[UInt8.ofNat j]⟩ : ByteArray).data.toList = [UInt8.ofNat j] from rfl, hs1] at HS
        have hbA := hb.alloc hb.size (.cells #[.int .u8 (j : Int)] 5)
        have HBA := Lib.hid hbA
        have hpm := pieceM_cons (UInt8.ofNat j) [] 1
        rw [if_neg (by decide)] at hpm
        clear hno hs1 hbA
        by_cases he : escN (UInt8.ofNat j) ≠ 0
        · rw [if_pos he] at hpm
          rw [hpm] at HS
          have HN2 := Lib.hid (fun (q : Nat) (hq : q < j + 1) => show ¬ (escN (UInt8.ofNat q) = 0 ∧ s.data.toList.take 6 = ctlN (UInt8.ofNat q)) from by
            by_cases hqj : q = j
            · rw [hqj]; exact fun h => he h.1
            · exact HNO.out q (by omega))
          clear hpm he hjt
          generalize (⟨#[UInt8.ofNat j]⟩ : ByteArray) = jb at *
          go_upto_region 24 with (go_at_call 24; go_must (refine (HS.out _).mono ?_; rintro e w4 ⟨g4, c4, rfl, rd4, hb4⟩; have HB4 := Lib.hid (HBA.out.trans (hb4.mono HBA.out.size)); clear rd4 hb4))
          go_quiet (fail)
          go_wp2
          go_roundw
          case rel => exact ⟨j + 1, by omega, by go_num, below_drewN HB4.out _, HN2.out⟩
          case measure => simp [intOf]; omega
        · rw [if_neg he, if_pos (by rw [hjt]; exact hlt)] at hpm
          rw [hpm] at HS
          have he := Classical.not_not.1 he
          have hct : (ctlN (UInt8.ofNat j)).length = 6 := rfl
          rw [hct] at HS
          have HCA := Lib.hid (fun (w : World) (g : Nat) (c : Nat) (hr : Rd w w.heap.size (some ⟨g, 0, none⟩) 6 (byteCells (ctlN (UInt8.ofNat j)))) (q : Nat) => show (convert 39 9 (.slice (some ⟨g, 0, none⟩) 6 c)).run Tryd.prog (w.drewN q) = .ok (.string ⟨(ctlN (UInt8.ofNat j)).toArray⟩) (w.drewN q) from by
            have hr2 : Rd (w.drewN q) w.heap.size (some ⟨g, 0, none⟩) 6 (byteCells (ctlN (UInt8.ofNat j))) := hr.stay ⟨rfl, rfl, rfl, Nat.le_refl _, fun _ _ => rfl⟩
            rw [byteCells_nums] at hr2
            rw [conv_rd hr2, strOf_nums])
          by_cases heq : s.data.toList.take 6 = ctlN (UInt8.ofNat j)
          · have h6 : 6 ≤ s.size := by
              have := congrArg List.length heq
              rw [List.length_take, hct] at this
              omega
            have h6I : (s.size : Int) ≥ 6 := by omega
            have hx : ((s.extract 0 6).toList == (⟨(ctlN (UInt8.ofNat j)).toArray⟩ : ByteArray).toList) = true := by
              have e1 : (s.extract 0 6).data.toList = s.data.toList.take 6 := by
                have := part_is s 0 6
                rwa [List.drop_zero, Nat.zero_add] at this
              have e2 : s.extract 0 6 = ⟨(ctlN (UInt8.ofNat j)).toArray⟩ := by
                apply ByteArray.ext
                rw [← heq, ← e1]
                (try simp)
              rw [e2]
              simp
            have HE := Lib.hid (show oneM s.data.toList = ([UInt8.ofNat j], 6) by rw [HOO.out, ctl_is (by rw [hjt]; exact hlt) he heq]; rfl)
            have HR := Lib.hid (fun w => lit_rd w #[.int .u8 (j : Int)] [UInt8.ofNat j] (by unfold byteCells; simp only [List.map_cons, List.map_nil]; rw [hjt]))
            clear hpm he hjt heq hct
            generalize (⟨#[UInt8.ofNat j]⟩ : ByteArray) = jb at *
            generalize (⟨(ctlN (UInt8.ofNat j)).toArray⟩ : ByteArray) = cb at *
            go_upto_region 24 with (go_at_call 24; go_must (refine (HS.out _).mono ?_; rintro e w4 ⟨g4, c4, rfl, rd4, hb4⟩; have cv4 := HCA.out w4 g4 c4 rd4; have HB4 := Lib.hid (HBA.out.trans (hb4.mono HBA.out.size)); clear rd4 hb4))
            go_quiet (fail)
            go_wp2
            go_ret2
            exact oneEnd_of HE.out ((HR.out _).more (by simp)) ((below_drewN HB4.out _).alloc HB4.out.size _)
          · have HN2 := Lib.hid (fun (q : Nat) (hq : q < j + 1) => show ¬ (escN (UInt8.ofNat q) = 0 ∧ s.data.toList.take 6 = ctlN (UInt8.ofNat q)) from by
              by_cases hqj : q = j
              · rw [hqj]; exact fun h => heq h.2
              · exact HNO.out q (by omega))
            by_cases h6 : 6 ≤ s.size
            · have h6I : (s.size : Int) ≥ 6 := by omega
              have hx : ((s.extract 0 6).toList == (⟨(ctlN (UInt8.ofNat j)).toArray⟩ : ByteArray).toList) = false := by
                rw [beq_eq_false_iff_ne]
                intro e
                have e1 : (s.extract 0 6).data.toList = s.data.toList.take 6 := by
                  have := part_is s 0 6
                  rwa [List.drop_zero, Nat.zero_add] at this
                have e2 : s.extract 0 6 = ⟨(s.data.toList.take 6).toArray⟩ := by
                  apply ByteArray.ext
                  rw [← e1]
                  (try simp)
                rw [e2] at e
                have e3 : (⟨(s.data.toList.take 6).toArray⟩ : ByteArray).toList = s.data.toList.take 6 := by simp
                have e4 : (⟨(ctlN (UInt8.ofNat j)).toArray⟩ : ByteArray).toList = ctlN (UInt8.ofNat j) := by simp
                rw [e3, e4] at e
                exact heq e
              clear hpm he hjt heq hct
              generalize (⟨#[UInt8.ofNat j]⟩ : ByteArray) = jb at *
              generalize (⟨(ctlN (UInt8.ofNat j)).toArray⟩ : ByteArray) = cb at *
              go_upto_region 24 with (go_at_call 24; go_must (refine (HS.out _).mono ?_; rintro e w4 ⟨g4, c4, rfl, rd4, hb4⟩; have cv4 := HCA.out w4 g4 c4 rd4; have HB4 := Lib.hid (HBA.out.trans (hb4.mono HBA.out.size)); clear rd4 hb4))
              go_quiet (fail)
              go_wp2
              go_roundw
              case rel => exact ⟨j + 1, by omega, by go_num, below_drewN HB4.out _, HN2.out⟩
              case measure => simp [intOf]; omega
            · have h6I : ¬ (s.size : Int) ≥ 6 := by omega
              have h6J : (s.size : Int) < 6 := by omega
              have h6K : decide ((s.size : Int) ≥ 6) = false := decide_eq_false h6I
              have h6L : decide (6 ≤ (s.size : Int)) = false := decide_eq_false h6I
              clear hpm he hjt heq hct HCA
              generalize (⟨#[UInt8.ofNat j]⟩ : ByteArray) = jb at *
              go_upto_region 24 with (go_at_call 24; go_must (refine (HS.out _).mono ?_; rintro e w4 ⟨g4, c4, rfl, rd4, hb4⟩; have HB4 := Lib.hid (HBA.out.trans (hb4.mono HBA.out.size)); clear rd4 hb4))
              go_quiet (fail)
              go_wp2
              go_roundw
              case rel => exact ⟨j + 1, by omega, by go_num, below_drewN HB4.out _, HN2.out⟩
              case measure => simp [intOf]; omega
      · have hjI2 : ¬ (j : Int) < 32 := by omega
        have HE := Lib.hid (show oneM s.data.toList = ([], 0) by
          rw [HOO.out]
          cases hx : ctlM s.data.toList with
          | none => rfl
          | some x =>
            exfalso
            obtain ⟨x1, x2, x3⟩ := ctl_some hx
            have hox : UInt8.ofNat x.toNat = x := by simp
            exact hno x.toNat (by omega) (by rw [hox]; exact ⟨x2, x3⟩))
        clear hno
        go_wp2
        go_ret2
        exact oneEnd_none HE.out hb

/-- What one answers. -/
theorem one13_any (s : ByteArray) (W : World) (h0 : 0 < s.size) (h9 : s.size ≤ 1000) : Calls Tryd.prog 28 #[.string s] W (OneEnd s.data.toList W) := by
  by_cases h39 : s[0] = 39 ∨ s[0].toNat < 32
  · exact one13_end s W h0 h39
  · by_cases h92 : s[0] = 92
    · exact one13_esc s W h0 h9 h92
    · exact one13_sign s W h0 h9 h39 h92

end Go.Proofs.YtgcknlfpedanpaaDoor
