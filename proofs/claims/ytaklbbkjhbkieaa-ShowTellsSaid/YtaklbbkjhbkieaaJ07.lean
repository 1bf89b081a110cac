/- The contract of the document's unit (riffleref06), whatever the text. -/
import Derived.Test.YtaklbbkjhbkieaaJ06
import Derived.Lib.ConvBytes
import Derived.Test.YtaklbbkjhbkieaaRows
import Derived.StillTailTactics
namespace Go.Proofs.Ytaklbbkjhbkieaa
open Go.RowKit
set_option linter.unusedVariables false

def UnitC (s : ByteArray) (sec : Bool) (W : World) (t : Nat × Int × Int) : Prop :=
  Calls Try.prog 56 #[.string s, .bool sec] W fun e w' => e = .returned (.tuple #[.int .i64 t.1, .int .i64 t.2.1, .int .i64 t.2.2]) ∧ Below W.heap.size W w'

set_option maxHeartbeats 4000000 in
set_option maxRecDepth 100000 in
theorem runit_e (s : ByteArray) (sec : Bool) (h : s = ByteArray.empty) (W : World) : UnitC s sec W (0, 0, 0) := by
  subst h
  show Calls _ _ _ _ _
  go_enter Try.func56, Try.ntmps56
  go_wp2
  refine wp_loop_rounds 3 ?_
  rw [rounds_succ]
  go_wp2
  go_ret3
  exact ⟨rfl, below1 _ _⟩
set_option maxHeartbeats 4000000 in
set_option maxRecDepth 100000 in
theorem runit_0 (s : ByteArray) (sec : Bool) (hs : s.size ≤ 100000) (h1 : 1 ≤ s.size) (e0 : ¬ (s[0].toNat : Int) = 92) (W : World) : UnitC s sec W (0, 0, if sec then 4 else 3) := by
  have hne : ¬ s = ByteArray.empty := fun e => by rw [e] at h1; exact absurd h1 (by decide)
  show Calls _ _ _ _ _
  cases sec
  all_goals
    go_enter Try.func56, Try.ntmps56
    go_wp2
    refine wp_loop_rounds 3 ?_
    rw [rounds_succ]
    go_wp2
    go_ret3
    exact ⟨rfl, below1 _ _⟩
set_option maxHeartbeats 4000000 in
set_option maxRecDepth 100000 in
theorem runit_o (s : ByteArray) (sec : Bool) (h1 : s.size = 1) (e0 : (s[0].toNat : Int) = 92) (W : World) : UnitC s sec W (1, 0, 0) := by
  have hne : ¬ s = ByteArray.empty := fun e => by rw [e] at h1; exact absurd h1 (by decide)
  show Calls _ _ _ _ _
  cases sec
  all_goals
    go_enter Try.func56, Try.ntmps56
    go_wp2
    refine wp_loop_rounds 3 ?_
    rw [rounds_succ]
    go_wp2
    rw [rounds_succ]
    go_wp2
    go_ret3
    exact ⟨rfl, below1 _ _⟩
set_option maxHeartbeats 4000000 in
set_option maxRecDepth 100000 in
theorem runit_1 (s : ByteArray) (sec : Bool) (hs : s.size ≤ 100000) (h2 : 2 ≤ s.size) (e0 : (s[0].toNat : Int) = 92) (e1 : ¬ (s[1].toNat : Int) = 117) (W : World) : UnitC s sec W (1, 0, if sec then 4 else 3) := by
  have hne : ¬ s = ByteArray.empty := fun e => by rw [e] at h2; exact absurd h2 (by decide)
  show Calls _ _ _ _ _
  cases sec
  all_goals
    go_enter Try.func56, Try.ntmps56
    go_wp2
    refine wp_loop_rounds 3 ?_
    rw [rounds_succ]
    go_wp2
    rw [rounds_succ]
    go_wp2
    go_ret3
    exact ⟨rfl, below1 _ _⟩

theorem u8_int {c : UInt8} {n : Nat} (hn : n < 256) : c = UInt8.ofNat n ↔ (c.toNat : Int) = n := by
  constructor
  · rintro rfl; rw [UInt8.toNat_ofNat']; omega
  · intro h; have : n = c.toNat := by omega
    rw [this]; simp
theorem runitR_any (s : ByteArray) (sec : Bool) (hs : s.size ≤ 100000) (W : World) : UnitC s sec W (unitR s.data.toList sec) := by
  by_cases h0 : s.size = 0
  · have hl : s.data.toList = [] := drop_none s 0 (by omega)
    have he : s = ByteArray.empty := ba_ext (by rw [hl]; rfl)
    rw [hl]
    exact runit_e s sec he W
  have l0 : s.data.toList = s[0] :: s.data.toList.drop 1 := drop_at s 0 (by omega)
  by_cases c0 : s[0] = 92
  · have e0 : (s[0].toNat : Int) = 92 := (u8_int (by decide)).1 c0
    by_cases h1 : s.size = 1
    · rw [l0, drop_none s 1 (by omega)]
      have e : unitR [s[0]] sec = (1, 0, 0) := by show (if s[0] ≠ 92 then _ else _) = _; rw [if_neg (fun h => h c0)]
      rw [e]
      exact runit_o s sec h1 e0 W
    have l1 : s.data.toList.drop 1 = s[1] :: s.data.toList.drop 2 := drop_at s 1 (by omega)
    rw [l0, l1]
    by_cases c1 : s[1] = 117
    · have e1 : (s[1].toNat : Int) = 117 := (u8_int (by decide)).1 c1
      obtain ⟨r, hr⟩ : ∃ r, s.data.toList.drop 2 = r := ⟨_, rfl⟩
      have e : unitR (s[0] :: s[1] :: s.data.toList.drop 2) sec = unitD sec (hexR r).1 (hexR r).2 (if 1 ≤ (hexR r).1 then hexI (r.getD 0 0).toNat else -1) (if 2 ≤ (hexR r).1 then hexI (r.getD 1 0).toNat else -1) (s.size - 2) := by
        rw [hr]
        show (if s[0] ≠ 92 then _ else if s[1] ≠ 117 then _ else _) = _
        rw [if_neg (fun h => h c0), if_neg (fun h => h c1)]
        have : r.length = s.size - 2 := by rw [← hr, List.length_drop]; rfl
        rw [this]
      rw [e]
      obtain ⟨b1, b2, b3, b4⟩ := hexR_bd r
      have hrl : r.length = s.size - 2 := by rw [← hr, List.length_drop]; rfl
      rw [hrl] at b2
      have KX : ∀ w : World, Calls Try.prog 63 #[.string (s.extract 2 s.size)] w fun e w' => e = .returned (.tuple #[.int .i64 (hexR r).1, .int .i64 (hexR r).2]) ∧ w = w' := fun w => by
        have := rhexR_any (s.extract 2 s.size) (by rw [(tail_is s 2).2]; omega) w
        rw [(tail_is s 2).1, hr] at this
        exact this
      have hcb : ∀ k (h : k < s.size), (0 : Int) ≤ s[k].toNat ∧ (s[k].toNat : Int) ≤ 255 := fun k h => ⟨Int.natCast_nonneg _, by have := UInt8.toNat_lt s[k]; omega⟩
      have g0 : ∀ h : 2 < s.size, r.getD 0 0 = s[2] := fun h => by rw [← hr, drop_at s 2 h]; rfl
      have g1 : ∀ h : 3 < s.size, r.getD 1 0 = s[3] := fun h => by rw [← hr, drop_at s 2 (by omega), drop_at s 3 h]; rfl
      generalize (hexR r).1 = n at *
      generalize (hexR r).2 = v at *
      have KA : 1 ≤ n → ∃ z, ∀ w : World, ∀ h : 2 < s.size, Calls Try.prog 64 #[.int .u8 s[2].toNat] w fun e w' => e = .returned (.tuple #[.int .i64 (if 1 ≤ n then hexI (r.getD 0 0).toNat else -1), .bool z]) ∧ w = w' := fun h1 => ⟨isHexI s[2].toNat, fun w h => by
        rw [if_pos h1, g0 h]
        exact rhex_any s[2].toNat w (hcb 2 h).1 (hcb 2 h).2⟩
      have KB : 2 ≤ n → ∃ z, ∀ w : World, ∀ h : 3 < s.size, Calls Try.prog 64 #[.int .u8 s[3].toNat] w fun e w' => e = .returned (.tuple #[.int .i64 (if 2 ≤ n then hexI (r.getD 1 0).toNat else -1), .bool z]) ∧ w = w' := fun h1 => ⟨isHexI s[3].toNat, fun w h => by
        rw [if_pos h1, g1 h]
        exact rhex_any s[3].toNat w (hcb 3 h).1 (hcb 3 h).2⟩
      generalize (if 1 ≤ n then hexI (r.getD 0 0).toNat else -1) = d1 at *
      generalize (if 2 ≤ n then hexI (r.getD 1 0).toNat else -1) = d2 at *
      have h2 : 2 ≤ s.size := by omega
      have hn : n = 0 ∨ n = 1 ∨ n = 2 ∨ n = 3 ∨ n = 4 := by omega
      rcases hn with rfl | rfl | rfl | rfl | rfl
      · cases sec
        · exact runit_f0 s hs h2 e0 e1 v b3 b4 b2 d1 d2 KX W
        · exact runit_t0 s hs h2 e0 e1 v b3 b4 b2 d1 d2 KX W
      · obtain ⟨z1, K1⟩ := KA (by omega)
        cases sec
        · exact runit_f1 s hs h2 e0 e1 v b3 b4 b2 d1 d2 KX z1 K1 W
        · exact runit_t1 s hs h2 e0 e1 v b3 b4 b2 d1 d2 KX z1 K1 W
      · obtain ⟨z1, K1⟩ := KA (by omega)
        obtain ⟨z2, K2⟩ := KB (by omega)
        cases sec
        · exact runit_f2 s hs h2 e0 e1 v b3 b4 b2 d1 d2 KX z1 K1 z2 K2 W
        · exact runit_t2 s hs h2 e0 e1 v b3 b4 b2 d1 d2 KX z1 K1 z2 K2 W
      · obtain ⟨z1, K1⟩ := KA (by omega)
        obtain ⟨z2, K2⟩ := KB (by omega)
        cases sec
        · exact runit_f3 s hs h2 e0 e1 v b3 b4 b2 d1 d2 KX z1 K1 z2 K2 W
        · exact runit_t3 s hs h2 e0 e1 v b3 b4 b2 d1 d2 KX z1 K1 z2 K2 W
      · obtain ⟨z1, K1⟩ := KA (by omega)
        obtain ⟨z2, K2⟩ := KB (by omega)
        cases sec
        · exact runit_f4 s hs h2 e0 e1 v b3 b4 b2 d1 d2 KX z1 K1 z2 K2 W
        · exact runit_t4 s hs h2 e0 e1 v b3 b4 b2 d1 d2 KX z1 K1 z2 K2 W
    · have e : unitR (s[0] :: s[1] :: s.data.toList.drop 2) sec = (1, 0, if sec then 4 else 3) := by
        show (if s[0] ≠ 92 then _ else if s[1] ≠ 117 then _ else _) = _
        rw [if_neg (fun h => h c0), if_pos c1]
      rw [e]
      exact runit_1 s sec hs (by omega) e0 (fun h => c1 ((u8_int (by decide)).2 h)) W
  · have e : unitR (s[0] :: s.data.toList.drop 1) sec = (0, 0, if sec then 4 else 3) := by
      show (if s[0] ≠ 92 then _ else _) = _
      rw [if_pos c0]
    rw [l0, e]
    exact runit_0 s sec hs (by omega) (fun h => c0 ((u8_int (by decide)).2 h)) W

end Go.Proofs.Ytaklbbkjhbkieaa

namespace Go.Proofs.Ytaklbbkjhbkieaa
open Go.RowKit
set_option linter.unusedVariables false

theorem conv_str (w : World) (s : ByteArray) : ∃ c w1, (convert 9 22 (.string s)).run Try.prog w = .ok (.slice (some ⟨w.heap.size, 0, none⟩) s.size c) w1 ∧
    Rd w1 w1.heap.size (some ⟨w.heap.size, 0, none⟩) s.size (byteCells s.data.toList) ∧ Below w.heap.size w w1 := by
  have hz := Lib.bytesWorld_size w 5 s
  refine ⟨_, _, Lib.run_convert_string_bytes w _ _ 5 s Try.underlying9 Try.underlying22 Try.underlying5, ⟨byteCells_length _, fun h => ⟨_, rfl, by rw [hz]; exact Nat.lt_succ_self _, fun j u hu => ?_⟩⟩,
    ⟨rfl, rfl, rfl, by rw [hz]; exact Nat.le_succ _, fun k hk => Lib.bytesWorld_at_old w _ s k hk⟩⟩
  have hj : j < s.size := by have := (List.getElem?_eq_some_iff.1 hu).1; rw [byteCells_length] at this; exact this
  rw [add_none, Nat.zero_add, Lib.bytesWorld_cell w _ s j hj, getD_at s j hj]
  unfold byteCells at hu
  rw [List.getElem?_map, List.getElem?_eq_getElem (show j < s.data.toList.length from hj)] at hu
  exact hu
theorem conv_take (w : World) (s : ByteArray) (k : Nat) (h : k ≤ s.size) : ∃ c w1, (convert 9 22 (.string (s.extract 0 k))).run Try.prog w = .ok (.slice (some ⟨w.heap.size, 0, none⟩) k c) w1 ∧
    Rd w1 w1.heap.size (some ⟨w.heap.size, 0, none⟩) k (byteCells (s.data.toList.take k)) ∧ Below w.heap.size w w1 := by
  obtain ⟨c, w1, h1, h2, h3⟩ := conv_str w (s.extract 0 k)
  have e6 : (s.extract 0 k).size = k := by rw [ByteArray.size_extract]; omega
  rw [e6] at h1 h2
  rw [head_list] at h2
  exact ⟨c, w1, h1, h2, h3⟩
theorem ofB_len2 (m : Int) : (ofB m).length = (ofI m).length := by unfold ofB; rw [List.length_map]
theorem ofB_cells (m : Int) (h0 : 0 ≤ m) (h1 : m ≤ 1114111) : byteCells (ofB m) = (ofI m).map (Value.int .u8) := by
  unfold byteCells ofB
  rcases ofI_is (n := m) with ⟨_, h⟩ | ⟨_, _, h⟩ | ⟨_, _, h⟩ | ⟨_, h⟩
  · rw [h]; simp <;> omega
  · rw [h]; simp <;> omega
  · rw [h]; simp <;> omega
  · rw [h]; simp <;> omega
theorem unitR_bd (l : List UInt8) (sec : Bool) : (unitR l sec).1 ≤ 6 ∧ (unitR l sec).1 ≤ l.length ∧ 0 ≤ (unitR l sec).2.1 ∧ (unitR l sec).2.1 ≤ 65535 := by
  unfold unitR
  split
  · exact ⟨by simp, by simp, by simp, by simp⟩
  · rename_i c0 l1
    split
    · exact ⟨by simp, by simp, by simp, by simp⟩
    · split
      · exact ⟨by simp, by simp, by simp, by simp⟩
      · rename_i c1 r
        split
        · exact ⟨by simp, by simp, by simp, by simp⟩
        · obtain ⟨b1, b2, b3, b4⟩ := hexR_bd r
          generalize (hexR r).1 = n at *
          generalize (hexR r).2 = v at *
          generalize (if 1 ≤ n then hexI (r.getD 0 0).toNat else -1) = d1 at *
          generalize (if 2 ≤ n then hexI (r.getD 1 0).toNat else -1) = d2 at *
          unfold unitD
          cases sec <;> simp only [] <;> (repeat' split) <;> refine ⟨?_, ?_, ?_, ?_⟩ <;> simp <;> omega
theorem results_tmp4 {fn : Func} {t u v x : Tmp} (h : fn.results = #[.tmp t, .tmp u, .tmp v, .tmp x]) (tmps : Array Value) (P : Program) (w : World) :
    (results fn tmps).run P w = .ok (.tuple #[tmps.getD t undef, tmps.getD u undef, tmps.getD v undef, tmps.getD x undef]) w := by
  simp [results, h]

/-- What is to be shown of piece. -/
def PieceP (W : World) (t : List UInt8 × Nat × Int × Bool) (e : Ending) (w' : World) : Prop := ∃ A c, e = .returned (.tuple #[.slice A t.1.length c, .int .i64 t.2.1, .int .i64 t.2.2.1, .bool t.2.2.2]) ∧ Rd w' w'.heap.size A t.1.length (byteCells t.1) ∧ Below W.heap.size W w'
def PieceC (s : ByteArray) (W : World) (t : List UInt8 × Nat × Int × Bool) : Prop := Calls Try.prog 48 #[.string s] W fun e w' => PieceP W t e w'

set_option maxHeartbeats 4000000 in
set_option maxRecDepth 100000 in
theorem rpiece_ctl (s : ByteArray) (h1 : 1 ≤ s.size) (hc : (s[0].toNat : Int) < 32) (W : World) : PieceC s W ([], 0, 7, false) := by
  show Calls _ _ _ _ _
  go_enter Try.func48, Try.ntmps48
  go_wp2
  ((try simp only [Exit.inBlock, Exit.then]); refine bodyPost_ret (results_tmp4 rfl _ _ _) rfl ?_)
  exact ⟨none, 0, rfl, Rd.zero _ _ _, Below.refl _ _⟩

theorem sigR_cons (s : ByteArray) (m : Nat) (h : m < s.size) (sg lf : Int) : sigR sg lf (s.data.toList.drop m) m = if okU sg lf s[m].toNat then (if lfU lf s[m].toNat = 0 then (m + 1, 0, true) else sigR (sgU sg lf s[m].toNat) (lfU lf s[m].toNat) (s.data.toList.drop (m + 1)) (m + 1)) else (m, 2, false) := by
  rw [drop_at s m h]
  rfl
def RelPc (s : ByteArray) (W w : World) (i : Value) : Prop :=
  ∃ (m : Nat) (sg lf : Int), m ≤ s.size ∧ i = .int .i64 ((m + 1 : Nat) : Int) ∧ InvL (s.data.toList.take m) sg lf ∧ StU sg lf ∧ sigR 0 0 s.data.toList 0 = sigR sg lf (s.data.toList.drop m) m ∧ Below W.heap.size W w

set_option maxHeartbeats 8000000 in
set_option maxRecDepth 100000 in
theorem rpiece_sig (s : ByteArray) (hs : s.size ≤ 100000) (h1 : 1 ≤ s.size) (hc : ¬ (s[0].toNat : Int) < 32) (hn : ¬ (s[0].toNat : Int) = 92) (W : World) (T : List UInt8 × Nat × Int × Bool) (hT : T = ((if (sigR 0 0 s.data.toList 0).2.2 then s.data.toList.take (sigR 0 0 s.data.toList 0).1 else []), sigR 0 0 s.data.toList 0)) : PieceC s W T := by
  have HT := Lib.hid hT
  clear hT
  have hsl : s.data.toList.length = s.size := rfl
  have hnb : ((s[0].toNat : Int) != 92) = true := bne_iff_ne.2 hn
  show Calls _ _ _ _ _
  go_enter Try.func48, Try.ntmps48
  go_wp2
  go_loopw [6] (fun i w => RelPc s W w i) (fun i _ => s.size + 2 - (intOf i).toNat)
  case atStart => exact ⟨0, 0, 0, Nat.zero_le _, rfl, rfl, stU_zero, rfl, Below.refl _ _⟩
  case round =>
    obtain ⟨m, sg, lf, hm, rfl, hinv, hst, hsig, hb2⟩ := hrel
    by_cases hlt : m < s.size
    · have hl2 : m < s.data.toList.length := hlt
      have hp := part_snoc s 0 m (Nat.zero_le _) hlt
      rw [List.drop_zero] at hp
      rw [sigR_cons s m hlt] at hsig
      by_cases hok : okU sg lf s[m].toNat = true
      · have hst' := Lib.hid (stU_step hst (Int.natCast_nonneg _) hok)
        have hinv' := invL_step hinv hok
        rw [if_pos hok] at hsig
        by_cases hz : lfU lf s[m].toNat = 0
        · have HB := Lib.hid (fun w => rbegins_step _ _ _ _ _ hp hinv w (x := true) (y := true) (z := sgU sg lf s[m].toNat) (by unfold ansU; rw [if_pos hok, if_pos hz]))
          rw [if_pos hz] at hsig
          have HS := Lib.hid hsig
          clear hinv' hinv hsig hp hok hz hst'
          go_wp2_with (go_at_call 21; refine (HB.out _).mono ?_; rintro e w3 ⟨rfl, hb⟩; obtain ⟨c3, w4, kc, kr, kb⟩ := conv_take w3 s (m + 1) hlt)
          ((try simp only [Exit.inBlock, Exit.then]); refine bodyPost_ret (results_tmp4 rfl _ _ _) rfl ?_)
          rw [HT.out, HS.out]
          have e7 : (s.data.toList.take (m + 1)).length = m + 1 := by rw [List.length_take]; omega
          show PieceP W (s.data.toList.take (m + 1), m + 1, 0, true) _ _
          unfold PieceP
          rw [e7]
          exact ⟨some ⟨w3.heap.size, 0, none⟩, c3, by go_num, kr, (hb2.trans (hb.mono hb2.size)).trans (kb.mono (Nat.le_trans hb2.size hb.size))⟩
        · have HB := Lib.hid (fun w => rbegins_step _ _ _ _ _ hp hinv w (x := true) (y := false) (z := 0) (by unfold ansU; rw [if_pos hok, if_neg hz]))
          rw [if_neg hz] at hsig hinv'
          have HI := Lib.hid hinv'
          have HS := Lib.hid hsig
          clear hinv' hinv hsig hp hok hz
          go_wp2_with (go_at_call 21; refine (HB.out _).mono ?_; rintro e w' ⟨rfl, hb⟩)
          go_roundw
          case rel => exact ⟨m + 1, _, _, by omega, by go_num, (by rw [List.take_succ_eq_append_getElem hl2]; exact HI.out), hst'.out, HS.out, hb2.trans (hb.mono hb2.size)⟩
          case measure => simp [intOf]; omega
      · have HB := Lib.hid (fun w => rbegins_step _ _ _ _ _ hp hinv w (x := false) (y := false) (z := 0) (by unfold ansU; rw [if_neg hok]))
        rw [if_neg hok] at hsig
        have HS := Lib.hid hsig
        clear hinv hsig hp hok
        go_wp2_with (go_at_call 21; refine (HB.out _).mono ?_; rintro e w3 ⟨rfl, hb⟩)
        ((try simp only [Exit.inBlock, Exit.then]); refine bodyPost_ret (results_tmp4 rfl _ _ _) rfl ?_)
        rw [HT.out, HS.out]
        exact ⟨none, 0, (by show _ = Ending.returned (.tuple #[.slice none 0 0, .int .i64 m, .int .i64 2, .bool false]); go_num), Rd.zero _ _ _, hb2.trans (hb.mono hb2.size)⟩
    · obtain rfl : m = s.size := by omega
      have HS := Lib.hid (show sigR 0 0 s.data.toList 0 = (s.size, 0, false) by rw [hsig, drop_none s s.size (Nat.le_refl _)]; rfl)
      clear hsig hinv
      go_wp2
      ((try simp only [Exit.inBlock, Exit.then]); refine bodyPost_ret (results_tmp4 rfl _ _ _) rfl ?_)
      rw [HT.out, HS.out]
      exact ⟨none, 0, rfl, Rd.zero _ _ _, hb2⟩

end Go.Proofs.Ytaklbbkjhbkieaa

namespace Go.Proofs.Ytaklbbkjhbkieaa
open Go.RowKit
set_option linter.unusedVariables false

set_option maxHeartbeats 4000000 in
set_option maxRecDepth 100000 in
theorem rpiece_one (s : ByteArray) (h1 : s.size = 1) (e0 : (s[0].toNat : Int) = 92) (W : World) : PieceC s W ([], 1, 0, false) := by
  show Calls _ _ _ _ _
  go_enter Try.func48, Try.ntmps48
  go_wp2
  ((try simp only [Exit.inBlock, Exit.then]); refine bodyPost_ret (results_tmp4 rfl _ _ _) rfl ?_)
  exact ⟨none, 0, rfl, Rd.zero _ _ _, Below.refl _ _⟩
set_option maxHeartbeats 4000000 in
set_option maxRecDepth 100000 in
theorem rpiece_let0 (s : ByteArray) (hs : s.size ≤ 100000) (h2 : 2 ≤ s.size) (e0 : (s[0].toNat : Int) = 92) (e1 : ¬ (s[1].toNat : Int) = 117) (hl : letR s[1] = 0) (W : World) : PieceC s W ([], 1, 3, false) := by
  have ks : ¬ (s.size : Int) = 1 := by omega
  have HL := Lib.hid (fun w => rletR_any s[1] w)
  rw [hl] at HL
  show Calls _ _ _ _ _
  go_enter Try.func48, Try.ntmps48
  go_wp2_with (go_at_call 22; refine (HL.out _).mono ?_; rintro e w3 ⟨rfl, hb⟩)
  ((try simp only [Exit.inBlock, Exit.then]); refine bodyPost_ret (results_tmp4 rfl _ _ _) rfl ?_)
  exact ⟨none, 0, rfl, Rd.zero _ _ _, hb⟩
set_option maxHeartbeats 4000000 in
set_option maxRecDepth 100000 in
theorem rpiece_let (s : ByteArray) (hs : s.size ≤ 100000) (h2 : 2 ≤ s.size) (e0 : (s[0].toNat : Int) = 92) (e1 : ¬ (s[1].toNat : Int) = 117) (x : UInt8) (hx : letR s[1] = x) (hl : ¬ (x.toNat : Int) = 0) (W : World) : PieceC s W ([x], 2, 0, true) := by
  have ks : ¬ (s.size : Int) = 1 := by omega
  have HL := Lib.hid (fun w => rletR_any s[1] w)
  rw [hx] at HL
  show Calls _ _ _ _ _
  go_enter Try.func48, Try.ntmps48
  go_wp2_with (go_at_call 22; refine (HL.out _).mono ?_; rintro e w3 ⟨rfl, hb⟩)
  ((try simp only [Exit.inBlock, Exit.then]); refine bodyPost_ret (results_tmp4 rfl _ _ _) rfl ?_)
  exact ⟨_, _, rfl, (lit_rd w3 _ [x] rfl).more (by simp), hb.alloc hb.size _⟩

/-- A text behind its first six bytes. -/
theorem six_is (s : ByteArray) : (s.extract 6 s.size).data.toList = s.data.toList.drop 6 ∧ (s.extract 6 s.size).size = s.size - 6 := tail_is s 6

set_option maxHeartbeats 4000000 in
set_option maxRecDepth 100000 in
theorem rpiece_bad1 (s : ByteArray) (hs : s.size ≤ 100000) (h2 : 2 ≤ s.size) (e0 : (s[0].toNat : Int) = 92) (e1 : (s[1].toNat : Int) = 117) (n : Nat) (v k : Int) (hu : unitR s.data.toList false = (n, v, k)) (hk : ¬ k = 0 ∨ k = 0 ∧ n < 6) (W : World) : PieceC s W ([], n, k, false) := by
  have ks : ¬ (s.size : Int) = 1 := by omega
  have HU := Lib.hid (fun w => (show Calls _ _ _ _ _ from runitR_any s false hs w))
  rw [hu] at HU
  have b1 := (unitR_bd s.data.toList false).1
  rw [hu] at b1
  have b1 : n ≤ 6 := b1
  show Calls _ _ _ _ _
  clear hu
  rcases hk with hk | ⟨rfl, hk⟩
  all_goals
    go_enter Try.func48, Try.ntmps48
    go_wp2_with (go_at_call 56; refine (HU.out _).mono ?_; rintro e w3 ⟨rfl, hb⟩)
    ((try simp only [Exit.inBlock, Exit.then]); refine bodyPost_ret (results_tmp4 rfl _ _ _) rfl ?_)
    exact ⟨none, 0, rfl, Rd.zero _ _ _, hb⟩
theorem of_rd {w w' : World} {b : Nat} {m : Int} (h0 : 0 ≤ m) (h1 : m ≤ 1114111) (h : Own w' b 5 ((ofI m).map (Value.int .u8)).toArray) : Rd w' w'.heap.size (some ⟨b, 0, none⟩) (ofB m).length (byteCells (ofB m)) := by
  rw [ofB_cells m h0 h1, ofB_len2]
  exact (Rd.of_list h (by simp)).more h.inside
set_option maxHeartbeats 4000000 in
set_option maxRecDepth 100000 in
theorem rpiece_u (s : ByteArray) (hs : s.size ≤ 100000) (h2 : 2 ≤ s.size) (e0 : (s[0].toNat : Int) = 92) (e1 : (s[1].toNat : Int) = 117) (v : Int) (hu : unitR s.data.toList false = (6, v, 0)) (hk : v < 55296 ∨ ¬ v < 55296 ∧ 56319 < v) (W : World) : PieceC s W (ofB (fixI v), 6, 0, true) := by
  have ks : ¬ (s.size : Int) = 1 := by omega
  have HU := Lib.hid (fun w => (show Calls _ _ _ _ _ from runitR_any s false hs w))
  rw [hu] at HU
  have HO := Lib.hid (fun w => of_core v (fixI v) w rfl)
  have hf := fixI_in v
  show Calls _ _ _ _ _
  clear hu
  generalize fixI v = m at *
  rcases hk with hk | ⟨hk, hk2⟩
  all_goals
    go_enter Try.func48, Try.ntmps48
    go_wp2_with (first
      | (go_at_call 56; refine (HU.out _).mono ?_; rintro e w3 ⟨rfl, hb⟩)
      | (go_at_call 57; refine (HO.out _).mono ?_; rintro e w4 ⟨rfl, ho, hb4⟩))
    ((try simp only [Exit.inBlock, Exit.then]); refine bodyPost_ret (results_tmp4 rfl _ _ _) rfl ?_)
    exact ⟨_, _, (by show _ = Ending.returned (.tuple #[.slice _ (ofB m).length _, .int .i64 6, .int .i64 0, .bool true]); rw [ofB_len2]; rfl), of_rd (w := w3) hf.1 hf.2.1 ho, hb.trans (hb4.mono hb.size)⟩
set_option maxHeartbeats 4000000 in
set_option maxRecDepth 100000 in
theorem rpiece_bad2 (s : ByteArray) (hs : s.size ≤ 100000) (h6 : 6 ≤ s.size) (e0 : (s[0].toNat : Int) = 92) (e1 : (s[1].toNat : Int) = 117) (v : Int) (hu : unitR s.data.toList false = (6, v, 0)) (hv1 : ¬ v < 55296) (hv2 : ¬ 56319 < v)
    (n : Nat) (x k : Int) (hu2 : unitR (s.data.toList.drop 6) true = (n, x, k)) (hk : ¬ k = 0 ∨ k = 0 ∧ n < 6) (W : World) : PieceC s W ([], 6 + n, k, false) := by
  have ks : ¬ (s.size : Int) = 1 := by omega
  have HU := Lib.hid (fun w => (show Calls _ _ _ _ _ from runitR_any s false hs w))
  rw [hu] at HU
  have HV := Lib.hid (fun w => (show Calls _ _ _ _ _ from runitR_any (s.extract 6 s.size) true (by rw [(six_is s).2]; omega) w))
  rw [(six_is s).1, hu2] at HV
  have b1 := (unitR_bd (s.data.toList.drop 6) true).1
  rw [hu2] at b1
  have b1 : n ≤ 6 := b1
  show Calls _ _ _ _ _
  clear hu hu2
  rcases hk with hk | ⟨rfl, hk⟩
  all_goals
    go_enter Try.func48, Try.ntmps48
    go_wp2_with (first
      | (go_at_call 56; with_reducible refine (HU.out _).mono ?_; rintro e w3 ⟨rfl, hb⟩)
      | (go_at_call 56; with_reducible refine (HV.out _).mono ?_; rintro e w4 ⟨rfl, hb4⟩))
    ((try simp only [Exit.inBlock, Exit.then]); refine bodyPost_ret (results_tmp4 rfl _ _ _) rfl ?_)
    exact ⟨none, 0, (by show _ = Ending.returned (.tuple #[.slice none 0 0, .int .i64 ((6 + n : Nat) : Int), .int .i64 _, .bool false]); go_num), Rd.zero _ _ _, hb.trans (hb4.mono hb.size)⟩
set_option maxHeartbeats 4000000 in
set_option maxRecDepth 100000 in
theorem rpiece_pair (s : ByteArray) (hs : s.size ≤ 100000) (h6 : 6 ≤ s.size) (e0 : (s[0].toNat : Int) = 92) (e1 : (s[1].toNat : Int) = 117) (v : Int) (hu : unitR s.data.toList false = (6, v, 0)) (hv1 : ¬ v < 55296) (hv2 : ¬ 56319 < v)
    (x : Int) (hu2 : unitR (s.data.toList.drop 6) true = (6, x, 0)) (W : World) : PieceC s W (ofB (fixI (65536 + (v - 55296) * 1024 + x - 56320)), 12, 0, true) := by
  have ks : ¬ (s.size : Int) = 1 := by omega
  have HU := Lib.hid (fun w => (show Calls _ _ _ _ _ from runitR_any s false hs w))
  rw [hu] at HU
  have HV := Lib.hid (fun w => (show Calls _ _ _ _ _ from runitR_any (s.extract 6 s.size) true (by rw [(six_is s).2]; omega) w))
  rw [(six_is s).1, hu2] at HV
  have b3 := (unitR_bd (s.data.toList.drop 6) true).2.2
  rw [hu2] at b3
  have b4 : 0 ≤ x := b3.1
  have b5 : x ≤ 65535 := b3.2
  have HO := Lib.hid (fun w => of_core (65536 + (v - 55296) * 1024 + x - 56320) _ w rfl)
  have hf := fixI_in (65536 + (v - 55296) * 1024 + x - 56320)
  show Calls _ _ _ _ _
  clear hu hu2 b3
  generalize fixI (65536 + (v - 55296) * 1024 + x - 56320) = m at *
  go_enter Try.func48, Try.ntmps48
  go_wp2_with (first
    | (go_at_call 56; with_reducible refine (HU.out _).mono ?_; rintro e w3 ⟨rfl, hb⟩)
    | (go_at_call 56; with_reducible refine (HV.out _).mono ?_; rintro e w4 ⟨rfl, hb4⟩)
    | (go_at_call 57; refine (HO.out _).mono ?_; rintro e w5 ⟨rfl, ho, hb5⟩))
  ((try simp only [Exit.inBlock, Exit.then]); refine bodyPost_ret (results_tmp4 rfl _ _ _) rfl ?_)
  exact ⟨_, _, (by show _ = Ending.returned (.tuple #[.slice _ (ofB m).length _, .int .i64 12, .int .i64 0, .bool true]); rw [ofB_len2]; rfl), of_rd (w := w4) hf.1 hf.2.1 ho, (hb.trans (hb4.mono hb.size)).trans (hb5.mono (Nat.le_trans hb.size hb4.size))⟩

theorem unitR_len (l : List UInt8) (sec : Bool) (h : (unitR l sec).1 = 6) : 6 ≤ l.length := by
  have := (unitR_bd l sec).2.1
  omega
/-- Whatever the text. -/
theorem rpieceX_any (s : ByteArray) (hs : s.size ≤ 100000) (h1 : 1 ≤ s.size) (W : World) : PieceC s W (pieceX s.data.toList) := by
  have g0 := getD_at s 0 (by omega)
  unfold pieceX
  rw [g0]
  by_cases c1 : s[0].toNat < 32
  · rw [if_pos c1]
    exact rpiece_ctl s h1 (by omega) W
  rw [if_neg c1]
  by_cases c2 : s[0] ≠ 92
  · rw [if_pos c2]
    exact rpiece_sig s hs h1 (by omega) (fun h => c2 ((u8_int (by decide)).2 h)) W _ rfl
  rw [if_neg c2]
  have e0 : (s[0].toNat : Int) = 92 := (u8_int (by decide)).1 (Decidable.not_not.1 c2)
  by_cases c3 : s.data.toList.length = 1
  · rw [if_pos c3]
    exact rpiece_one s c3 e0 W
  rw [if_neg c3]
  have h2 : 2 ≤ s.size := by have : ¬ s.size = 1 := c3; omega
  rw [getD_at s 1 (by omega)]
  by_cases c4 : s[1] ≠ 117
  · rw [if_pos c4]
    have e1 : ¬ (s[1].toNat : Int) = 117 := fun h => c4 ((u8_int (by decide)).2 h)
    by_cases c5 : letR s[1] = 0
    · rw [if_pos c5]
      exact rpiece_let0 s hs h2 e0 e1 c5 W
    · rw [if_neg c5]
      exact rpiece_let s hs h2 e0 e1 _ rfl (fun h => c5 ((u8_int (n := 0) (by decide)).2 h)) W
  rw [if_neg c4]
  have e1 : (s[1].toNat : Int) = 117 := (u8_int (by decide)).1 (Decidable.not_not.1 c4)
  obtain ⟨n, v, k, hu⟩ : ∃ n v k, unitR s.data.toList false = (n, v, k) := ⟨_, _, _, rfl⟩
  have b1 := (unitR_bd s.data.toList false).1
  have l1 := unitR_len s.data.toList false
  rw [hu] at b1 l1
  rw [hu]
  simp only []
  have b1 : n ≤ 6 := b1
  by_cases c5 : k ≠ 0 ∨ n < 6
  · rw [if_pos c5]
    exact rpiece_bad1 s hs h2 e0 e1 n v k hu (by omega) W
  rw [if_neg c5]
  obtain ⟨rfl, rfl⟩ : n = 6 ∧ k = 0 := by omega
  have h6 : 6 ≤ s.size := l1 rfl
  by_cases c6 : v < 55296 ∨ 56319 < v
  · rw [if_pos c6]
    exact rpiece_u s hs h2 e0 e1 v hu (by omega) W
  rw [if_neg c6]
  obtain ⟨n2, x, k2, hu2⟩ : ∃ n v k, unitR (s.data.toList.drop 6) true = (n, v, k) := ⟨_, _, _, rfl⟩
  have b2 := (unitR_bd (s.data.toList.drop 6) true).1
  rw [hu2] at b2
  rw [hu2]
  simp only []
  have b2 : n2 ≤ 6 := b2
  by_cases c7 : k2 ≠ 0 ∨ n2 < 6
  · rw [if_pos c7]
    exact rpiece_bad2 s hs h6 e0 e1 v hu (by omega) (by omega) n2 x k2 hu2 (by omega) W
  rw [if_neg c7]
  obtain ⟨rfl, rfl⟩ : n2 = 6 ∧ k2 = 0 := by omega
  exact rpiece_pair s hs h6 e0 e1 v hu (by omega) (by omega) x hu2 W

end Go.Proofs.Ytaklbbkjhbkieaa

namespace Go.Proofs.Ytaklbbkjhbkieaa
open Go.RowKit
set_option linter.unusedVariables false

theorem sigR_bd : ∀ (l : List UInt8) (sg lf : Int) (k : Nat), k ≤ (sigR sg lf l k).1 ∧ (sigR sg lf l k).1 ≤ k + l.length ∧ ((sigR sg lf l k).2.2 = true → k + 1 ≤ (sigR sg lf l k).1 ∧ (sigR sg lf l k).2.1 = 0)
  | [], sg, lf, k => ⟨Nat.le_refl _, Nat.le_refl _, fun h => by cases h⟩
  | c :: t, sg, lf, k => by
    have e : sigR sg lf (c :: t) k = if okU sg lf c.toNat then (if lfU lf c.toNat = 0 then (k + 1, 0, true) else sigR (sgU sg lf c.toNat) (lfU lf c.toNat) t (k + 1)) else (k, 2, false) := rfl
    rw [e, List.length_cons]
    split
    · split
      · exact ⟨Nat.le_succ _, by show k + 1 ≤ _; omega, fun _ => ⟨Nat.le_refl _, rfl⟩⟩
      · have := sigR_bd t (sgU sg lf c.toNat) (lfU lf c.toNat) (k + 1)
        exact ⟨by omega, by omega, fun h => ⟨by have := (this.2.2 h).1; omega, (this.2.2 h).2⟩⟩
    · exact ⟨Nat.le_refl _, Nat.le_add_right _ _, fun h => by cases h⟩
theorem ofB_four (m : Int) : (ofB m).length ≤ 4 := by
  rw [ofB_len2]
  unfold ofI
  (repeat' split) <;> simp
theorem pieceX_bd (l : List UInt8) (h : 1 ≤ l.length) : (pieceX l).2.1 ≤ l.length ∧ ((pieceX l).2.2.2 = true → 1 ≤ (pieceX l).2.1 ∧ (pieceX l).1.length ≤ (pieceX l).2.1 ∧ (pieceX l).2.2.1 = 0) := by
  unfold pieceX
  split
  · exact ⟨Nat.zero_le _, fun h => by cases h⟩
  split
  · obtain ⟨g1, g2, g3⟩ := sigR_bd l 0 0 0
    refine ⟨by show (sigR 0 0 l 0).1 ≤ _; omega, fun hw => ?_⟩
    have hw : (sigR 0 0 l 0).2.2 = true := hw
    obtain ⟨g4, g5⟩ := g3 hw
    refine ⟨by show 1 ≤ (sigR 0 0 l 0).1; omega, ?_, g5⟩
    show (if (sigR 0 0 l 0).2.2 then l.take (sigR 0 0 l 0).1 else []).length ≤ (sigR 0 0 l 0).1
    rw [hw, if_pos rfl, List.length_take]
    omega
  split
  · exact ⟨h, fun h => by cases h⟩
  split
  · split
    · exact ⟨h, fun h => by cases h⟩
    · exact ⟨by show 2 ≤ l.length; omega, fun _ => ⟨by show 1 ≤ 2; omega, by show 1 ≤ 2; omega, rfl⟩⟩
  obtain ⟨u1, u2, u3⟩ := unitR_bd l false
  obtain ⟨v1, v2, v3⟩ := unitR_bd (l.drop 6) true
  rw [List.length_drop] at v2
  have f1 := ofB_four (fixI (unitR l false).2.1)
  have f2 := ofB_four (fixI (65536 + ((unitR l false).2.1 - 55296) * 1024 + (unitR (l.drop 6) true).2.1 - 56320))
  split
  · exact ⟨u2, fun h => by cases h⟩
  split
  · exact ⟨by show 6 ≤ l.length; omega, fun _ => ⟨by show 1 ≤ 6; omega, by show (ofB _).length ≤ 6; omega, rfl⟩⟩
  split
  · exact ⟨by show 6 + _ ≤ l.length; omega, fun h => by cases h⟩
  · exact ⟨by show 12 ≤ l.length; omega, fun _ => ⟨by show 1 ≤ 12; omega, by show (ofB _).length ≤ 12; omega, rfl⟩⟩

theorem scanR_step (f : Nat) (l : List UInt8) (h : 1 ≤ l.length) : scanR (f + 1) l = if l.getD 0 0 = 34 then ([], 1, 1) else if (pieceX l).2.2.1 ≠ 0 ∨ (pieceX l).2.2.2 = false then ([], (pieceX l).2.1, (pieceX l).2.2.1)
    else ((pieceX l).1 ++ (scanR f (l.drop (pieceX l).2.1)).1, (pieceX l).2.1 + (scanR f (l.drop (pieceX l).2.1)).2.1, (scanR f (l.drop (pieceX l).2.1)).2.2) := by
  have hne : l ≠ [] := fun e => by rw [e] at h; simp at h
  conv => lhs; unfold scanR
  rw [if_neg hne]
theorem scanR_nil (f : Nat) : scanR f [] = ([], 0, 0) := by cases f <;> rfl

def RelSc (s : ByteArray) (W wr : World) (o a : Value) : Prop :=
  ∃ (k f : Nat) (d : List UInt8), k ≤ s.size ∧ a = .int .i64 k ∧ Buf wr W.heap.size o d ∧ d.length ≤ k ∧ s.size - k ≤ f ∧
    scanL s.data.toList = (d ++ (scanR f (s.data.toList.drop k)).1, k + (scanR f (s.data.toList.drop k)).2.1, (scanR f (s.data.toList.drop k)).2.2) ∧ Below W.heap.size W wr
def ScanP (W : World) (t : List UInt8 × Nat × Int) (e : Ending) (w' : World) : Prop := e = .returned (.tuple #[.string ⟨t.1.toArray⟩, .int .i64 t.2.1, .int .i64 t.2.2]) ∧ Below W.heap.size W w'

set_option maxHeartbeats 8000000 in
set_option maxRecDepth 100000 in
theorem rscan_any (s : ByteArray) (hs : s.size ≤ 100000) (W : World) : Calls Try.prog 40 #[.string s] W fun e w' => ScanP W (scanL s.data.toList) e w' := by
  have hsl : s.data.toList.length = s.size := rfl
  go_enter Try.func40, Try.ntmps40
  go_wp2
  go_loopw [5, 6] (fun o a wr => RelSc s W wr o a) (fun _ a _ => s.size - (intOf a).toNat)
  case atStart => exact ⟨0, s.size, [], Nat.zero_le _, rfl, Buf.made W _ [] rfl (by decide) (Nat.le_refl _), Nat.le_refl _, by omega, (by show scanR s.data.toList.length s.data.toList = _; rw [hsl, List.drop_zero]; simp), (Below.refl _ _).alloc (Nat.le_refl _) _⟩
  case round =>
    obtain ⟨k, f, d, hk, rfl, hbuf, hd, hf, hsc, hbel⟩ := hrel
    have kc := hbuf.conv
    by_cases hlt : k < s.size
    · obtain ⟨g, rfl⟩ : ∃ g, f = g + 1 := ⟨f - 1, by omega⟩
      have hdl : (s.data.toList.drop k).length = s.size - k := by rw [List.length_drop, hsl]
      have hg0 : (s.data.toList.drop k).getD 0 0 = s[k] := by rw [drop_at s k hlt]; rfl
      rw [scanR_step g (s.data.toList.drop k) (by omega), hg0] at hsc
      by_cases hq : s[k] = 34
      · have hqi : (s[k].toNat : Int) = 34 := (u8_int (by decide)).1 hq
        rw [if_pos hq] at hsc
        have HS := Lib.hid hsc
        clear hsc hg0
        go_wp2
        go_ret3
        rw [HS.out]
        exact ⟨(by show _ = Ending.returned (.tuple #[.string ⟨(d ++ []).toArray⟩, .int .i64 ((k + 1 : Nat) : Int), .int .i64 1]); rw [List.append_nil]; go_num), hbel⟩
      · have hqi : ¬ (s[k].toNat : Int) = 34 := fun h => hq ((u8_int (by decide)).2 h)
        rw [if_neg hq] at hsc
        have HP := Lib.hid (fun w => (show Calls _ _ _ _ _ from rpieceX_any (s.extract k s.size) (by rw [(tail_is s k).2]; omega) (by rw [(tail_is s k).2]; omega) w))
        rw [(tail_is s k).1] at HP
        obtain ⟨pb1, pb2⟩ := pieceX_bd (s.data.toList.drop k) (by omega)
        rw [hdl] at pb1
        obtain ⟨bs, n, kd, wh, hp⟩ : ∃ bs n kd wh, pieceX (s.data.toList.drop k) = (bs, n, kd, wh) := ⟨_, _, _, _, rfl⟩
        rw [hp] at hsc HP pb1 pb2
        have pb1 : n ≤ s.size - k := pb1
        have pb2 : wh = true → 1 ≤ n ∧ bs.length ≤ n ∧ kd = 0 := pb2
        simp only [] at hsc
        clear hp hg0
        by_cases hkd : kd = 0
        · subst hkd
          cases wh
          · rw [if_pos (.inr rfl)] at hsc
            have HS := Lib.hid hsc
            clear hsc pb2
            go_wp2_with (go_at_call 48; refine (HP.out _).mono ?_; rintro e w3 ⟨A3, c3, rfl, hr3, hb⟩; have hb3 := hbuf.stay hb (Nat.le_refl _); have kc3 := hb3.conv)
            go_ret3
            rw [HS.out]
            exact ⟨(by show _ = Ending.returned (.tuple #[.string ⟨(d ++ []).toArray⟩, .int .i64 ((k + n : Nat) : Int), .int .i64 0]); rw [List.append_nil]; go_num), hbel.trans (hb.mono hbel.size)⟩
          · obtain ⟨n1, n2, _⟩ := pb2 rfl
            rw [if_neg (by simp)] at hsc
            have HS := Lib.hid hsc
            clear hsc pb2
            go_wp2_with (first
              | (go_at_call 48; refine (HP.out _).mono ?_; rintro e w3 ⟨A3, c3, rfl, hr3, hb⟩; have hb3 := hbuf.stay hb (Nat.le_refl _); have hz3 := Nat.le_trans hbel.size hb.size)
              | (at_builtin
                 go_must (
                   refine buf_append _ rfl (.tmp 45) (.tmp 46) rfl W.heap.size _ d rfl hb3 _ A3 bs.length c3 bs rfl hr3 (by omega) hz3 ?_
                   intro v4 w4 hbuf4 hb4)))
            go_roundw
            case rel => exact ⟨k + n, g, d ++ bs, by omega, by go_num, hbuf4, (by rw [List.length_append]; omega), by omega, (by rw [HS.out, List.drop_drop]; simp; omega), (hbel.trans (hb.mono hbel.size)).trans hb4⟩
            case measure => simp [intOf]; omega
        · rw [if_pos (.inl hkd)] at hsc
          have HS := Lib.hid hsc
          clear hsc pb2
          go_wp2_with (go_at_call 48; refine (HP.out _).mono ?_; rintro e w3 ⟨A3, c3, rfl, hr3, hb⟩; have hb3 := hbuf.stay hb (Nat.le_refl _); have kc3 := hb3.conv)
          go_ret3
          rw [HS.out]
          exact ⟨(by show _ = Ending.returned (.tuple #[.string ⟨(d ++ []).toArray⟩, .int .i64 ((k + n : Nat) : Int), .int .i64 kd]); rw [List.append_nil]; go_num), hbel.trans (hb.mono hbel.size)⟩
    · have hks : ¬ (k : Int) < s.size := by omega
      rw [drop_none s k (by omega), scanR_nil] at hsc
      have HS := Lib.hid hsc
      clear hsc
      go_wp2
      go_ret3
      rw [HS.out]
      exact ⟨(by show _ = Ending.returned (.tuple #[.string ⟨(d ++ []).toArray⟩, .int .i64 ((k + 0 : Nat) : Int), .int .i64 0]); rw [List.append_nil]; rfl), hbel⟩

end Go.Proofs.Ytaklbbkjhbkieaa

namespace Go.Proofs.Ytaklbbkjhbkieaa
open Go.RowKit
set_option linter.unusedVariables false

theorem valR_size : (Try.prog.info? 27).map (·.size) = some 6 := by kernel_rfl
theorem part_size : (Try.prog.info? 44).map (·.size) = some 9 := by kernel_rfl
/-- A part's cells, as they are made. -/
def zero9 : Array Value := #[.int .i64 0, .int .i64 0, .int .i64 0, .string ⟨#[]⟩, .slice none 0 0, .slice none 0 0, .bool false, .int .i64 0, .int .i64 0]
def cells9 (kd fr t : Int) (tx : ByteArray) (A : Option Addr) (n c : Nat) (B : Option Addr) (m d : Nat) (b : Bool) (k f : Int) : Array Value := #[.int .i64 kd, .int .i64 fr, .int .i64 t, .string tx, .slice A n c, .slice B m d, .bool b, .int .i64 k, .int .i64 f]
def put9 (w : World) (g : Nat) (kd fr t : Int) (tx : ByteArray) (A : Option Addr) (n c : Nat) (B : Option Addr) (m d : Nat) (b : Bool) (k f : Int) : World :=
  ((((((((w.setCell ⟨g, 0, none⟩ (.int .i64 kd)).setCell ⟨g, 1, none⟩ (.int .i64 fr)).setCell ⟨g, 2, none⟩ (.int .i64 t)).setCell ⟨g, 3, none⟩ (.string tx)).setCell ⟨g, 4, none⟩ (.slice A n c)).setCell ⟨g, 5, none⟩ (.slice B m d)).setCell ⟨g, 6, none⟩ (.bool b)).setCell ⟨g, 7, none⟩ (.int .i64 k)).setCell ⟨g, 8, none⟩ (.int .i64 f)
theorem put9_own {w : World} {g : Nat} {T : TypeId} (h : Own w g T zero9) (kd fr t : Int) (tx : ByteArray) (A : Option Addr) (n c : Nat) (B : Option Addr) (m d : Nat) (b : Bool) (k f : Int) : Own (put9 w g kd fr t tx A n c B m d b k f) g T (cells9 kd fr t tx A n c B m d b k f) := by
  have := ((((((((h.put 0 (.int .i64 kd)).put 1 (.int .i64 fr)).put 2 (.int .i64 t)).put 3 (.string tx)).put 4 (.slice A n c)).put 5 (.slice B m d)).put 6 (.bool b)).put 7 (.int .i64 k)).put 8 (.int .i64 f)
  unfold put9
  simpa [zero9, cells9] using this
theorem put9_below {w0 w : World} {g : Nat} (h : Below g w0 w) (kd fr t : Int) (tx : ByteArray) (A : Option Addr) (n c : Nat) (B : Option Addr) (m d : Nat) (b : Bool) (k f : Int) : Below g w0 (put9 w g kd fr t tx A n c B m d b k f) :=
  ((((((((h.setCell (p := ⟨g, 0, none⟩) (Nat.le_refl _) _).setCell (p := ⟨g, 1, none⟩) (Nat.le_refl _) _).setCell (p := ⟨g, 2, none⟩) (Nat.le_refl _) _).setCell (p := ⟨g, 3, none⟩) (Nat.le_refl _) _).setCell (p := ⟨g, 4, none⟩) (Nat.le_refl _) _).setCell (p := ⟨g, 5, none⟩) (Nat.le_refl _) _).setCell (p := ⟨g, 6, none⟩) (Nat.le_refl _) _).setCell (p := ⟨g, 7, none⟩) (Nat.le_refl _) _).setCell (p := ⟨g, 8, none⟩) (Nat.le_refl _) _
theorem nine_facts {w : World} {g : Nat} {T : TypeId} (h : Own w g T zero9) :
    w.cell? ⟨g, 0, none⟩ = some (.int .i64 0) ∧ w.cell? ⟨g, 1, none⟩ = some (.int .i64 0) ∧ w.cell? ⟨g, 2, none⟩ = some (.int .i64 0) ∧ w.cell? ⟨g, 3, none⟩ = some (.string ⟨#[]⟩) ∧ w.cell? ⟨g, 4, none⟩ = some (.slice none 0 0) ∧
    w.cell? ⟨g, 5, none⟩ = some (.slice none 0 0) ∧ w.cell? ⟨g, 6, none⟩ = some (.bool false) ∧ w.cell? ⟨g, 7, none⟩ = some (.int .i64 0) ∧ w.cell? ⟨g, 8, none⟩ = some (.int .i64 0) ∧
    w.frozen? ⟨g, 0, none⟩ = false ∧ w.frozen? ⟨g, 1, none⟩ = false ∧ w.frozen? ⟨g, 2, none⟩ = false ∧ w.frozen? ⟨g, 3, none⟩ = false ∧ w.frozen? ⟨g, 4, none⟩ = false ∧ w.frozen? ⟨g, 5, none⟩ = false ∧ w.frozen? ⟨g, 6, none⟩ = false ∧ w.frozen? ⟨g, 7, none⟩ = false ∧ w.frozen? ⟨g, 8, none⟩ = false :=
  ⟨h.at 0, h.at 1, h.at 2, h.at 3, h.at 4, h.at 5, h.at 6, h.at 7, h.at 8, h.free 0, h.free 1, h.free 2, h.free 3, h.free 4, h.free 5, h.free 6, h.free 7, h.free 8⟩

set_option maxHeartbeats 4000000 in
set_option maxRecDepth 100000 in
theorem rbroken_any (kd fr t : Int) (tx : ByteArray) (A : Option Addr) (n c : Nat) (B : Option Addr) (m d : Nat) (kind k : Int) (W : World) :
    Calls Try.prog 41 #[.agg #[.int .i64 kd, .int .i64 fr, .int .i64 t, .string tx, .slice A n c, .slice B m d], .int .i64 kind, .int .i64 k] W
      fun e w' => e = .returned (.agg #[.int .i64 kd, .int .i64 fr, .int .i64 0, .string tx, .slice A n c, .slice B m d, .bool true, .int .i64 k, .int .i64 kind]) ∧ Below W.heap.size W w' := by
  go_enter Try.func41, Try.ntmps41
  go_wp2
  refine bodyPost_ret (results_cell_row rfl _ _ (W.heap.size + 1) _ _ (0, 0) _ rfl (heap_alloc2_new W _ _) Try.underlying44 rfl part_size) rfl ?_
  exact ⟨rfl, below2 _ _ _⟩

/-- A call, another object, and another call. -/
theorem two_calls {W w3 w4 : World} {T : TypeId} {cs : Array Value} {o : Obj} (hb : Below (W.alloc (.cells cs T)).heap.size (W.alloc (.cells cs T)) w3) (hb4 : Below (w3.alloc o).heap.size (w3.alloc o) w4) : Own w4 W.heap.size T cs ∧ Below W.heap.size W w4 := by
  have o0 := Own.fresh W T cs
  have o3 := o0.stay hb o0.inside
  have o3' := o3.over o
  have b0 := below1 W (.cells cs T)
  have b3 := b0.trans (hb.mono b0.size)
  have b3' := b3.trans ((below1 w3 o).mono b3.size)
  exact ⟨o3'.stay hb4 o3'.inside, b3'.trans (hb4.mono b3'.size)⟩
theorem one_call {W w3 : World} {T : TypeId} {cs : Array Value} (hb : Below (W.alloc (.cells cs T)).heap.size (W.alloc (.cells cs T)) w3) : Own w3 W.heap.size T cs ∧ Below W.heap.size W w3 := by
  have o0 := Own.fresh W T cs
  have b0 := below1 W (.cells cs T)
  exact ⟨o0.stay hb o0.inside, b0.trans (hb.mono b0.size)⟩

/-- The value stays as long as the blocks from B on, ahead of E, stay. -/
def VKept (B E : Nat) (w : World) (t : Tree) (x : V6) : Prop := ∀ u : World, (∀ b, B ≤ b → b < E → u.heap[b]? = w.heap[b]?) → VIs u t x
/-- What a part is. -/
def PartP (W : World) (p : PartR) (e : Ending) (w' : World) : Prop :=
  ∃ x : V6, e = .returned (.agg #[.int .i64 x.kd, .int .i64 x.fr, .int .i64 x.to, .string ⟨x.tx.toArray⟩, .slice x.A x.n x.c, .slice x.B x.m x.d, .bool p.beg, .int .i64 p.pt, .int .i64 p.fault]) ∧ VKept W.heap.size w'.heap.size w' p.val x ∧ Below W.heap.size W w'
/-- A value without items. -/
def leafV (kd : Int) (fr t : Nat) (tx : List UInt8) : V6 := ⟨kd, fr, t, tx, none, 0, 0, none, 0, 0⟩
theorem RdG.empty {α : Type} (K : RowK α) (w : World) : RdG K w none 0 [] := ⟨rfl, fun h => absurd h (Nat.lt_irrefl 0)⟩
theorem leaf_is (w : World) (kd : Int) (fr t : Nat) (tx : List UInt8) : VIs w (.mk kd fr t tx [] []) (leafV kd fr t tx) := by
  unfold VIs
  exact ⟨rfl, rfl, rfl, rfl, Nat.le_refl _, Nat.le_refl _, RdG.empty _ _, [], RdG.empty _ _, by unfold VLs; rfl⟩

theorem scanR_bd (f : Nat) : ∀ l : List UInt8, (scanR f l).2.1 ≤ l.length ∧ (scanR f l).1.length ≤ l.length := by
  induction f with
  | zero => intro l; exact ⟨Nat.zero_le _, Nat.zero_le _⟩
  | succ f ih =>
    intro l
    cases l with
    | nil => exact ⟨Nat.zero_le _, Nat.zero_le _⟩
    | cons c t =>
      rw [scanR_step f (c :: t) (by simp)]
      obtain ⟨p1, p2⟩ := pieceX_bd (c :: t) (by simp)
      split
      · exact ⟨by simp, by simp⟩
      split
      · exact ⟨p1, by simp⟩
      · rename_i h
        have hw : (pieceX (c :: t)).2.2.2 = true := by
          cases hh : (pieceX (c :: t)).2.2.2
          · exact absurd (.inr hh) h
          · rfl
        obtain ⟨p3, p4, _⟩ := p2 hw
        obtain ⟨q1, q2⟩ := ih ((c :: t).drop (pieceX (c :: t)).2.1)
        rw [List.length_drop] at q1 q2
        refine ⟨?_, ?_⟩
        · show (pieceX (c :: t)).2.1 + _ ≤ _; omega
        · show ((pieceX (c :: t)).1 ++ _).length ≤ _; rw [List.length_append]; omega

set_option maxHeartbeats 8000000 in
set_option maxRecDepth 100000 in
theorem rquoted_any (s : ByteArray) (k : Nat) (hs : s.size ≤ 100000) (hk : k < s.size) (W : World) (P : PartR) (hP : quotedR s.data.toList k = P) :
    Calls Try.prog 26 #[.string s, .int .i64 k] W fun e w' => PartP W P e w' := by
  have hsl : s.data.toList.length = s.size := rfl
  have HC := Lib.hid (fun w => rscan_any (s.extract (k + 1) s.size) (by rw [(tail_is s (k + 1)).2]; omega) w)
  rw [(tail_is s (k + 1)).1] at HC
  have hb := scanR_bd (s.data.toList.drop (k + 1)).length (s.data.toList.drop (k + 1))
  rw [List.length_drop, hsl] at hb
  unfold quotedR at hP
  have hb1 : (scanL (s.data.toList.drop (k + 1))).2.1 ≤ s.size - (k + 1) := by
    have := hb.1
    unfold scanL
    rw [List.length_drop, hsl]
    exact this
  obtain ⟨tx, n, kd, hp⟩ : ∃ tx n kd, scanL (s.data.toList.drop (k + 1)) = (tx, n, kd) := ⟨_, _, _, rfl⟩
  rw [hp] at hP HC hb1
  simp only [] at hP
  have hb1 : n ≤ s.size - (k + 1) := hb1
  clear hp hb
  by_cases h0 : kd = 0
  · rw [if_pos h0] at hP
    subst h0
    have HP := Lib.hid hP
    have HB := Lib.hid (fun (kk f : Int) (w : World) => rbroken_any 3 k 0 ⟨#[]⟩ none 0 0 none 0 0 kk f w)
    clear hP
    go_enter Try.func26, Try.ntmps26
    go_wp2_with (first
      | (go_at_call 40
         go_must (
           refine (HC.out _).mono ?_
           rintro e w3 ⟨rfl, hb⟩))
      | (go_at_call 41
         go_must (
           refine (HB.out 10 s.size _).mono ?_
           rintro e w4 ⟨rfl, hb4⟩
           obtain ⟨o4, c4⟩ := two_calls hb hb4
           have o4 : Own w4 W.heap.size 44 zero9 := o4
           obtain ⟨p0, p1, p2, p3, p4, p5, p6, p7, p8, f0, f1, f2, f3, f4, f5, f6, f7, f8⟩ := nine_facts o4
           have hO := put9_own o4 3 k 0 ⟨#[]⟩ none 0 0 none 0 0 true s.size 10
           have hT := put9_below c4 3 k 0 ⟨#[]⟩ none 0 0 none 0 0 true s.size 10
           unfold put9 at hO hT
           have HO := Lib.hid hO
           have HT := Lib.hid hT
           clear hO hT o4 c4 hb hb4)))
    refine bodyPost_ret (results_cell_row rfl _ _ W.heap.size _ _ (0, 0) _ rfl HO.out Try.underlying44 rfl part_size) rfl ?_
    rw [← HP.out]
    exact ⟨leafV 3 k 0 [], rfl, (fun _ _ => leaf_is _ _ _ _ _), HT.out⟩
  · rw [if_neg h0] at hP
    by_cases h1 : kd = 1
    · subst h1
      rw [if_neg (by decide)] at hP
      have HP := Lib.hid hP
      clear hP
      go_enter Try.func26, Try.ntmps26
      go_wp2_with (first
        | (go_at_call 40
           go_must (
             refine (HC.out _).mono ?_
             rintro e w3 ⟨rfl, hb⟩
             obtain ⟨o3, c3⟩ := one_call hb
             have o3 : Own w3 W.heap.size 44 zero9 := o3
             have o4 := o3.over (.cells #[.int .i64 3, .int .i64 k, .int .i64 ((k : Int) + 1 + n), .string ⟨tx.toArray⟩, .slice none 0 0, .slice none 0 0] 27)
             have c4 := c3.alloc c3.size (.cells #[.int .i64 3, .int .i64 k, .int .i64 ((k : Int) + 1 + n), .string ⟨tx.toArray⟩, .slice none 0 0, .slice none 0 0] 27)
             obtain ⟨p0, p1, p2, p3, p4, p5, p6, p7, p8, f0, f1, f2, f3, f4, f5, f6, f7, f8⟩ := nine_facts o4
             have hO := put9_own o4 3 k ((k : Int) + 1 + n) ⟨tx.toArray⟩ none 0 0 none 0 0 true ((k : Int) + 1 + n) 0
             have hT := put9_below c4 3 k ((k : Int) + 1 + n) ⟨tx.toArray⟩ none 0 0 none 0 0 true ((k : Int) + 1 + n) 0
             unfold put9 at hO hT
             have HO := Lib.hid hO
             have HT := Lib.hid hT
             clear hO hT o4 c4 o3 c3 hb)))
      refine bodyPost_ret (results_cell_row rfl _ _ W.heap.size _ _ (0, 0) _ rfl HO.out Try.underlying44 rfl part_size) rfl ?_
      rw [← HP.out]
      exact ⟨leafV 3 k (k + 1 + n) tx, rfl, (fun _ _ => leaf_is _ _ _ _ _), HT.out⟩
    · rw [if_pos h1] at hP
      have HP := Lib.hid hP
      have HB := Lib.hid (fun (kk f : Int) (w : World) => rbroken_any 3 k 0 ⟨#[]⟩ none 0 0 none 0 0 kk f w)
      clear hP
      go_enter Try.func26, Try.ntmps26
      go_wp2_with (first
        | (go_at_call 40
           go_must (
             refine (HC.out _).mono ?_
             rintro e w3 ⟨rfl, hb⟩))
        | (go_at_call 41
           go_must (
             refine (HB.out kd ((k : Int) + 1 + n) _).mono ?_
             rintro e w4 ⟨rfl, hb4⟩
             obtain ⟨o4, c4⟩ := two_calls hb hb4
             have o4 : Own w4 W.heap.size 44 zero9 := o4
             obtain ⟨p0, p1, p2, p3, p4, p5, p6, p7, p8, f0, f1, f2, f3, f4, f5, f6, f7, f8⟩ := nine_facts o4
             have hO := put9_own o4 3 k 0 ⟨#[]⟩ none 0 0 none 0 0 true ((k : Int) + 1 + n) kd
             have hT := put9_below c4 3 k 0 ⟨#[]⟩ none 0 0 none 0 0 true ((k : Int) + 1 + n) kd
             unfold put9 at hO hT
             have HO := Lib.hid hO
             have HT := Lib.hid hT
             clear hO hT o4 c4 hb hb4)))
      refine bodyPost_ret (results_cell_row rfl _ _ W.heap.size _ _ (0, 0) _ rfl HO.out Try.underlying44 rfl part_size) rfl ?_
      rw [← HP.out]
      exact ⟨leafV 3 k 0 [], rfl, (fun _ _ => leaf_is _ _ _ _ _), HT.out⟩

end Go.Proofs.Ytaklbbkjhbkieaa

namespace Go.Proofs.Ytaklbbkjhbkieaa
open Go.RowKit
set_option linter.unusedVariables false

/-- A value that has begun, as it is made. -/
def leaf6 (kd fr : Int) : Array Value := #[.int .i64 kd, .int .i64 fr, .int .i64 0, .string ⟨#[]⟩, .slice none 0 0, .slice none 0 0]
theorem leaf_facts {w : World} {g : Nat} {T : TypeId} {kd fr : Int} (h : Own w g T (leaf6 kd fr)) :
    w.cell? ⟨g, 0, none⟩ = some (.int .i64 kd) ∧ w.cell? ⟨g, 1, none⟩ = some (.int .i64 fr) ∧ w.cell? ⟨g, 2, none⟩ = some (.int .i64 0) ∧ w.cell? ⟨g, 3, none⟩ = some (.string ⟨#[]⟩) ∧ w.cell? ⟨g, 4, none⟩ = some (.slice none 0 0) ∧ w.cell? ⟨g, 5, none⟩ = some (.slice none 0 0) ∧
    w.frozen? ⟨g, 0, none⟩ = false ∧ w.frozen? ⟨g, 1, none⟩ = false ∧ w.frozen? ⟨g, 2, none⟩ = false ∧ w.frozen? ⟨g, 3, none⟩ = false ∧ w.frozen? ⟨g, 4, none⟩ = false ∧ w.frozen? ⟨g, 5, none⟩ = false :=
  ⟨h.at 0, h.at 1, h.at 2, h.at 3, h.at 4, h.at 5, h.free 0, h.free 1, h.free 2, h.free 3, h.free 4, h.free 5⟩
/-- The part and the value that a call has made. -/
structure Mk (W : World) (kd fr : Int) (w : World) : Prop where
  part : Own w W.heap.size 44 zero9
  val : Own w (W.heap.size + 1) 27 (leaf6 kd fr)
  bel : Below W.heap.size W w
theorem Mk.start (W : World) (kd fr : Int) : Mk W kd fr ((W.alloc (.cells zero9 44)).alloc (.cells (leaf6 kd fr) 27)) := by
  refine ⟨(Own.fresh W _ zero9).over _, ?_, below2 _ _ _⟩
  have := Own.fresh (W.alloc (.cells zero9 44)) 27 (leaf6 kd fr)
  simpa using this
theorem Mk.stay {W w w' : World} {kd fr : Int} (h : Mk W kd fr w) (hb : Below w.heap.size w w') : Mk W kd fr w' := ⟨h.part.stay hb h.part.inside, h.val.stay hb h.val.inside, h.bel.trans (hb.mono h.bel.size)⟩
theorem Mk.drew {W w : World} {kd fr : Int} (h : Mk W kd fr w) : Mk W kd fr w.drew := ⟨h.part, h.val, h.bel.drew⟩
/-- A part is written, the value's end and text ahead of it. -/
theorem Mk.done {W w : World} {kd fr : Int} (h : Mk W kd fr w) (t : Int) (tx : ByteArray) (k : Int) :
    Own (put9 ((w.setCell ⟨W.heap.size + 1, 2, none⟩ (.int .i64 t)).setCell ⟨W.heap.size + 1, 3, none⟩ (.string tx)) W.heap.size kd fr t tx none 0 0 none 0 0 true k 0) W.heap.size 44 (cells9 kd fr t tx none 0 0 none 0 0 true k 0) ∧
    Below W.heap.size W (put9 ((w.setCell ⟨W.heap.size + 1, 2, none⟩ (.int .i64 t)).setCell ⟨W.heap.size + 1, 3, none⟩ (.string tx)) W.heap.size kd fr t tx none 0 0 none 0 0 true k 0) :=
  ⟨put9_own ((h.part.past (by simp) _).past (by simp) _) _ _ _ _ _ _ _ _ _ _ _ _ _,
   put9_below ((h.bel.setCell (p := ⟨W.heap.size + 1, 2, none⟩) (Nat.le_succ _) _).setCell (p := ⟨W.heap.size + 1, 3, none⟩) (Nat.le_succ _) _) _ _ _ _ _ _ _ _ _ _ _ _ _⟩
/-- A part is written behind 'broken'. -/
theorem Mk.broke {W w w4 : World} {kd fr : Int} (h : Mk W kd fr w) (hb : Below w.heap.size w w4) (kk f : Int) :
    Own w4 W.heap.size 44 zero9 ∧ Own (put9 w4 W.heap.size kd fr 0 ⟨#[]⟩ none 0 0 none 0 0 true f kk) W.heap.size 44 (cells9 kd fr 0 ⟨#[]⟩ none 0 0 none 0 0 true f kk) ∧
    Below W.heap.size W (put9 w4 W.heap.size kd fr 0 ⟨#[]⟩ none 0 0 none 0 0 true f kk) :=
  ⟨(h.stay hb).part, put9_own (h.stay hb).part _ _ _ _ _ _ _ _ _ _ _ _ _, put9_below (h.stay hb).bel _ _ _ _ _ _ _ _ _ _ _ _ _⟩

end Go.Proofs.Ytaklbbkjhbkieaa

namespace Go.Proofs.Ytaklbbkjhbkieaa
open Go.RowKit
set_option linter.unusedVariables false

theorem numW_cons (s : ByteArray) (j n : Nat) (h : j < s.size) (a : Int) : numW a (s.data.toList.drop j) n = if nxI a s[j].toNat ≠ 0 then numW (nxI a s[j].toNat) (s.data.toList.drop (j + 1)) (n + 1) else (n, anI a s[j].toNat, a) := by
  rw [drop_at s j h]
  rfl
def RelNb (s : ByteArray) (k : Nat) (cl : Bool) (W wr : World) (v u : Value) : Prop :=
  ∃ (n : Nat) (a : Int), k + n ≤ s.size ∧ v = .int .i64 n ∧ u = .bool cl ∧ At a ((s.data.toList.drop k).take n) ∧ numW 0 (s.data.toList.drop k) 0 = numW a (s.data.toList.drop (k + n)) n ∧ Mk W 2 k wr

set_option maxHeartbeats 16000000 in
set_option maxRecDepth 100000 in
theorem rnumR_any (s : ByteArray) (k : Nat) (cl : Bool) (hs : s.size ≤ 50000) (hk : k < s.size) (W : World) (P : PartR) (hP : numberR s.data.toList cl k = P) :
    Calls Try.prog 27 #[.string s, .int .i64 k, .bool cl] W fun e w' => PartP W P e w' := by
  have hsl : s.data.toList.length = s.size := rfl
  have HB := Lib.hid (fun (kk f : Int) (w : World) => rbroken_any 2 k 0 ⟨#[]⟩ none 0 0 none 0 0 kk f w)
  unfold numberR at hP
  have HP := Lib.hid hP
  clear hP
  go_enter Try.func27, Try.ntmps27
  go_wp2
  go_loopw [7, 8] (fun v u wr => RelNb s k cl W wr v u) (fun v _ _ => s.size - k - (intOf v).toNat)
  case atStart => exact ⟨0, 0, by omega, rfl, rfl, at_nil, rfl, Mk.start W 2 k⟩
  case round =>
    obtain ⟨n, a, hkn, rfl, rfl, hat, hnum, hmk⟩ := hrel
    have hxl : (s.extract k (k + n)).data.toList = (s.data.toList.drop k).take n := part_is s k n
    have hxz : (s.extract k (k + n)).size = n := by rw [ByteArray.size_extract]; omega
    have hdl : (s.data.toList.drop k).length = s.size - k := by rw [List.length_drop, hsl]
    by_cases hlt : k + n < s.size
    · rw [numW_cons s (k + n) n hlt] at hnum
      have HS := fun w => rstep_at (s.extract k (k + n)) s[k + n] a (by rw [hxl]; exact hat) w (by rw [hxz]; omega)
      have hmd := hmk.drew
      by_cases hok : nxI a s[k + n].toNat = 0
      · rw [if_neg (fun h => h hok)] at hnum
        have han : anI a s[k + n].toNat = 1 ∧ whI a = true ∨ anI a s[k + n].toNat = 2 := by
          unfold anI
          rw [if_neg (fun h => h hok)]
          by_cases hw : (whI a && !stickI s[k + n].toNat) = true
          · rw [if_pos hw]; exact .inl ⟨rfl, (Bool.and_eq_true _ _ ▸ hw).1⟩
          · rw [if_neg hw]; exact .inr rfl
        rcases han with ⟨han, hwh⟩ | han
        · rw [han] at hnum HS
          rw [hnum] at HP
          rw [if_neg (show ¬ (1 : Int) = 2 by decide), if_neg (by rintro (⟨_, h⟩ | h); exact absurd (show (1 : Int) = 0 from h) (by decide); rw [show whI a = true from hwh] at h; cases h)] at HP
          have hi := fun w => ris_any (s.extract k (k + n)) w (by rw [hxz]; omega)
          rw [hxl, at_is hat, hwh] at hi
          have HI := Lib.hid hi
          have HX := Lib.hid hxl
          have HS := Lib.hid HS
          have HM := Lib.hid hmd
          clear hat hnum hok hmk hmd hxl hi
          go_wp2
          have hwk : IntKind.i64.wrap ((k : Int) + n) = (k : Int) + n := by rw [IntKind.wrap_i64]; omega
          have hw0 : (0 : Int) ≤ (k : Int) + n := by omega
          have hw1 : (k : Int) + n ≤ s.size := by omega
          have hw2 : (k : Int) ≤ (k : Int) + n := by omega
          have hw3 : ((k : Int) + n).toNat = k + n := by omega
          go_still_tail 11, (by kernel_rfl)
          change wpList _ _ _ _ _ wr.drew
          go_upto_region 15 with (first
            | (go_at_call 42
               go_must (
                 refine (HS.out _).mono ?_
                 rintro e w3 ⟨rfl, hb⟩
                 have M3 := HM.out.stay hb
                 obtain ⟨v0, v1, v2, v3, v4, v5, u0, u1, u2, u3, u4, u5⟩ := leaf_facts M3.val
                 clear hb))
            | (go_at_call 43; refine (HI.out _).mono ?_; rintro e w' ⟨rfl, rfl⟩))
          have M5 := M3.done ((k : Int) + n) (s.extract k (k + n)) ((k : Int) + n)
          obtain ⟨p0, p1, p2, p3, p4, p5, p6, p7, p8, f0, f1, f2, f3, f4, f5, f6, f7, f8⟩ := nine_facts ((M3.part.past (p := ⟨W.heap.size + 1, 2, none⟩) (by simp) (.int .i64 ((k : Int) + n))).past (p := ⟨W.heap.size + 1, 3, none⟩) (by simp) (.string (s.extract k (k + n))))
          obtain ⟨hO, hT⟩ := M5
          unfold put9 at hO hT
          have HO := Lib.hid hO
          have HT := Lib.hid hT
          clear hO hT
          go_wp2
          refine bodyPost_ret (results_cell_row rfl _ _ W.heap.size _ _ (0, 0) _ rfl HO.out Try.underlying44 rfl part_size) rfl ?_
          rw [← HP.out]
          exact ⟨leafV 2 k (k + n) ((s.data.toList.drop k).take n), (by rw [← HX.out]; rfl), (fun _ _ => leaf_is _ _ _ _ _), HT.out⟩
        · rw [han] at hnum HS
          rw [hnum] at HP
          rw [if_pos rfl] at HP
          have HS := Lib.hid HS
          have HM := Lib.hid hmd
          clear hat hnum hok hmk hmd hxl
          go_wp2
          have hwk : IntKind.i64.wrap ((k : Int) + n) = (k : Int) + n := by rw [IntKind.wrap_i64]; omega
          have hw0 : (0 : Int) ≤ (k : Int) + n := by omega
          have hw1 : (k : Int) + n ≤ s.size := by omega
          have hw2 : (k : Int) ≤ (k : Int) + n := by omega
          have hw3 : ((k : Int) + n).toNat = k + n := by omega
          go_still_tail 11, (by kernel_rfl)
          change wpList _ _ _ _ _ wr.drew
          go_wp2_with (first
            | (go_at_call 42
               go_must (
                 refine (HS.out _).mono ?_
                 rintro e w3 ⟨rfl, hb⟩
                 have M3 := HM.out.stay hb
                 obtain ⟨v0, v1, v2, v3, v4, v5, u0, u1, u2, u3, u4, u5⟩ := leaf_facts M3.val))
            | (go_at_call 41
               go_must (
                 refine (HB.out 5 ((k : Int) + n) _).mono ?_
                 rintro e w4 ⟨rfl, hb4⟩
                 obtain ⟨o4, hO, hT⟩ := M3.broke hb4 5 ((k : Int) + n)
                 obtain ⟨p0, p1, p2, p3, p4, p5, p6, p7, p8, f0, f1, f2, f3, f4, f5, f6, f7, f8⟩ := nine_facts o4
                 unfold put9 at hO hT
                 have HO := Lib.hid hO
                 have HT := Lib.hid hT
                 clear hO hT o4 M3 hb hb4)))
          refine bodyPost_ret (results_cell_row rfl _ _ W.heap.size _ _ (0, 0) _ rfl HO.out Try.underlying44 rfl part_size) rfl ?_
          rw [← HP.out]
          exact ⟨leafV 2 k 0 [], rfl, (fun _ _ => leaf_is _ _ _ _ _), HT.out⟩
      · rw [if_pos hok] at hnum
        rw [an_zero hok] at HS
        have hat' := at_take n (by omega) hat (by rw [List.getElem_drop]; exact hok)
        rw [List.getElem_drop] at hat'
        have HS := Lib.hid HS
        have HR := Lib.hid hnum
        have HA := Lib.hid hat'
        have HM := Lib.hid hmd
        clear hat hnum hmk hmd hxl hat'
        go_wp2
        have hwk : IntKind.i64.wrap ((k : Int) + n) = (k : Int) + n := by rw [IntKind.wrap_i64]; omega
        have hw0 : (0 : Int) ≤ (k : Int) + n := by omega
        have hw1 : (k : Int) + n ≤ s.size := by omega
        have hw2 : (k : Int) ≤ (k : Int) + n := by omega
        have hw3 : ((k : Int) + n).toNat = k + n := by omega
        go_still_tail 11, (by kernel_rfl)
        change wpList _ _ _ _ _ wr.drew
        go_wp2_with (go_at_call 42; refine (HS.out _).mono ?_; rintro e w3 ⟨rfl, hb⟩)
        go_roundw
        case rel => exact ⟨n + 1, _, by omega, by go_num, rfl, HA.out, HR.out, HM.out.stay hb⟩
        case measure => simp [intOf]; omega
    · rw [drop_none s (k + n) (by omega)] at hnum
      have hnum : numW 0 (s.data.toList.drop k) 0 = (n, 0, a) := hnum
      rw [hnum] at HP
      rw [if_neg (show ¬ (0 : Int) = 2 by decide)] at HP
      have hi := fun w => ris_any (s.extract k (k + n)) w (by rw [hxz]; omega)
      rw [hxl, at_is hat] at hi
      have HX := Lib.hid hxl
      have M3 := hmk
      obtain ⟨v0, v1, v2, v3, v4, v5, u0, u1, u2, u3, u4, u5⟩ := leaf_facts M3.val
      cases cl
      · rw [if_pos (.inl ⟨rfl, rfl⟩)] at HP
        clear hat hnum hmk hxl hi
        go_wp2_with (first
          | (go_at_call 41
             go_must (
               refine (HB.out 10 s.size _).mono ?_
               rintro e w4 ⟨rfl, hb4⟩
               obtain ⟨o4, hO, hT⟩ := M3.broke hb4 10 s.size
               obtain ⟨p0, p1, p2, p3, p4, p5, p6, p7, p8, f0, f1, f2, f3, f4, f5, f6, f7, f8⟩ := nine_facts o4
               unfold put9 at hO hT
               have HO := Lib.hid hO
               have HT := Lib.hid hT
               clear hO hT o4 M3 hb4)))
        refine bodyPost_ret (results_cell_row rfl _ _ W.heap.size _ _ (0, 0) _ rfl HO.out Try.underlying44 rfl part_size) rfl ?_
        rw [← HP.out]
        exact ⟨leafV 2 k 0 [], rfl, (fun _ _ => leaf_is _ _ _ _ _), HT.out⟩
      · cases hwh : whI a
        · rw [hwh] at hi
          rw [if_pos (.inr hwh)] at HP
          have HI := Lib.hid hi
          clear hat hnum hmk hxl hi hwh
          go_wp2_with (first
            | (go_at_call 43; refine (HI.out _).mono ?_; rintro e w' ⟨rfl, rfl⟩)
            | (go_at_call 41
               go_must (
                 refine (HB.out 10 s.size _).mono ?_
                 rintro e w4 ⟨rfl, hb4⟩
                 obtain ⟨o4, hO, hT⟩ := M3.broke hb4 10 s.size
                 obtain ⟨p0, p1, p2, p3, p4, p5, p6, p7, p8, f0, f1, f2, f3, f4, f5, f6, f7, f8⟩ := nine_facts o4
                 unfold put9 at hO hT
                 have HO := Lib.hid hO
                 have HT := Lib.hid hT
                 clear hO hT o4 M3 hb4)))
          refine bodyPost_ret (results_cell_row rfl _ _ W.heap.size _ _ (0, 0) _ rfl HO.out Try.underlying44 rfl part_size) rfl ?_
          rw [← HP.out]
          exact ⟨leafV 2 k 0 [], rfl, (fun _ _ => leaf_is _ _ _ _ _), HT.out⟩
        · rw [hwh] at hi
          rw [if_neg (by rintro (⟨h, _⟩ | h); cases h; rw [hwh] at h; cases h)] at HP
          have HI := Lib.hid hi
          clear hat hnum hmk hxl hi hwh
          obtain ⟨v0, v1, v2, v3, v4, v5, u0, u1, u2, u3, u4, u5⟩ := leaf_facts M3.val
          go_upto_region 15 with (go_at_call 43; refine (HI.out _).mono ?_; rintro e w' ⟨rfl, rfl⟩)
          have M5 := M3.done ((k : Int) + n) (s.extract k (k + n)) ((k : Int) + n)
          obtain ⟨p0, p1, p2, p3, p4, p5, p6, p7, p8, f0, f1, f2, f3, f4, f5, f6, f7, f8⟩ := nine_facts ((M3.part.past (p := ⟨W.heap.size + 1, 2, none⟩) (by simp) (.int .i64 ((k : Int) + n))).past (p := ⟨W.heap.size + 1, 3, none⟩) (by simp) (.string (s.extract k (k + n))))
          obtain ⟨hO, hT⟩ := M5
          unfold put9 at hO hT
          have HO := Lib.hid hO
          have HT := Lib.hid hT
          clear hO hT
          go_wp2
          refine bodyPost_ret (results_cell_row rfl _ _ W.heap.size _ _ (0, 0) _ rfl HO.out Try.underlying44 rfl part_size) rfl ?_
          rw [← HP.out]
          exact ⟨leafV 2 k (k + n) ((s.data.toList.drop k).take n), (by rw [← HX.out]; rfl), (fun _ _ => leaf_is _ _ _ _ _), HT.out⟩

end Go.Proofs.Ytaklbbkjhbkieaa

namespace Go.Proofs.Ytaklbbkjhbkieaa
open Go.RowKit
set_option linter.unusedVariables false

theorem rkindR_at (x : ByteArray) (h : refL x.data.toList = 1) (w : World) :
    Calls Try.prog 45 #[.string x] w fun e w' => e = .returned (.tuple #[.int .i64 (if x.data.toList = lN then 0 else 1), .bool true]) ∧ w = w' := by
  rcases ref_one h with h | h | h
  · obtain rfl : x = wT := ba_ext h
    rw [if_neg (by rw [h]; decide)]
    exact rkind_t w
  · obtain rfl : x = wF := ba_ext h
    rw [if_neg (by rw [h]; decide)]
    exact rkind_f w
  · obtain rfl : x = wN := ba_ext h
    rw [if_pos h]
    exact rkind_n w
theorem wordW_cons (s : ByteArray) (j : Nat) (h : j < s.size) (p : List UInt8) : wordW p (s.data.toList.drop j) = if refL (p ++ [s[j]]) = 0 then wordW (p ++ [s[j]]) (s.data.toList.drop (j + 1)) else (p.length, refL (p ++ [s[j]])) := by
  rw [drop_at s j h]
  rfl
theorem refL_cases (l : List UInt8) : refL l = 0 ∨ refL l = 1 ∨ refL l = 2 := by
  unfold refL
  have a := hit_cases lT l
  have b := hit_cases lF l
  have c := hit_cases lN l
  (repeat' split) <;> omega
theorem wtake_snoc (s : ByteArray) (k n : Nat) (h : k + n < s.size) : (s.data.toList.drop k).take n ++ [s[k + n]] = (s.data.toList.drop k).take (n + 1) := by
  have hl : n < (s.data.toList.drop k).length := by rw [List.length_drop]; show n < s.size - k; omega
  rw [List.take_succ_eq_append_getElem hl, List.getElem_drop]
  rfl
/-- A word's part is written: the text, the end, the kind. -/
theorem Mk.word {W w : World} {kd fr : Int} (h : Mk W kd fr w) (kd' t : Int) (tx : ByteArray) (k : Int) :
    Own (put9 (((w.setCell ⟨W.heap.size + 1, 3, none⟩ (.string tx)).setCell ⟨W.heap.size + 1, 2, none⟩ (.int .i64 t)).setCell ⟨W.heap.size + 1, 0, none⟩ (.int .i64 kd')) W.heap.size kd' fr t tx none 0 0 none 0 0 true k 0) W.heap.size 44 (cells9 kd' fr t tx none 0 0 none 0 0 true k 0) ∧
    Below W.heap.size W (put9 (((w.setCell ⟨W.heap.size + 1, 3, none⟩ (.string tx)).setCell ⟨W.heap.size + 1, 2, none⟩ (.int .i64 t)).setCell ⟨W.heap.size + 1, 0, none⟩ (.int .i64 kd')) W.heap.size kd' fr t tx none 0 0 none 0 0 true k 0) :=
  ⟨put9_own (((h.part.past (by simp) _).past (by simp) _).past (by simp) _) _ _ _ _ _ _ _ _ _ _ _ _ _,
   put9_below (((h.bel.setCell (p := ⟨W.heap.size + 1, 3, none⟩) (Nat.le_succ _) _).setCell (p := ⟨W.heap.size + 1, 2, none⟩) (Nat.le_succ _) _).setCell (p := ⟨W.heap.size + 1, 0, none⟩) (Nat.le_succ _) _) _ _ _ _ _ _ _ _ _ _ _ _ _⟩

def RelWd (s : ByteArray) (k : Nat) (W wr : World) (v : Value) : Prop :=
  ∃ n : Nat, k + n ≤ s.size ∧ v = .int .i64 n ∧ wordW [] (s.data.toList.drop k) = wordW ((s.data.toList.drop k).take n) (s.data.toList.drop (k + n)) ∧ Mk W 0 k wr

set_option maxHeartbeats 16000000 in
set_option maxRecDepth 100000 in
theorem rwordR_any (s : ByteArray) (k : Nat) (hs : s.size ≤ 50000) (hk : k < s.size) (W : World) (P : PartR) (hP : wordR s.data.toList k = P) :
    Calls Try.prog 28 #[.string s, .int .i64 k] W fun e w' => PartP W P e w' := by
  have hsl : s.data.toList.length = s.size := rfl
  have HB := Lib.hid (fun (kk f : Int) (w : World) => rbroken_any 0 k 0 ⟨#[]⟩ none 0 0 none 0 0 kk f w)
  unfold wordR at hP
  have HP := Lib.hid hP
  clear hP
  go_enter Try.func28, Try.ntmps28
  go_wp2
  go_loopw [6] (fun v wr => RelWd s k W wr v) (fun v _ => s.size - k - (intOf v).toNat)
  case atStart => exact ⟨0, by omega, rfl, rfl, Mk.start W 0 k⟩
  case round =>
    obtain ⟨n, hkn, rfl, hww, hmk⟩ := hrel
    have hxl : (s.extract k (k + n)).data.toList = (s.data.toList.drop k).take n := part_is s k n
    have hxz : (s.extract k (k + n)).size = n := by rw [ByteArray.size_extract]; omega
    have hdl : (s.data.toList.drop k).length = s.size - k := by rw [List.length_drop, hsl]
    have htl : ((s.data.toList.drop k).take n).length = n := by rw [List.length_take, hdl]; omega
    by_cases hlt : k + n < s.size
    · rw [wordW_cons s (k + n) hlt, wtake_snoc s k n hlt, htl] at hww
      have HS := fun w => rstep_any (s.extract k (k + n)) s[k + n] w (by rw [hxz]; omega)
      rw [hxl, wtake_snoc s k n hlt] at HS
      have hmd := hmk.drew
      rcases refL_cases ((s.data.toList.drop k).take (n + 1)) with h0 | h1 | h2
      · rw [if_pos h0] at hww
        rw [h0] at HS
        have HS := Lib.hid HS
        have HR := Lib.hid hww
        have HM := Lib.hid hmd
        clear hww hmk hmd hxl h0 htl
        go_wp2
        have hwk : IntKind.i64.wrap ((k : Int) + n) = (k : Int) + n := by rw [IntKind.wrap_i64]; omega
        have hw0 : (0 : Int) ≤ (k : Int) + n := by omega
        have hw1 : (k : Int) + n ≤ s.size := by omega
        have hw2 : (k : Int) ≤ (k : Int) + n := by omega
        have hw3 : ((k : Int) + n).toNat = k + n := by omega
        go_still_tail 11, (by kernel_rfl)
        change wpList _ _ _ _ _ wr.drew
        go_wp2_with (go_at_call 44; refine (HS.out _).mono ?_; rintro e w3 ⟨rfl, hb⟩)
        go_roundw
        case rel => exact ⟨n + 1, by omega, by go_num, HR.out, HM.out.stay hb⟩
        case measure => simp [intOf]; omega
      · have hyl : (s.extract k (k + n + 1)).data.toList = (s.data.toList.drop k).take (n + 1) := part_is s k (n + 1)
        have HK := fun w => rkindR_at (s.extract k (k + n + 1)) (by rw [hyl]; exact h1) w
        rw [hyl] at HK
        have HY := Lib.hid hyl
        rw [h1] at hww HS
        rw [if_neg (by decide)] at hww
        rw [hww] at HP
        rw [if_neg (show ¬ (1 : Int) = 2 by decide), if_neg (show ¬ (1 : Int) = 0 by decide)] at HP
        obtain ⟨kd, hkd⟩ : ∃ kd : Int, (if (s.data.toList.drop k).take (n + 1) = lN then (0 : Int) else 1) = kd := ⟨_, rfl⟩
        have hP2 : (⟨.mk kd k (k + n + 1) ((s.data.toList.drop k).take (n + 1)) [] [], true, k + n + 1, 0⟩ : PartR) = P := by rw [← hkd]; exact HP.out
        have HP2 := Lib.hid hP2
        rw [hkd] at HK
        have HK := Lib.hid HK
        have HS := Lib.hid HS
        have HM := Lib.hid hmd
        clear hww hmk hmd hxl h1 htl hyl hkd hP2 HP
        go_wp2
        have hwk : IntKind.i64.wrap ((k : Int) + n) = (k : Int) + n := by rw [IntKind.wrap_i64]; omega
        have hw0 : (0 : Int) ≤ (k : Int) + n := by omega
        have hw1 : (k : Int) + n ≤ s.size := by omega
        have hw2 : (k : Int) ≤ (k : Int) + n := by omega
        have hw3 : ((k : Int) + n).toNat = k + n := by omega
        go_still_tail 11, (by kernel_rfl)
        change wpList _ _ _ _ _ wr.drew
        go_upto_region 12 with (first
          | (go_at_call 44
             go_must (
               refine (HS.out _).mono ?_
               rintro e w3 ⟨rfl, hb⟩
               have M3 := HM.out.stay hb
               obtain ⟨v0, v1, v2, v3, v4, v5, u0, u1, u2, u3, u4, u5⟩ := leaf_facts M3.val
               clear hb))
          | (go_at_call 45; refine (HK.out _).mono ?_; rintro e w' ⟨rfl, rfl⟩))
        have M5 := M3.word kd ((k : Int) + n + 1) (s.extract k (k + n + 1)) ((k : Int) + n + 1)
        obtain ⟨p0, p1, p2, p3, p4, p5, p6, p7, p8, f0, f1, f2, f3, f4, f5, f6, f7, f8⟩ := nine_facts (((M3.part.past (p := ⟨W.heap.size + 1, 3, none⟩) (by simp) (.string (s.extract k (k + n + 1)))).past (p := ⟨W.heap.size + 1, 2, none⟩) (by simp) (.int .i64 ((k : Int) + n + 1))).past (p := ⟨W.heap.size + 1, 0, none⟩) (by simp) (.int .i64 kd))
        obtain ⟨hO, hT⟩ := M5
        unfold put9 at hO hT
        have HO := Lib.hid hO
        have HT := Lib.hid hT
        clear hO hT
        go_wp2
        refine bodyPost_ret (results_cell_row rfl _ _ W.heap.size _ _ (0, 0) _ rfl HO.out Try.underlying44 rfl part_size) rfl ?_
        rw [← HP2.out]
        exact ⟨leafV kd k (k + n + 1) ((s.data.toList.drop k).take (n + 1)), (by rw [← HY.out]; rfl), (fun _ _ => leaf_is _ _ _ _ _), HT.out⟩
      · rw [h2] at hww HS
        rw [if_neg (by decide)] at hww
        rw [hww] at HP
        rw [if_pos rfl] at HP
        have HS := Lib.hid HS
        have HM := Lib.hid hmd
        clear hww hmk hmd hxl h2 htl
        go_wp2
        have hwk : IntKind.i64.wrap ((k : Int) + n) = (k : Int) + n := by rw [IntKind.wrap_i64]; omega
        have hw0 : (0 : Int) ≤ (k : Int) + n := by omega
        have hw1 : (k : Int) + n ≤ s.size := by omega
        have hw2 : (k : Int) ≤ (k : Int) + n := by omega
        have hw3 : ((k : Int) + n).toNat = k + n := by omega
        go_still_tail 11, (by kernel_rfl)
        change wpList _ _ _ _ _ wr.drew
        go_wp2_with (first
          | (go_at_call 44
             go_must (
               refine (HS.out _).mono ?_
               rintro e w3 ⟨rfl, hb⟩
               have M3 := HM.out.stay hb
               obtain ⟨v0, v1, v2, v3, v4, v5, u0, u1, u2, u3, u4, u5⟩ := leaf_facts M3.val))
          | (go_at_call 41
             go_must (
               refine (HB.out 6 ((k : Int) + n) _).mono ?_
               rintro e w4 ⟨rfl, hb4⟩
               obtain ⟨o4, hO, hT⟩ := M3.broke hb4 6 ((k : Int) + n)
               obtain ⟨p0, p1, p2, p3, p4, p5, p6, p7, p8, f0, f1, f2, f3, f4, f5, f6, f7, f8⟩ := nine_facts o4
               unfold put9 at hO hT
               have HO := Lib.hid hO
               have HT := Lib.hid hT
               clear hO hT o4 M3 hb hb4)))
        refine bodyPost_ret (results_cell_row rfl _ _ W.heap.size _ _ (0, 0) _ rfl HO.out Try.underlying44 rfl part_size) rfl ?_
        rw [← HP.out]
        exact ⟨leafV 0 k 0 [], rfl, (fun _ _ => leaf_is _ _ _ _ _), HT.out⟩
    · rw [drop_none s (k + n) (by omega)] at hww
      have hww : wordW [] (s.data.toList.drop k) = (n, 0) := by rw [hww]; show (((s.data.toList.drop k).take n).length, _) = _; rw [htl]
      rw [hww] at HP
      rw [if_neg (show ¬ (0 : Int) = 2 by decide), if_pos rfl] at HP
      have M3 := hmk
      obtain ⟨v0, v1, v2, v3, v4, v5, u0, u1, u2, u3, u4, u5⟩ := leaf_facts M3.val
      clear hww hmk hxl htl
      go_wp2_with (first
        | (go_at_call 41
           go_must (
             refine (HB.out 10 s.size _).mono ?_
             rintro e w4 ⟨rfl, hb4⟩
             obtain ⟨o4, hO, hT⟩ := M3.broke hb4 10 s.size
             obtain ⟨p0, p1, p2, p3, p4, p5, p6, p7, p8, f0, f1, f2, f3, f4, f5, f6, f7, f8⟩ := nine_facts o4
             unfold put9 at hO hT
             have HO := Lib.hid hO
             have HT := Lib.hid hT
             clear hO hT o4 M3 hb4)))
      refine bodyPost_ret (results_cell_row rfl _ _ W.heap.size _ _ (0, 0) _ rfl HO.out Try.underlying44 rfl part_size) rfl ?_
      rw [← HP.out]
      exact ⟨leafV 0 k 0 [], rfl, (fun _ _ => leaf_is _ _ _ _ _), HT.out⟩

end Go.Proofs.Ytaklbbkjhbkieaa
