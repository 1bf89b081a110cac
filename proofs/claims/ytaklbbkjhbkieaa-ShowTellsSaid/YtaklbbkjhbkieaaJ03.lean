/- The contract of the document's Put for layer 6 (riffleref06). -/
import Derived.Test.YtaklbbkjhbkieaaJ02
namespace Go.Proofs.Ytaklbbkjhbkieaa
open Go.RowKit

theorem put_step (l : List UInt8) (k f : Nat) (hk : k < l.length) (hf : l.length - k ≤ f) : ∃ g, f = g + 1 ∧ putGo f (l.drop k) = pieceP (l.drop k) (sgnL (l.drop k)) ++ putGo g (l.drop (k + goOn (sgnL (l.drop k)))) := by
  obtain ⟨g, rfl⟩ : ∃ g, f = g + 1 := ⟨f - 1, by omega⟩
  refine ⟨g, rfl, ?_⟩
  conv => lhs; unfold putGo
  rw [if_neg (by intro e; have := congrArg List.length e; simp at this; omega), List.drop_drop]

theorem sgnGo_cons (sg lf : Int) (l : List UInt8) (j m : Nat) (h : j < l.length) : sgnGo sg lf (l.drop j) m = if okU sg lf l[j].toNat then (if lfU lf l[j].toNat = 0 then m + 1 else sgnGo (sgU sg lf l[j].toNat) (lfU lf l[j].toNat) (l.drop (j + 1)) (m + 1)) else 0 := by
  rw [List.drop_eq_getElem_cons h]; rfl
theorem pieceP_zero (l : List UInt8) (k : Nat) (h : k < l.length) : pieceP (l.drop k) 0 = stranger := by
  rw [List.drop_eq_getElem_cons h]; rfl
/-- Constants that were just laid out. -/
theorem lit_rd (w : World) (cs : Array Value) (news : List UInt8) (h : cs = (byteCells news).toArray) : Rd (w.alloc (.cells cs 5)) (w.heap.size + 1) (some ⟨w.heap.size, 0, none⟩) news.length (byteCells news) := by
  subst h
  exact Rd.of_list (Own.fresh w 5 _) (byteCells_length news)

def ysL : List UInt8 := [34, 92, 8, 12, 10, 13, 9]
/-- What Put has found of a byte's escape behind j letters. -/
def escTo (c : UInt8) (j : Nat) : Int := if c ∈ ysL.take j then ((escB c).toNat : Int) else 0
theorem escTo_no (c : UInt8) (j : Nat) (y : UInt8) (hj : ysL[j]? = some y) (h : c ≠ y) : escTo c (j + 1) = escTo c j := by
  obtain ⟨hl, hy⟩ := List.getElem?_eq_some_iff.1 hj
  unfold escTo
  rw [List.take_succ_eq_append_getElem hl, hy]
  by_cases hc : c ∈ ysL.take j
  · rw [if_pos hc, if_pos (List.mem_append_left _ hc)]
  · rw [if_neg hc, if_neg (by rw [List.mem_append]; rintro (h' | h'); exact hc h'; exact h (List.mem_singleton.1 h'))]
theorem escTo_yes (c : UInt8) (j : Nat) (y : UInt8) (hj : ysL[j]? = some y) (h : c = y) : escTo c (j + 1) = (escB y).toNat := by
  obtain ⟨hl, hy⟩ := List.getElem?_eq_some_iff.1 hj
  unfold escTo
  rw [List.take_succ_eq_append_getElem hl, hy, if_pos (by rw [h]; exact List.mem_append_right _ (List.mem_singleton.2 rfl)), h]
theorem escTo_end (c : UInt8) : escTo c 7 = (escB c).toNat := by
  unfold escTo
  by_cases hc : c ∈ ysL.take 7
  · rw [if_pos hc]
  · rw [if_neg hc]
    have : escB c = 0 := by
      by_cases h : escB c = 0
      · exact h
      · exfalso
        apply hc
        rcases esc_cases h with rfl | rfl | rfl | rfl | rfl | rfl | rfl <;> decide
    rw [this]; rfl
theorem piece_esc (l : List UInt8) (k m : Nat) (h : k < l.length) (hm : m ≠ 0) (he : escB l[k] ≠ 0) : pieceP (l.drop k) m = [92, escB l[k]] := by
  rw [List.drop_eq_getElem_cons h]
  show (if m = 0 then _ else if escB l[k] ≠ 0 then _ else _) = _
  rw [if_neg hm, if_pos he]
theorem piece_ctl (l : List UInt8) (k m : Nat) (h : k < l.length) (hm : m ≠ 0) (he : escB l[k] = 0) (hc : l[k].toNat < 32) : pieceP (l.drop k) m = [92, 117, 48, 48, lowB (l[k].toNat / 16), lowB (l[k].toNat % 16)] := by
  rw [List.drop_eq_getElem_cons h]
  show (if m = 0 then _ else if escB l[k] ≠ 0 then _ else if l[k].toNat < 32 then _ else _) = _
  rw [if_neg hm, if_neg (by simp [he]), if_pos hc]
theorem piece_raw (l : List UInt8) (k m : Nat) (h : k < l.length) (hm : m ≠ 0) (he : escB l[k] = 0) (hc : ¬ l[k].toNat < 32) : pieceP (l.drop k) m = (l.drop k).take m := by
  rw [List.drop_eq_getElem_cons h]
  show (if m = 0 then _ else if escB l[k] ≠ 0 then _ else if l[k].toNat < 32 then _ else _) = _
  rw [if_neg hm, if_neg (by simp [he]), if_neg hc]
theorem sgn_long (l : List UInt8) (k m : Nat) (h : k < l.length) (hs : sgnL (l.drop k) = m) (hm : 2 ≤ m) : 128 ≤ l[k].toNat := by
  by_cases hc : l[k].toNat < 128
  · rw [List.drop_eq_getElem_cons h, sgn_small _ _ hc] at hs
    omega
  · omega
theorem esc_long {c : UInt8} (h : 128 ≤ c.toNat) : escB c = 0 := by
  by_cases he : escB c = 0
  · exact he
  · exfalso
    rcases esc_cases he with rfl | rfl | rfl | rfl | rfl | rfl | rfl <;> revert h <;> decide
theorem part_is (s : ByteArray) (k m : Nat) : (s.extract k (k + m)).data.toList = (s.data.toList.drop k).take m := by
  rw [ByteArray.data_extract, Array.toList_extract, List.extract_eq_take_drop]
  congr 1
  omega

def ltV : List Value := [.int .u8 34, .int .u8 92, .int .u8 98, .int .u8 102, .int .u8 110, .int .u8 114, .int .u8 116]
/-- Where the search for an escape is. -/
def RelEs (c : UInt8) (b : Nat) (w0 w : World) (e i : Value) : Prop :=
  ∃ j : Nat, j ≤ 7 ∧ i = .int .i64 j ∧ e = .int .u8 (escTo c j) ∧ Own w b 5 ltV.toArray ∧ Below w0.heap.size w0 w

/-- Where the search for a sign's end is: m bytes are looked at. -/
def RelSg (s : ByteArray) (k : Nat) (wr w : World) (n i : Value) : Prop :=
  (∃ (m : Nat) (sg lf : Int), k + m ≤ s.size ∧ n = .int .i64 0 ∧ i = .int .i64 ((k + m + 1 : Nat) : Int) ∧ InvL ((s.data.toList.take (k + m)).drop k) sg lf ∧ StU sg lf ∧
    sgnL (s.data.toList.drop k) = sgnGo sg lf (s.data.toList.drop (k + m)) m ∧ Below wr.heap.size wr w) ∨
  (∃ m : Nat, 1 ≤ m ∧ k + m ≤ s.size ∧ n = .int .i64 m ∧ i = .int .i64 ((k + m + 1 : Nat) : Int) ∧ sgnL (s.data.toList.drop k) = m ∧ Below wr.heap.size wr w)

/-- Where Put's loop is. -/
def RelPut (s : ByteArray) (W wr : World) (o a : Value) : Prop :=
  ∃ (k f : Nat) (d : List UInt8), k ≤ s.size ∧ a = .int .i64 k ∧ Buf wr W.heap.size o (34 :: d) ∧ d.length ≤ 6 * k ∧ s.size - k ≤ f ∧ putL s.data.toList = d ++ putGo f (s.data.toList.drop k) ∧ Below W.heap.size W wr

set_option maxRecDepth 100000 in
set_option maxHeartbeats 8000000 in
theorem rput_any (s : ByteArray) (W : World) (hs : s.size ≤ 1000) :
    Calls Try.prog 14 #[.string s] W fun e w' => e = .returned (.string ⟨(34 :: putL s.data.toList ++ [34]).toArray⟩) ∧ Below W.heap.size W w' := by
  have hsl : s.data.toList.length = s.size := rfl
  go_enter Try.func14, Try.ntmps14
  go_wp2
  go_loopw [3, 4] (fun o a wr => RelPut s W wr o a) (fun _ a _ => s.size - (intOf a).toNat)
  case atStart => exact ⟨0, s.size, [], Nat.zero_le _, rfl, Buf.made W _ [34] rfl (by simp [maxLen]) (Nat.le_refl _), by simp, by omega, rfl, (Below.refl _ _).alloc (Nat.le_refl _) _⟩
  case round =>
    obtain ⟨k, f, d, hk, rfl, hbuf, hd, hf, hput, hbel⟩ := hrel
    by_cases hlt : k < s.size
    · obtain ⟨g, rfl, hstep⟩ := put_step s.data.toList k f (by omega) (by omega)
      rw [hstep] at hput
      have HP := Lib.hid hput
      clear hput hstep hsl
      go_wp2
      go_loopw [5, 6] (fun n i w => RelSg s k wr w n i) (fun _ i _ => s.size + 2 - (intOf i).toNat)
      case atStart => exact .inl ⟨0, 0, 0, by omega, rfl, rfl, (by rw [Nat.add_zero, List.drop_of_length_le (by simp; omega)]; rfl), stU_zero, rfl, Below.refl _ _⟩
      case round =>
        rcases hrel with ⟨m, sg, lf, hm, rfl, rfl, hinv, hst, hsg, hb2⟩ | ⟨m, hm1, hm, rfl, rfl, hsg, hb2⟩
        · by_cases hlt2 : k + m < s.size
          · have hl2 : k + m < s.data.toList.length := hlt2
            have hp := part_snoc s k (k + m) (by omega) hlt2
            rw [sgnGo_cons _ _ _ _ _ hl2, show s.data.toList[k + m] = s[k + m] from rfl] at hsg
            have q1 : k ≤ k + m + 1 := by omega
            have q2 : k + m + 1 ≤ s.size := by omega
            by_cases hok : okU sg lf s[k + m].toNat = true
            · have hst' := Lib.hid (stU_step hst (Int.natCast_nonneg _) hok)
              have hinv' := invL_step hinv hok
              rw [if_pos hok] at hsg
              by_cases hz : lfU lf s[k + m].toNat = 0
              · have HB := Lib.hid (fun w => rbegins_step _ _ _ _ _ hp hinv w (x := true) (y := true) (z := sgU sg lf s[k + m].toNat) (by unfold ansU; rw [if_pos hok, if_pos hz]))
                rw [if_pos hz] at hsg
                have HS := Lib.hid hsg
                clear hinv' hinv hsg hp hok hz
                go_wp2_with (go_at_call 21; refine (HB.out _).mono ?_; rintro e w' ⟨rfl, hb⟩)
                go_roundw
                case rel => exact .inr ⟨m + 1, by omega, by omega, by go_num, by go_num, HS.out, hb2.trans (hb.mono hb2.size)⟩
                case measure => simp [intOf]; omega
              · have HB := Lib.hid (fun w => rbegins_step _ _ _ _ _ hp hinv w (x := true) (y := false) (z := 0) (by unfold ansU; rw [if_pos hok, if_neg hz]))
                rw [if_neg hz] at hsg hinv'
                have HI := Lib.hid hinv'
                have HS := Lib.hid hsg
                clear hinv' hinv hsg hp hok hz
                go_wp2_with (go_at_call 21; refine (HB.out _).mono ?_; rintro e w' ⟨rfl, hb⟩)
                go_roundw
                case rel => exact .inl ⟨m + 1, _, _, by omega, rfl, by go_num, (by rw [← Nat.add_assoc, List.take_succ_eq_append_getElem hl2, List.drop_append_of_le_length (by simp; omega)]; exact HI.out), hst'.out, HS.out, hb2.trans (hb.mono hb2.size)⟩
                case measure => simp [intOf]; omega
            · have HB := Lib.hid (fun w => rbegins_step _ _ _ _ _ hp hinv w (x := false) (y := false) (z := 0) (by unfold ansU; rw [if_neg hok]))
              rw [if_neg hok] at hsg
              have HS := Lib.hid hsg
              clear hinv hsg hp hok
              go_wp2_with (first
                | (go_at_call 21; refine (HB.out _).mono ?_; rintro e w3 ⟨rfl, hb⟩
                   have hb3 := hb2.trans (hb.mono hb2.size)
                   have hbuf3 := hbuf.stay (hb3.alloc hb3.size (.cells #[.int .u8 239, .int .u8 191, .int .u8 189] 5)) (Nat.le_refl _)
                   have hrd3 := lit_rd w3 #[.int .u8 239, .int .u8 191, .int .u8 189] stranger rfl
                   have hz3 : W.heap.size ≤ (w3.alloc (.cells #[.int .u8 239, .int .u8 191, .int .u8 189] 5)).heap.size := Nat.le_trans hbel.size (hb3.alloc hb3.size _).size)
                | (at_builtin
                   go_must (
                     refine buf_append _ rfl (.tmp 51) (.tmp 52) rfl W.heap.size _ (34 :: d) rfl hbuf3 _ _ 3 _ stranger rfl hrd3 (by simp; omega) hz3 ?_
                     intro v4 w4 hbuf4 hb4
                     have hb4' := ((hbel.trans (hb3.mono hbel.size)).alloc (Nat.le_trans hbel.size hb3.size) (.cells #[.int .u8 239, .int .u8 191, .int .u8 189] 5)).trans hb4)))
              go_roundw
              case rel => exact ⟨k + 1, g, d ++ stranger, by omega, by go_num, hbuf4, (by simp [stranger]; omega), by omega, (by have := HP.out; rw [HS.out, pieceP_zero _ _ (show k < s.data.toList.length from hlt)] at this; rw [this, List.append_assoc]; rfl), hb4'⟩
              case measure => simp [intOf]; omega
          · have hm' : k + m = s.size := by omega
            have HS := Lib.hid (show sgnL (s.data.toList.drop k) = 0 by rw [hsg, List.drop_of_length_le (show s.data.toList.length ≤ k + m from by rw [hm']; exact Nat.le_refl _)]; rfl)
            have hb3 := hb2
            have hbuf3 := hbuf.stay (hb3.alloc hb3.size (.cells #[.int .u8 239, .int .u8 191, .int .u8 189] 5)) (Nat.le_refl _)
            have hrd3 := lit_rd wr #[.int .u8 239, .int .u8 191, .int .u8 189] stranger rfl
            have hz3 := Nat.le_trans hbel.size (hb3.alloc hb3.size (.cells #[.int .u8 239, .int .u8 191, .int .u8 189] 5)).size
            clear hsg hinv hm'
            go_wp2_with (first
              | (at_builtin
                 go_must (
                   refine buf_append _ rfl (.tmp 51) (.tmp 52) rfl W.heap.size _ (34 :: d) rfl hbuf3 _ _ 3 _ stranger rfl hrd3 (by simp; omega) hz3 ?_
                   intro v4 w4 hbuf4 hb4
                   have hb4' := ((hbel.trans (hb3.mono hbel.size)).alloc (Nat.le_trans hbel.size hb3.size) (.cells #[.int .u8 239, .int .u8 191, .int .u8 189] 5)).trans hb4)))
            go_roundw
            case rel => exact ⟨k + 1, g, d ++ stranger, by omega, by go_num, hbuf4, (by simp [stranger]; omega), by omega, (by have := HP.out; rw [HS.out, pieceP_zero _ _ (show k < s.data.toList.length from hlt)] at this; rw [this, List.append_assoc]; rfl), hb4'⟩
            case measure => simp [intOf]; omega
        · have hne0 : ((m : Int) == 0) = false := beq_eq_false_iff_ne.2 (by omega)
          have hl : k < s.data.toList.length := hlt
          have hsk : s.data.toList[k] = s[k] := rfl
          have HS := Lib.hid hsg
          have hlongI : 2 ≤ m → 128 ≤ s[k].toNat := fun h => by have := sgn_long _ k m hl hsg h; rwa [hsk] at this
          clear hsg
          obtain ⟨q, hq⟩ : ∃ q : Bool, decide (((k + m + 1 : Nat) : Int) ≤ s.size) = q := ⟨_, rfl⟩
          have hq' : decide ((k : Int) + m + 1 ≤ s.size) = q := hq
          by_cases hm2 : 2 ≤ m
          · have hlong := hlongI hm2
            have g1 : ((m : Int) == 1) = false := beq_eq_false_iff_ne.2 (by omega)
            cases q
            all_goals
              go_wp2
              go_loopw [11, 58] (fun e i w => RelEs s[k] wr.heap.size wr w e i) (fun _ i _ => 7 - (intOf i).toNat)
              case atStart => exact ⟨0, by omega, rfl, rfl, Own.fresh wr 5 ltV.toArray, below1 _ _⟩
              case round =>
                obtain ⟨j, hj, rfl, rfl, hown, hb6⟩ := hrel
                have hj' : j = 0 ∨ j = 1 ∨ j = 2 ∨ j = 3 ∨ j = 4 ∨ j = 5 ∨ j = 6 ∨ j = 7 := by omega
                have hin6 := hown.inside
                rcases hj' with rfl | rfl | rfl | rfl | rfl | rfl | rfl | rfl
                case inl =>
                  have c0 := hown.at 0
                  simp [ltV] at c0
                  have HE := Lib.hid (escTo_no s[k] 0 34 rfl (fun e => by rw [e] at hlong; revert hlong; decide))
                  generalize escTo s[k] 0 = ev at *
                  go_wp2
                  go_roundw
                  case rel => exact ⟨1, by omega, rfl, (by rw [HE.out]), hown, hb6⟩
                  case measure => simp [intOf]
                case inr.inl =>
                  have c0 := hown.at 1
                  simp [ltV] at c0
                  have HE := Lib.hid (escTo_no s[k] 1 92 rfl (fun e => by rw [e] at hlong; revert hlong; decide))
                  generalize escTo s[k] 1 = ev at *
                  go_wp2
                  go_roundw
                  case rel => exact ⟨2, by omega, rfl, (by rw [HE.out]), hown, hb6⟩
                  case measure => simp [intOf]
                case inr.inr.inl =>
                  have c0 := hown.at 2
                  simp [ltV] at c0
                  have HE := Lib.hid (escTo_no s[k] 2 8 rfl (fun e => by rw [e] at hlong; revert hlong; decide))
                  generalize escTo s[k] 2 = ev at *
                  go_wp2
                  go_roundw
                  case rel => exact ⟨3, by omega, rfl, (by rw [HE.out]), hown, hb6⟩
                  case measure => simp [intOf]
                case inr.inr.inr.inl =>
                  have c0 := hown.at 3
                  simp [ltV] at c0
                  have HE := Lib.hid (escTo_no s[k] 3 12 rfl (fun e => by rw [e] at hlong; revert hlong; decide))
                  generalize escTo s[k] 3 = ev at *
                  go_wp2
                  go_roundw
                  case rel => exact ⟨4, by omega, rfl, (by rw [HE.out]), hown, hb6⟩
                  case measure => simp [intOf]
                case inr.inr.inr.inr.inl =>
                  have c0 := hown.at 4
                  simp [ltV] at c0
                  have HE := Lib.hid (escTo_no s[k] 4 10 rfl (fun e => by rw [e] at hlong; revert hlong; decide))
                  generalize escTo s[k] 4 = ev at *
                  go_wp2
                  go_roundw
                  case rel => exact ⟨5, by omega, rfl, (by rw [HE.out]), hown, hb6⟩
                  case measure => simp [intOf]
                case inr.inr.inr.inr.inr.inl =>
                  have c0 := hown.at 5
                  simp [ltV] at c0
                  have HE := Lib.hid (escTo_no s[k] 5 13 rfl (fun e => by rw [e] at hlong; revert hlong; decide))
                  generalize escTo s[k] 5 = ev at *
                  go_wp2
                  go_roundw
                  case rel => exact ⟨6, by omega, rfl, (by rw [HE.out]), hown, hb6⟩
                  case measure => simp [intOf]
                case inr.inr.inr.inr.inr.inr.inl =>
                  have c0 := hown.at 6
                  simp [ltV] at c0
                  have HE := Lib.hid (escTo_no s[k] 6 9 rfl (fun e => by rw [e] at hlong; revert hlong; decide))
                  generalize escTo s[k] 6 = ev at *
                  go_wp2
                  go_roundw
                  case rel => exact ⟨7, by omega, rfl, (by rw [HE.out]), hown, hb6⟩
                  case measure => simp [intOf]
                case inr.inr.inr.inr.inr.inr.inr =>
                  have hbS := hb2.trans (hb6.mono hb2.size)
                  have hbW := hbel.trans (hbS.mono hbel.size)
                  have hE : escB s[k] = 0 := esc_long hlong
                  have h32 : ¬ s[k].toNat < 32 := by omega
                  have e7 : escTo s[k] 7 = 0 := by rw [escTo_end, hE]; rfl
                  have g32 : ¬ (s[k].toNat : Int) < 32 := by omega
                  have hk1 : k ≤ k + m := by omega
                  have hk2 : k + m ≤ s.size := hm
                  have hsz : (s.extract k (k + m)).size ≤ 1000 := by simp; omega
                  have hbuf8 := hbuf.stay hbS (Nat.le_refl _)
                  have hz8 : W.heap.size ≤ wr.heap.size := Nat.le_trans hbel.size hbS.size
                  have HPc := Lib.hid (piece_raw s.data.toList k m hl (by omega) hE h32)
                  have HPs := Lib.hid (part_is s k m)
                  have HPl := Lib.hid (show ((s.data.toList.drop k).take m).length ≤ 6 * m by simp; omega)
                  clear hsk hE h32 hown
                  go_wp2_with (first
                    | (at_builtin
                       go_must (
                         refine buf_append_str _ rfl (.tmp 91) (.tmp 97) rfl W.heap.size _ (34 :: d) rfl hbuf8 (s.extract k (k + m)) rfl (by simp only [List.length_cons]; omega) hz8 ?_
                         intro v9 w9 hbuf9 hb9
                         rw [HPs.out] at hbuf9
                         have hb9' := hbW.trans hb9)))
                  go_roundw
                  case rel => exact ⟨k + m, g, d ++ (s.data.toList.drop k).take m, by omega, by go_num, hbuf9, (by simp only [List.length_append]; have : ((s.data.toList.drop k).take m).length ≤ 6 * m := (by exact HPl.out); omega), by omega, (by have := HP.out; rw [HS.out, HPc.out, show goOn m = m from if_neg (by omega)] at this; rw [this, List.append_assoc]; try rfl), hb9'⟩
                  case measure => simp [intOf]; omega
          · have hm3 : m ≤ 1 := by omega
            have g1 : ((m : Int) == 1) = true := beq_iff_eq.2 (by omega)
            clear hlongI hm2
            cases q
            all_goals
              go_wp2
              go_loopw [11, 58] (fun e i w => RelEs s[k] wr.heap.size wr w e i) (fun _ i _ => 7 - (intOf i).toNat)
              case atStart => exact ⟨0, by omega, rfl, rfl, Own.fresh wr 5 ltV.toArray, below1 _ _⟩
              case round =>
                obtain ⟨j, hj, rfl, rfl, hown, hb6⟩ := hrel
                have hj' : j = 0 ∨ j = 1 ∨ j = 2 ∨ j = 3 ∨ j = 4 ∨ j = 5 ∨ j = 6 ∨ j = 7 := by omega
                have hin6 := hown.inside
                rcases hj' with rfl | rfl | rfl | rfl | rfl | rfl | rfl | rfl
                case inl =>
                  have c0 := hown.at 0
                  simp [ltV] at c0
                  have KL := Lib.hid rlet_34
                  by_cases hc : s[k] = 34
                  · have HE := Lib.hid (escTo_yes s[k] 0 34 rfl hc)
                    have gc : ((34 : Int) == s[k].toNat) = true := by rw [hc]; rfl
                    clear hc
                    go_wp2_with (go_at_call 22; refine (KL.out _).mono ?_; rintro e w7 ⟨rfl, hb7⟩)
                    go_roundw
                    case rel => (repeat apply Exists.intro); exact ⟨⟨1, by omega, rfl, (by rw [HE.out]; rfl), hown.stay hb7 hin6, hb6.trans (hb7.mono hb6.size)⟩, rfl⟩
                    case measure => simp [intOf]
                  · have HE := Lib.hid (escTo_no s[k] 0 34 rfl hc)
                    have gc : ((34 : Int) == s[k].toNat) = false := beq_eq_false_iff_ne.2 (fun e => hc (UInt8.toNat_inj.1 (by rw [show ((34 : UInt8).toNat) = 34 from rfl]; omega)))
                    clear hc
                    generalize escTo s[k] 0 = ev at *
                    go_wp2_with (go_at_call 22; refine (KL.out _).mono ?_; rintro e w7 ⟨rfl, hb7⟩)
                    go_roundw
                    case rel => (repeat apply Exists.intro); exact ⟨⟨1, by omega, rfl, (by rw [HE.out]), hown.stay hb7 hin6, hb6.trans (hb7.mono hb6.size)⟩, rfl⟩
                    case measure => simp [intOf]
                case inr.inl =>
                  have c0 := hown.at 1
                  simp [ltV] at c0
                  have KL := Lib.hid rlet_92
                  by_cases hc : s[k] = 92
                  · have HE := Lib.hid (escTo_yes s[k] 1 92 rfl hc)
                    have gc : ((92 : Int) == s[k].toNat) = true := by rw [hc]; rfl
                    clear hc
                    go_wp2_with (go_at_call 22; refine (KL.out _).mono ?_; rintro e w7 ⟨rfl, hb7⟩)
                    go_roundw
                    case rel => (repeat apply Exists.intro); exact ⟨⟨2, by omega, rfl, (by rw [HE.out]; rfl), hown.stay hb7 hin6, hb6.trans (hb7.mono hb6.size)⟩, rfl⟩
                    case measure => simp [intOf]
                  · have HE := Lib.hid (escTo_no s[k] 1 92 rfl hc)
                    have gc : ((92 : Int) == s[k].toNat) = false := beq_eq_false_iff_ne.2 (fun e => hc (UInt8.toNat_inj.1 (by rw [show ((92 : UInt8).toNat) = 92 from rfl]; omega)))
                    clear hc
                    generalize escTo s[k] 1 = ev at *
                    go_wp2_with (go_at_call 22; refine (KL.out _).mono ?_; rintro e w7 ⟨rfl, hb7⟩)
                    go_roundw
                    case rel => (repeat apply Exists.intro); exact ⟨⟨2, by omega, rfl, (by rw [HE.out]), hown.stay hb7 hin6, hb6.trans (hb7.mono hb6.size)⟩, rfl⟩
                    case measure => simp [intOf]
                case inr.inr.inl =>
                  have c0 := hown.at 2
                  simp [ltV] at c0
                  have KL := Lib.hid rlet_98
                  by_cases hc : s[k] = 8
                  · have HE := Lib.hid (escTo_yes s[k] 2 8 rfl hc)
                    have gc : ((8 : Int) == s[k].toNat) = true := by rw [hc]; rfl
                    clear hc
                    go_wp2_with (go_at_call 22; refine (KL.out _).mono ?_; rintro e w7 ⟨rfl, hb7⟩)
                    go_roundw
                    case rel => (repeat apply Exists.intro); exact ⟨⟨3, by omega, rfl, (by rw [HE.out]; rfl), hown.stay hb7 hin6, hb6.trans (hb7.mono hb6.size)⟩, rfl⟩
                    case measure => simp [intOf]
                  · have HE := Lib.hid (escTo_no s[k] 2 8 rfl hc)
                    have gc : ((8 : Int) == s[k].toNat) = false := beq_eq_false_iff_ne.2 (fun e => hc (UInt8.toNat_inj.1 (by rw [show ((8 : UInt8).toNat) = 8 from rfl]; omega)))
                    clear hc
                    generalize escTo s[k] 2 = ev at *
                    go_wp2_with (go_at_call 22; refine (KL.out _).mono ?_; rintro e w7 ⟨rfl, hb7⟩)
                    go_roundw
                    case rel => (repeat apply Exists.intro); exact ⟨⟨3, by omega, rfl, (by rw [HE.out]), hown.stay hb7 hin6, hb6.trans (hb7.mono hb6.size)⟩, rfl⟩
                    case measure => simp [intOf]
                case inr.inr.inr.inl =>
                  have c0 := hown.at 3
                  simp [ltV] at c0
                  have KL := Lib.hid rlet_102
                  by_cases hc : s[k] = 12
                  · have HE := Lib.hid (escTo_yes s[k] 3 12 rfl hc)
                    have gc : ((12 : Int) == s[k].toNat) = true := by rw [hc]; rfl
                    clear hc
                    go_wp2_with (go_at_call 22; refine (KL.out _).mono ?_; rintro e w7 ⟨rfl, hb7⟩)
                    go_roundw
                    case rel => (repeat apply Exists.intro); exact ⟨⟨4, by omega, rfl, (by rw [HE.out]; rfl), hown.stay hb7 hin6, hb6.trans (hb7.mono hb6.size)⟩, rfl⟩
                    case measure => simp [intOf]
                  · have HE := Lib.hid (escTo_no s[k] 3 12 rfl hc)
                    have gc : ((12 : Int) == s[k].toNat) = false := beq_eq_false_iff_ne.2 (fun e => hc (UInt8.toNat_inj.1 (by rw [show ((12 : UInt8).toNat) = 12 from rfl]; omega)))
                    clear hc
                    generalize escTo s[k] 3 = ev at *
                    go_wp2_with (go_at_call 22; refine (KL.out _).mono ?_; rintro e w7 ⟨rfl, hb7⟩)
                    go_roundw
                    case rel => (repeat apply Exists.intro); exact ⟨⟨4, by omega, rfl, (by rw [HE.out]), hown.stay hb7 hin6, hb6.trans (hb7.mono hb6.size)⟩, rfl⟩
                    case measure => simp [intOf]
                case inr.inr.inr.inr.inl =>
                  have c0 := hown.at 4
                  simp [ltV] at c0
                  have KL := Lib.hid rlet_110
                  by_cases hc : s[k] = 10
                  · have HE := Lib.hid (escTo_yes s[k] 4 10 rfl hc)
                    have gc : ((10 : Int) == s[k].toNat) = true := by rw [hc]; rfl
                    clear hc
                    go_wp2_with (go_at_call 22; refine (KL.out _).mono ?_; rintro e w7 ⟨rfl, hb7⟩)
                    go_roundw
                    case rel => (repeat apply Exists.intro); exact ⟨⟨5, by omega, rfl, (by rw [HE.out]; rfl), hown.stay hb7 hin6, hb6.trans (hb7.mono hb6.size)⟩, rfl⟩
                    case measure => simp [intOf]
                  · have HE := Lib.hid (escTo_no s[k] 4 10 rfl hc)
                    have gc : ((10 : Int) == s[k].toNat) = false := beq_eq_false_iff_ne.2 (fun e => hc (UInt8.toNat_inj.1 (by rw [show ((10 : UInt8).toNat) = 10 from rfl]; omega)))
                    clear hc
                    generalize escTo s[k] 4 = ev at *
                    go_wp2_with (go_at_call 22; refine (KL.out _).mono ?_; rintro e w7 ⟨rfl, hb7⟩)
                    go_roundw
                    case rel => (repeat apply Exists.intro); exact ⟨⟨5, by omega, rfl, (by rw [HE.out]), hown.stay hb7 hin6, hb6.trans (hb7.mono hb6.size)⟩, rfl⟩
                    case measure => simp [intOf]
                case inr.inr.inr.inr.inr.inl =>
                  have c0 := hown.at 5
                  simp [ltV] at c0
                  have KL := Lib.hid rlet_114
                  by_cases hc : s[k] = 13
                  · have HE := Lib.hid (escTo_yes s[k] 5 13 rfl hc)
                    have gc : ((13 : Int) == s[k].toNat) = true := by rw [hc]; rfl
                    clear hc
                    go_wp2_with (go_at_call 22; refine (KL.out _).mono ?_; rintro e w7 ⟨rfl, hb7⟩)
                    go_roundw
                    case rel => (repeat apply Exists.intro); exact ⟨⟨6, by omega, rfl, (by rw [HE.out]; rfl), hown.stay hb7 hin6, hb6.trans (hb7.mono hb6.size)⟩, rfl⟩
                    case measure => simp [intOf]
                  · have HE := Lib.hid (escTo_no s[k] 5 13 rfl hc)
                    have gc : ((13 : Int) == s[k].toNat) = false := beq_eq_false_iff_ne.2 (fun e => hc (UInt8.toNat_inj.1 (by rw [show ((13 : UInt8).toNat) = 13 from rfl]; omega)))
                    clear hc
                    generalize escTo s[k] 5 = ev at *
                    go_wp2_with (go_at_call 22; refine (KL.out _).mono ?_; rintro e w7 ⟨rfl, hb7⟩)
                    go_roundw
                    case rel => (repeat apply Exists.intro); exact ⟨⟨6, by omega, rfl, (by rw [HE.out]), hown.stay hb7 hin6, hb6.trans (hb7.mono hb6.size)⟩, rfl⟩
                    case measure => simp [intOf]
                case inr.inr.inr.inr.inr.inr.inl =>
                  have c0 := hown.at 6
                  simp [ltV] at c0
                  have KL := Lib.hid rlet_116
                  by_cases hc : s[k] = 9
                  · have HE := Lib.hid (escTo_yes s[k] 6 9 rfl hc)
                    have gc : ((9 : Int) == s[k].toNat) = true := by rw [hc]; rfl
                    clear hc
                    go_wp2_with (go_at_call 22; refine (KL.out _).mono ?_; rintro e w7 ⟨rfl, hb7⟩)
                    go_roundw
                    case rel => (repeat apply Exists.intro); exact ⟨⟨7, by omega, rfl, (by rw [HE.out]; rfl), hown.stay hb7 hin6, hb6.trans (hb7.mono hb6.size)⟩, rfl⟩
                    case measure => simp [intOf]
                  · have HE := Lib.hid (escTo_no s[k] 6 9 rfl hc)
                    have gc : ((9 : Int) == s[k].toNat) = false := beq_eq_false_iff_ne.2 (fun e => hc (UInt8.toNat_inj.1 (by rw [show ((9 : UInt8).toNat) = 9 from rfl]; omega)))
                    clear hc
                    generalize escTo s[k] 6 = ev at *
                    go_wp2_with (go_at_call 22; refine (KL.out _).mono ?_; rintro e w7 ⟨rfl, hb7⟩)
                    go_roundw
                    case rel => (repeat apply Exists.intro); exact ⟨⟨7, by omega, rfl, (by rw [HE.out]), hown.stay hb7 hin6, hb6.trans (hb7.mono hb6.size)⟩, rfl⟩
                    case measure => simp [intOf]
                case inr.inr.inr.inr.inr.inr.inr =>
                  have hbS := hb2.trans (hb6.mono hb2.size)
                  have hbW := hbel.trans (hbS.mono hbel.size)
                  by_cases hE : escB s[k] = 0
                  · have e7 : escTo s[k] 7 = 0 := by rw [escTo_end, hE]; rfl
                    by_cases h32 : s[k].toNat < 32
                    · have g32 : (s[k].toNat : Int) < 32 := by omega
                      have t1 : True := trivial
                      have t2 : True := trivial
                      have KL1 := rlowerN_any (s[k].toNat / 16) (by omega)
                      have KL2 := rlowerN_any (s[k].toNat % 16) (by omega)
                      rw [Int.natCast_ediv] at KL1
                      rw [Int.natCast_emod] at KL2
                      have KL1 := Lib.hid KL1
                      have KL2 := Lib.hid KL2
                      have HPc := Lib.hid (piece_ctl s.data.toList k m hl (by omega) hE h32)
                      have hbuf8 := hbuf.stay (hbS.alloc hbS.size (.cells #[.int .u8 92, .int .u8 117, .int .u8 48, .int .u8 48, .int .u8 (lowB (s[k].toNat / 16)).toNat, .int .u8 (lowB (s[k].toNat % 16)).toNat] 5)) (Nat.le_refl _)
                      have hrd8 := lit_rd wr #[.int .u8 92, .int .u8 117, .int .u8 48, .int .u8 48, .int .u8 (lowB (s[k].toNat / 16)).toNat, .int .u8 (lowB (s[k].toNat % 16)).toNat] [92, 117, 48, 48, lowB (s[k].toNat / 16), lowB (s[k].toNat % 16)] rfl
                      have hz8 := Nat.le_trans hbel.size (hbS.alloc hbS.size (.cells #[.int .u8 92, .int .u8 117, .int .u8 48, .int .u8 48, .int .u8 (lowB (s[k].toNat / 16)).toNat, .int .u8 (lowB (s[k].toNat % 16)).toNat] 5)).size
                      clear hsk hE h32 hown
                      go_wp2_with (first
                        | (go_at_call 23; clear t1; go_must (refine (KL1.out _).mono ?_; rintro e w' ⟨rfl, rfl⟩))
                        | (go_at_call 23; clear t2; go_must (refine (KL2.out _).mono ?_; rintro e w' ⟨rfl, rfl⟩))
                        | (at_builtin
                           go_must (
                             refine buf_append _ rfl (.tmp 80) (.tmp 89) rfl W.heap.size _ (34 :: d) rfl hbuf8 _ _ 6 _ [92, 117, 48, 48, lowB (s[k].toNat / 16), lowB (s[k].toNat % 16)] rfl hrd8 (by simp; omega) hz8 ?_
                             intro v9 w9 hbuf9 hb9
                             have hb9' := (hbW.alloc (Nat.le_trans hbel.size hbS.size) _).trans hb9)))
                      go_roundw
                      case rel => exact ⟨k + m, g, d ++ [92, 117, 48, 48, lowB (s[k].toNat / 16), lowB (s[k].toNat % 16)], by omega, by go_num, hbuf9, (by simp only [List.length_append]; have : ([92, 117, 48, 48, lowB (s[k].toNat / 16), lowB (s[k].toNat % 16)]).length ≤ 6 * m := (by simp; omega); omega), by omega, (by have := HP.out; rw [HS.out, HPc.out, show goOn m = m from if_neg (by omega)] at this; rw [this, List.append_assoc]; try rfl), hb9'⟩
                      case measure => simp [intOf]; omega
                    · have g32 : ¬ (s[k].toNat : Int) < 32 := by omega
                      have hk1 : k ≤ k + m := by omega
                      have hk2 : k + m ≤ s.size := hm
                      have hsz : (s.extract k (k + m)).size ≤ 1000 := by simp; omega
                      have hbuf8 := hbuf.stay hbS (Nat.le_refl _)
                      have hz8 : W.heap.size ≤ wr.heap.size := Nat.le_trans hbel.size hbS.size
                      have HPc := Lib.hid (piece_raw s.data.toList k m hl (by omega) hE h32)
                      have HPs := Lib.hid (part_is s k m)
                      have HPl := Lib.hid (show ((s.data.toList.drop k).take m).length ≤ 6 * m by simp; omega)
                      clear hsk hE h32 hown
                      go_wp2_with (first
                        | (at_builtin
                           go_must (
                             refine buf_append_str _ rfl (.tmp 91) (.tmp 97) rfl W.heap.size _ (34 :: d) rfl hbuf8 (s.extract k (k + m)) rfl (by simp only [List.length_cons]; omega) hz8 ?_
                             intro v9 w9 hbuf9 hb9
                             rw [HPs.out] at hbuf9
                             have hb9' := hbW.trans hb9)))
                      go_roundw
                      case rel => exact ⟨k + m, g, d ++ (s.data.toList.drop k).take m, by omega, by go_num, hbuf9, (by simp only [List.length_append]; have : ((s.data.toList.drop k).take m).length ≤ 6 * m := (by exact HPl.out); omega), by omega, (by have := HP.out; rw [HS.out, HPc.out, show goOn m = m from if_neg (by omega)] at this; rw [this, List.append_assoc]; try rfl), hb9'⟩
                      case measure => simp [intOf]; omega
                  · have e7 : escTo s[k] 7 = (escB s[k]).toNat := escTo_end _
                    have gE : (((escB s[k]).toNat : Int) != 0) = true := by
                      rw [bne_iff_ne]
                      intro e
                      exact hE (UInt8.toNat_inj.1 (by rw [show (0 : UInt8).toNat = 0 from rfl]; omega))
                    have HPc := Lib.hid (piece_esc s.data.toList k m hl (by omega) hE)
                    have hbuf8 := hbuf.stay (hbS.alloc hbS.size (.cells #[.int .u8 92, .int .u8 (escB s[k]).toNat] 5)) (Nat.le_refl _)
                    have hrd8 := lit_rd wr #[.int .u8 92, .int .u8 (escB s[k]).toNat] [92, escB s[k]] rfl
                    have hz8 := Nat.le_trans hbel.size (hbS.alloc hbS.size (.cells #[.int .u8 92, .int .u8 (escB s[k]).toNat] 5)).size
                    clear hsk hE hown
                    go_wp2_with (first
                      | (at_builtin
                         go_must (
                           refine buf_append _ rfl (.tmp 74) (.tmp 76) rfl W.heap.size _ (34 :: d) rfl hbuf8 _ _ 2 _ [92, escB s[k]] rfl hrd8 (by simp; omega) hz8 ?_
                           intro v9 w9 hbuf9 hb9
                           have hb9' := (hbW.alloc (Nat.le_trans hbel.size hbS.size) _).trans hb9)))
                    go_roundw
                    case rel => exact ⟨k + m, g, d ++ [92, escB s[k]], by omega, by go_num, hbuf9, (by simp only [List.length_append]; have : ([92, escB s[k]]).length ≤ 6 * m := (by simp; omega); omega), by omega, (by have := HP.out; rw [HS.out, HPc.out, show goOn m = m from if_neg (by omega)] at this; rw [this, List.append_assoc]; try rfl), hb9'⟩
                    case measure => simp [intOf]; omega
    · have hk' : k = s.size := by omega
      have he : putGo f (s.data.toList.drop k) = [] := by
        rw [List.drop_of_length_le (show s.data.toList.length ≤ k from by omega)]
        cases f <;> rfl
      rw [he, List.append_nil] at hput
      have HP := Lib.hid hput
      have hbuf8 := hbuf.stay (below1 wr (.cells #[.int .u8 34] 5)) (Nat.le_refl _)
      have hrd8 := lit_rd wr #[.int .u8 34] [34] rfl
      have hz8 : W.heap.size ≤ (wr.alloc (.cells #[.int .u8 34] 5)).heap.size := Nat.le_trans hbel.size (below1 wr _).size
      clear he hput hk' hsl
      go_wp2_with (first
        | (at_builtin
           go_must (
             refine buf_append _ rfl (.tmp 102) (.tmp 103) rfl W.heap.size _ (34 :: d) rfl hbuf8 _ _ 1 _ [34] rfl hrd8 (by simp; omega) hz8 ?_
             intro v9 w9 hbuf9 hb9
             have hb9' := (hbel.alloc hbel.size _).trans hb9
             have cv9 := hbuf9.conv)))
      go_ret
      exact ⟨by rw [HP.out]; rfl, hb9'⟩

end Go.Proofs.Ytaklbbkjhbkieaa
