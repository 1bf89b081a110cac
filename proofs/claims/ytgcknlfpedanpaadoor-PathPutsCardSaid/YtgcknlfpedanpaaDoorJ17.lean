/- The document's Parse (riffleref13): the plain mathematics of its two loops. -/
import Derived.Test.YtgcknlfpedanpaaDoorJ16
import Derived.BigQuiet
namespace Go.Proofs.YtgcknlfpedanpaaDoor
open Go.RowKit
set_option linter.unusedVariables false

theorem one_short (l : List UInt8) : (oneM l).1.length ≤ (oneM l).2 := by
  cases l with
  | nil => exact Nat.le_refl _
  | cons c t =>
    rw [oneM_cons]
    split
    · exact Nat.le_refl _
    · split
      · generalize sgnL (c :: t) = q
        exact Nat.le_trans (Nat.le_of_eq List.length_take) (Nat.min_le_left _ _)
      · cases t with
        | nil => exact Nat.le_refl _
        | cons d r =>
          rw [backM_cons]
          split
          · show 1 ≤ 2; omega
          · cases ctlM (c :: d :: r) with
            | none => exact Nat.le_refl _
            | some x => show 1 ≤ 6; omega
theorem one_in {l : List UInt8} (h0 : (oneM l).2 ≠ 0) : (oneM l).2 ≤ l.length := (one_inv (l := l) (b := (oneM l).1) (n := (oneM l).2) rfl h0).1
theorem num_in {l : List UInt8} (h0 : (numM l).2 ≠ 0) : (numM l).2 ≤ l.length := (num_inv (l := l) (v := (numM l).1) (n := (numM l).2) rfl h0).2.2
theorem num_small {l : List UInt8} (h0 : (numM l).2 ≠ 0) : (numM l).1 ≤ 9007199254740991 := (num_inv (l := l) (v := (numM l).1) (n := (numM l).2) rfl h0).2.1
theorem at_drop (s : ByteArray) {k : Nat} (h : k < s.size) : s.data.toList.drop k = s[k] :: s.data.toList.drop (k + 1) := List.drop_eq_getElem_cons (show k < s.data.toList.length from h)
theorem at_head (s : ByteArray) {k : Nat} (h : k < s.size) : (s.data.toList.drop k).head? = some s[k] := by rw [at_drop s h]; rfl
theorem at_end (s : ByteArray) {k : Nat} (h : s.size ≤ k) : s.data.toList.drop k = [] := List.drop_of_length_le h
theorem at_tail (s : ByteArray) (k : Nat) : (s.data.toList.drop k).tail = s.data.toList.drop (k + 1) := by rw [List.tail_drop]

theorem pg_end (s : ByteArray) (f k : Nat) (h : s.size ≤ k) : parseGo (f + 1) (s.data.toList.drop k) = some [] := by
  rw [parseGo_on, at_end s h, if_pos rfl]
theorem pg_bad (s : ByteArray) (f k : Nat) (h : k < s.size) (hb : s[k] ≠ 91 ∨ s.size ≤ k + 1) : parseGo (f + 1) (s.data.toList.drop k) = none := by
  rw [parseGo_on, if_neg (by rw [at_drop s h]; simp), if_pos]
  rw [at_head s h, at_tail]
  rcases hb with hb | hb
  · exact .inl fun e => hb (Option.some.inj e)
  · exact .inr (at_end s hb)
theorem pg_num (s : ByteArray) (f k : Nat) (h : k + 1 < s.size) (h91 : s[k] = 91) (h39 : s[k + 1] ≠ 39) : parseGo (f + 1) (s.data.toList.drop k) =
    if (numM (s.data.toList.drop (k + 1))).2 = 0 ∨ (s.data.toList.drop (k + 1 + (numM (s.data.toList.drop (k + 1))).2)).head? ≠ some 93 then none
    else (parseGo f (s.data.toList.drop (k + 1 + ((numM (s.data.toList.drop (k + 1))).2 + 1)))).map fun x => ⟨false, [], (numM (s.data.toList.drop (k + 1))).1⟩ :: x := by
  rw [parseGo_on, if_neg (by rw [at_drop s (show k < s.size by omega)]; simp), if_neg, if_pos]
  · rw [at_tail, List.drop_drop, List.drop_drop]
  · rw [at_tail, at_head s h]
    exact fun e => h39 (Option.some.inj e)
  · rw [at_tail, at_head s (show k < s.size by omega), h91, at_drop s h]
    rintro (e | e)
    · exact e rfl
    · cases e
theorem pg_name (s : ByteArray) (f k : Nat) (h : k + 1 < s.size) (h91 : s[k] = 91) (h39 : s[k + 1] = 39) : parseGo (f + 1) (s.data.toList.drop k) =
    (nameR (s.size - k) (s.data.toList.drop (k + 2)) []).bind fun p => if p.2.tail.head? ≠ some 93 then none else (parseGo f (p.2.drop 2)).map fun x => ⟨true, p.1, 0⟩ :: x := by
  rw [parseGo_on, if_neg (by rw [at_drop s (show k < s.size by omega)]; simp), if_neg, if_neg]
  · rw [at_tail, at_tail, List.length_drop]
    rfl
  · rw [at_tail, at_head s h, h39]
    exact fun e => e rfl
  · rw [at_tail, at_head s (show k < s.size by omega), h91, at_drop s h]
    rintro (e | e)
    · exact e rfl
    · cases e
theorem nr_end (s : ByteArray) (g j : Nat) (nm : List UInt8) (h : (s.data.toList.drop j) = [] ∨ (s.data.toList.drop j).head? = some 39) : nameR (g + 1) (s.data.toList.drop j) nm = some (nm, s.data.toList.drop j) := by
  rw [nameR_on, if_pos h]
theorem nr_bad (s : ByteArray) (g j : Nat) (nm : List UInt8) (h : j < s.size) (h39 : s[j] ≠ 39) (h0 : (oneM (s.data.toList.drop j)).2 = 0) : nameR (g + 1) (s.data.toList.drop j) nm = none := by
  rw [nameR_on, if_neg, if_pos h0]
  rw [at_drop s h]
  rintro (e | e)
  · cases e
  · exact h39 (Option.some.inj e)
theorem nr_step (s : ByteArray) (g j : Nat) (nm : List UInt8) (h : j < s.size) (h39 : s[j] ≠ 39) (h0 : (oneM (s.data.toList.drop j)).2 ≠ 0) : nameR (g + 1) (s.data.toList.drop j) nm = nameR g (s.data.toList.drop (j + (oneM (s.data.toList.drop j)).2)) (nm ++ (oneM (s.data.toList.drop j)).1) := by
  rw [nameR_on, if_neg, if_neg h0, List.drop_drop]
  rw [at_drop s h]
  rintro (e | e)
  · cases e
  · exact h39 (Option.some.inj e)
theorem map_app {d : List Pst} {o : Option (List Pst)} {x : Pst} : (o.map fun k => x :: k).map (d ++ ·) = o.map ((d ++ [x]) ++ ·) := by
  cases o <;> simp

/-- Where the loop over the steps is. -/
def RelPs (s : ByteArray) (W wr : World) (o a : Value) : Prop :=
  ∃ (k f : Nat) (d : List Pst), 1 ≤ k ∧ k ≤ s.size ∧ s.size < f + k ∧ a = .int .i64 k ∧ GRow stpK wr W.heap.size o d ∧ d.length ≤ k ∧ Below W.heap.size W wr ∧ parseM s.data.toList = (parseGo f (s.data.toList.drop k)).map (d ++ ·)
/-- Where the loop over a name's signs is: step k's; P is what is left to say. -/
def RelNa (s : ByteArray) (k : Nat) (wo w : World) (nm a : Value) : Prop :=
  ∃ (j g : Nat) (d : List UInt8), k + 2 ≤ j ∧ j ≤ s.size ∧ s.size < g + j ∧ a = .int .i64 j ∧ Buf w wo.heap.size nm d ∧ d.length ≤ j ∧ Below wo.heap.size wo w ∧ nameR (s.size - k) (s.data.toList.drop (k + 2)) [] = nameR g (s.data.toList.drop j) d
/-- What Parse answers. -/
def PsEnd (l : List UInt8) (W : World) (e : Ending) (w' : World) : Prop :=
  Below W.heap.size W w' ∧ ((parseM l = none ∧ e = .returned (.tuple #[.slice none 0 0, .bool false])) ∨ ∃ d v, parseM l = some d ∧ e = .returned (.tuple #[v, .bool true]) ∧ GRow stpK w' W.heap.size v d ∧ d.length ≤ l.length)
theorem psEnd_none {l : List UInt8} {W w' : World} (h : parseM l = none) (hb : Below W.heap.size W w') : PsEnd l W (.returned (.tuple #[.slice none 0 0, .bool false])) w' := ⟨hb, .inl ⟨h, rfl⟩⟩
theorem psEnd_some {l : List UInt8} {d : List Pst} {v : Value} {W w' : World} (h : parseM l = some d) (hr : GRow stpK w' W.heap.size v d) (hl : d.length ≤ l.length) (hb : Below W.heap.size W w') : PsEnd l W (.returned (.tuple #[v, .bool true])) w' := ⟨hb, .inr ⟨d, v, h, rfl, hr, hl⟩⟩
theorem new_step (w : World) (b : Bool) (nm : List UInt8) (v : Int) : RdG stpK (w.alloc (.cells #[.bool b, .string ⟨nm.toArray⟩, .int .i64 v] 26)) (some ⟨w.heap.size, 0, none⟩) 1 [⟨b, nm, v⟩] :=
  (GRow.made (K := stpK) (base := 0) (l := [⟨b, nm, v⟩]) w _ rfl (show 1 ≤ maxLen by decide) (Nat.zero_le _)).rd
/-- Steps of the call's own stay where what is below the heap's size stays. -/
theorem GRow.on {w w' : World} {base B : Nat} {v : Value} {d : List Pst} (h : GRow stpK w base v d) (hb : Below B w w') (hB : w.heap.size ≤ B) : GRow stpK w' base v d :=
  h.stay fun g hg => hb.block g (Nat.lt_of_lt_of_le (h.low hg).2 hB)

end Go.Proofs.YtgcknlfpedanpaaDoor

namespace Go.Proofs.YtgcknlfpedanpaaDoor
open Go.RowKit
set_option linter.unusedVariables false

theorem byte_ne {x y : UInt8} (h : x ≠ y) : ((x.toNat : Int) != (y.toNat : Int)) = true := bne_iff_ne.2 fun e => h (UInt8.toNat_inj.1 (by omega))
theorem byte_eq {x y : UInt8} (h : x = y) : ((x.toNat : Int) != (y.toNat : Int)) = false := by rw [h]; simp

set_option maxRecDepth 100000 in
set_option maxHeartbeats 16000000 in
theorem parse13_any (s : ByteArray) (W : World) (h9 : s.size ≤ 1000) : Calls Tryd.prog 15 #[.string s] W (PsEnd s.data.toList W) := by
  have hsl : s.data.toList.length = s.size := rfl
  by_cases hs0 : s.size = 0
  · have HN := Lib.hid (show parseM s.data.toList = none by
      unfold parseM
      rw [show s.data.toList = [] from List.eq_nil_of_length_eq_zero (hsl.trans hs0)]
      rfl)
    have q : ((s.size : Int) == 0) = true := by rw [hs0]; rfl
    clear hsl hs0
    go_enter Tryd.func15, Tryd.ntmps15
    go_wp2
    go_ret2
    exact psEnd_none HN.out (Below.refl _ _)
  have h0 : 0 < s.size := by omega
  have q0 : ((s.size : Int) == 0) = false := beq_eq_false_iff_ne.2 (by omega)
  by_cases h36 : s[0] = 36
  rotate_left
  · have HN := Lib.hid (show parseM s.data.toList = none by
      unfold parseM
      rw [head_is s h0, if_pos]
      exact fun e => h36 (Option.some.inj e))
    have q1 : ((s[0].toNat : Int) != 36) = true := byte_ne h36
    clear hsl hs0 h36
    go_enter Tryd.func15, Tryd.ntmps15
    go_wp2
    go_ret2
    exact psEnd_none HN.out (Below.refl _ _)
  have q1 : ((s[0].toNat : Int) != 36) = false := byte_eq h36
  have HST := Lib.hid (show parseM s.data.toList = (parseGo (s.size + 1) (s.data.toList.drop 1)).map (([] : List Pst) ++ ·) by
    unfold parseM
    rw [if_neg, List.drop_one, hsl]
    · cases parseGo (s.size + 1) s.data.toList.tail <;> rfl
    · rw [head_is s h0, h36]
      exact fun e => e rfl)
  clear hs0 h36
  go_enter Tryd.func15, Tryd.ntmps15
  go_wp2
  go_loopw [4, 5] (fun o a wr => RelPs s W wr o a) (fun _ a _ => s.size - (intOf a).toNat)
  case atStart => exact ⟨1, s.size + 1, [], Nat.le_refl _, h0, by omega, rfl, GRow.made (K := stpK) W #[] rfl (by simp [maxLen]) (Nat.le_refl _), by simp, (Below.refl _ _).alloc (Nat.le_refl _) _, HST.out⟩
  case round =>
    obtain ⟨k, f, d, hk1, hk, hf, rfl, hrow, hd, hb, hp⟩ := hrel
    obtain ⟨g, rfl⟩ : ∃ g, f = g + 1 := ⟨f - 1, by omega⟩
    by_cases hlt : k < s.size
    rotate_left
    · have HP := Lib.hid (show parseM s.data.toList = some d by rw [hp, pg_end s g k (by omega)]; simp)
      have HR := Lib.hid hrow
      have HB := Lib.hid hb
      have q2 : ¬ (k : Int) < s.size := by omega
      clear hp hrow hb hsl hlt
      go_wp2
      go_ret2
      exact psEnd_some HP.out HR.out (by show d.length ≤ s.size; omega) HB.out
    have q2 : (k : Int) < s.size := by omega
    by_cases h91 : s[k] = 91
    rotate_left
    · have HP := Lib.hid (show parseM s.data.toList = none by rw [hp, pg_bad s g k hlt (.inl h91)]; rfl)
      have HB := Lib.hid hb
      have q3 : ((s[k].toNat : Int) != 91) = true := byte_ne h91
      clear hp hrow hb hsl h91
      go_wp2
      go_ret2
      exact psEnd_none HP.out HB.out
    have q3 : ((s[k].toNat : Int) != 91) = false := byte_eq h91
    by_cases hk2 : k + 1 < s.size
    rotate_left
    · have HP := Lib.hid (show parseM s.data.toList = none by rw [hp, pg_bad s g k hlt (.inr (by omega))]; rfl)
      have HB := Lib.hid hb
      have q4 : (k : Int) + 1 ≥ s.size := by omega
      clear hp hrow hb hsl h91
      go_wp2
      go_ret2
      exact psEnd_none HP.out HB.out
    have q4 : ¬ (k : Int) + 1 ≥ s.size := by omega
    by_cases h39 : s[k + 1] = 39
    rotate_left
    · have q5 : ((s[k + 1].toNat : Int) != 39) = true := byte_ne h39
      have hpn := pg_num s g k hk2 h91 h39
      have HN := Lib.hid (fun w => number13_any (s.extract (k + 1) s.size) w (by rw [ByteArray.size_extract]; omega))
      rw [tail13 s (k + 1) (by omega)] at HN
      rw [hpn] at hp
      clear hpn h91 h39
      by_cases hn0 : (numM (s.data.toList.drop (k + 1))).2 = 0
      · have HP := Lib.hid (show parseM s.data.toList = none by rw [hp, if_pos (.inl hn0)]; rfl)
        rw [hn0] at HN
        have HB := Lib.hid hb
        clear hp hrow hb hsl hn0
        generalize (numM (s.data.toList.drop (k + 1))).1 = v at *
        go_wp2_with (go_at_call 27; refine (HN.out _).mono ?_; rintro e w' ⟨rfl, rfl⟩)
        go_ret2
        exact psEnd_none HP.out HB.out
      have hni := num_in hn0
      rw [List.length_drop, hsl] at hni
      have hvs := num_small hn0
      generalize (numM (s.data.toList.drop (k + 1))).1 = v at *
      generalize (numM (s.data.toList.drop (k + 1))).2 = n at *
      have q6 : ((n : Int) == 0) = false := beq_eq_false_iff_ne.2 (by omega)
      by_cases hk3 : k + 1 + n < s.size
      rotate_left
      · have HP := Lib.hid (show parseM s.data.toList = none by
          rw [hp, if_pos (.inr (by rw [at_end s (by omega)]; exact fun e => by cases e))]
          rfl)
        have HB := Lib.hid hb
        have q7 : (k : Int) + 1 + n ≥ s.size := by omega
        clear hp hrow hb hsl
        go_wp2_with (go_at_call 27; refine (HN.out _).mono ?_; rintro e w' ⟨rfl, rfl⟩)
        go_ret2
        exact psEnd_none HP.out HB.out
      have q7 : ¬ (k : Int) + 1 + n ≥ s.size := by omega
      by_cases h93 : s[k + 1 + n] = 93
      rotate_left
      · have HP := Lib.hid (show parseM s.data.toList = none by
          rw [hp, if_pos (.inr (by rw [at_head s hk3]; exact fun e => h93 (Option.some.inj e)))]
          rfl)
        have HB := Lib.hid hb
        have q8 : ((s[k + 1 + n].toNat : Int) != 93) = true := byte_ne h93
        clear hp hrow hb hsl h93
        go_wp2_with (go_at_call 27; refine (HN.out _).mono ?_; rintro e w' ⟨rfl, rfl⟩)
        go_ret2
        exact psEnd_none HP.out HB.out
      have q8 : ((s[k + 1 + n].toNat : Int) != 93) = false := byte_eq h93
      have HP := Lib.hid (show parseM s.data.toList = (parseGo g (s.data.toList.drop (k + 1 + (n + 1)))).map ((d ++ [⟨false, [], v⟩]) ++ ·) by
        rw [hp, if_neg, map_app]
        rw [at_head s hk3, h93]
        rintro (e | e)
        · exact hn0 e
        · exact e rfl)
      have HROW := Lib.hid (fun o => hrow.on (below1 wr o) (Nat.le_refl _))
      have HLOW := Lib.hid (fun g' hg' => (hrow.low (g := g') hg').1)
      have HNEW := Lib.hid (new_step wr false [] v)
      have HB := Lib.hid (fun o => hb.alloc hb.size o)
      have HZ := Lib.hid (fun o => (hb.alloc hb.size o).size)
      clear hp hrow hb hsl h93
      go_wp2_with (first
        | (go_at_call 27
           go_must (
             refine (HN.out _).mono ?_
             rintro e w' ⟨rfl, rfl⟩))
        | (at_builtin
           go_must (
             refine row_append (K := stpK) _ rfl (.tmp 66) (.tmp 69) rfl W.heap.size _ d rfl (HROW.out _) _ 1 1 [⟨false, [], v⟩] rfl HNEW.out (by omega) (HZ.out _) ?_
             intro v4 w4 row4 grown4 at4
             have HB4 := Lib.hid (below_grown (HB.out _) grown4 (HZ.out _) HLOW.out)
             clear grown4 at4)))
      go_roundw
      case rel => exact ⟨k + 1 + (n + 1), g, d ++ [⟨false, [], v⟩], by omega, by omega, by omega, by go_num, row4, (by rw [List.length_append]; show d.length + 1 ≤ _; omega), HB4.out, HP.out⟩
      case measure => simp [intOf]; omega
    have q5 : ((s[k + 1].toNat : Int) != 39) = false := byte_eq h39
    rw [pg_name s g k hk2 h91 h39] at hp
    have HP0 := Lib.hid hp
    have HROW := Lib.hid hrow
    have HB := Lib.hid hb
    clear h91 h39 hp hrow hb
    obtain ⟨wo, rfl⟩ : ∃ wo : World, wo = wr := ⟨_, rfl⟩
    go_wp2
    go_loopw [8, 5] (fun nm a w => RelNa s k wo w nm a) (fun _ a _ => s.size - (intOf a).toNat)
    case atStart => exact ⟨k + 2, s.size - k, [], Nat.le_refl _, by omega, by omega, by go_num, Buf.made wo #[] [] rfl (by simp [maxLen]) (Nat.le_refl _), by simp, below1 _ _, rfl⟩
    case round =>
      obtain ⟨j, g2, nm, hj, hjs, hg2, rfl, hbuf, hnl, hb2, hnr⟩ := hrel
      obtain ⟨g3, rfl⟩ : ∃ g3, g2 = g3 + 1 := ⟨g2 - 1, by omega⟩
      by_cases hjl : j < s.size
      rotate_left
      · have HP := Lib.hid (show parseM s.data.toList = none by
          rw [HP0.out, hnr, nr_end s g3 j nm (.inl (at_end s (by omega))), at_end s (by omega)]
          rfl)
        have HBW := Lib.hid (HB.out.trans (hb2.mono HB.out.size))
        have q6 : ¬ (j : Int) < s.size := by omega
        have q7 : (j : Int) + 1 ≥ s.size := by omega
        clear hbuf hb2 hnr hsl
        go_wp2
        go_ret2
        exact psEnd_none HP.out HBW.out
      have q6 : (j : Int) < s.size := by omega
      by_cases hm : s[j] = 39
      · have q7 : ((s[j].toNat : Int) != 39) = false := byte_eq hm
        have hp2 := HP0.out
        rw [hnr, nr_end s g3 j nm (.inr (by rw [at_head s hjl, hm]))] at hp2
        have hp2 : parseM s.data.toList = ((if (s.data.toList.drop j).tail.head? ≠ some 93 then none else (parseGo g ((s.data.toList.drop j).drop 2)).map fun x => (⟨true, nm, 0⟩ : Pst) :: x)).map (d ++ ·) := hp2
        rw [at_tail, List.drop_drop] at hp2
        clear hnr hm
        by_cases hj1 : j + 1 < s.size
        rotate_left
        · have HP := Lib.hid (show parseM s.data.toList = none by
            rw [hp2, if_pos (by rw [at_end s (by omega)]; exact fun e => by cases e)]
            rfl)
          have HBW := Lib.hid (HB.out.trans (hb2.mono HB.out.size))
          have q8 : (j : Int) + 1 ≥ s.size := by omega
          clear hbuf hb2 hp2 hsl
          go_wp2
          go_ret2
          exact psEnd_none HP.out HBW.out
        have q8 : ¬ (j : Int) + 1 ≥ s.size := by omega
        by_cases h93 : s[j + 1] = 93
        rotate_left
        · have HP := Lib.hid (show parseM s.data.toList = none by
            rw [hp2, if_pos (by rw [at_head s hj1]; exact fun e => h93 (Option.some.inj e))]
            rfl)
          have HBW := Lib.hid (HB.out.trans (hb2.mono HB.out.size))
          have q9 : ((s[j + 1].toNat : Int) != 93) = true := byte_ne h93
          clear hbuf hb2 hp2 hsl h93
          go_wp2
          go_ret2
          exact psEnd_none HP.out HBW.out
        have q9 : ((s[j + 1].toNat : Int) != 93) = false := byte_eq h93
        have HP := Lib.hid (show parseM s.data.toList = (parseGo g (s.data.toList.drop (j + 2))).map ((d ++ [⟨true, nm, 0⟩]) ++ ·) by
          rw [hp2, if_neg, map_app]
          rw [at_head s hj1, h93]
          exact fun e => e rfl)
        have cv := hbuf.conv
        have hrow2 := HROW.out.on hb2 (Nat.le_refl _)
        have hbw := HB.out.trans (hb2.mono HB.out.size)
        have HROW2 := Lib.hid (fun o => hrow2.on (below1 wr o) (Nat.le_refl _))
        have HLOW := Lib.hid (fun g' hg' => (hrow2.low (g := g') hg').1)
        have HNEW := Lib.hid (new_step wr true nm 0)
        have HBW := Lib.hid (fun o => hbw.alloc hbw.size o)
        have HZ := Lib.hid (fun o => (hbw.alloc hbw.size o).size)
        clear hp2 hrow2 hbw hbuf hb2 hsl h93
        go_wp2_with (
          (at_builtin
           go_must (
             refine row_append (K := stpK) _ rfl (.tmp 115) (.tmp 119) rfl W.heap.size _ d rfl (HROW2.out _) _ 1 1 [⟨true, nm, 0⟩] rfl HNEW.out (by omega) (HZ.out _) ?_
             intro v4 w4 row4 grown4 at4
             have HB4 := Lib.hid (below_grown (HBW.out _) grown4 (HZ.out _) HLOW.out)
             clear grown4 at4)))
        go_roundw
        case rel => exact ⟨j + 2, g, d ++ [⟨true, nm, 0⟩], by omega, by omega, by omega, by go_num, row4, (by rw [List.length_append]; show d.length + 1 ≤ _; omega), HB4.out, HP.out⟩
        case measure => simp [intOf]; omega
      have q7 : ((s[j].toNat : Int) != 39) = true := byte_ne hm
      have HO := Lib.hid (fun w => one13_any (s.extract j s.size) w (by rw [ByteArray.size_extract]; omega) (by rw [ByteArray.size_extract]; omega))
      unfold OneEnd at HO
      rw [tail13 s j hjs] at HO
      by_cases hn0 : (oneM (s.data.toList.drop j)).2 = 0
      · have HP := Lib.hid (show parseM s.data.toList = none by
          rw [HP0.out, hnr, nr_bad s g3 j nm hjl hm hn0]
          rfl)
        rw [hn0] at HO
        have HBW := Lib.hid (HB.out.trans (hb2.mono HB.out.size))
        clear hbuf hb2 hnr hsl hm hn0
        generalize (oneM (s.data.toList.drop j)).1 = P at *
        go_wp2_with (
          (go_at_call 28
           go_must (
             refine (HO.out _).mono ?_
             rintro e w3 ⟨A3, c3, rfl, rd3, hb3⟩
             have HB3 := Lib.hid (HBW.out.trans (hb3.mono HBW.out.size))
             clear rd3 hb3)))
        go_ret2
        exact psEnd_none HP.out HB3.out
      have hoi := one_in hn0
      have hos := one_short (s.data.toList.drop j)
      rw [List.length_drop, hsl] at hoi
      have HNR := Lib.hid (hnr.trans (nr_step s g3 j nm hjl hm hn0))
      clear hnr hm
      generalize (oneM (s.data.toList.drop j)).1 = P at *
      generalize (oneM (s.data.toList.drop j)).2 = n at *
      generalize hL : P.length = L at *
      have HL := Lib.hid hL
      have q8 : ((n : Int) == 0) = false := beq_eq_false_iff_ne.2 (by omega)
      have HBF := Lib.hid hbuf
      have HB2 := Lib.hid hb2
      clear hL hbuf hb2 hsl
      go_wp2_with (first
        | (go_at_call 28
           go_must (
             refine (HO.out _).mono ?_
             rintro e w3 ⟨A3, c3, rfl, rd3, hb3⟩
             have hbuf3 := HBF.out.stay hb3 (Nat.le_refl _)
             have hb3' := HB2.out.trans (hb3.mono HB2.out.size)
             have hz3 := hb3'.size))
        | (at_builtin
           go_must (
             refine buf_append _ rfl (.tmp 97) (.tmp 98) rfl wo.heap.size _ nm rfl hbuf3 _ _ L _ P rfl rd3 (by omega) hz3 ?_
             intro v4 w4 hbuf4 hb4
             have hb4' := hb3'.trans hb4)))
      go_roundw
      case rel => exact ⟨j + n, g3, nm ++ P, by omega, by omega, by omega, by go_num, hbuf4, (by rw [List.length_append, HL.out]; omega), hb4', HNR.out⟩
      case measure => simp [intOf]; omega

end Go.Proofs.YtgcknlfpedanpaaDoor

namespace Go.Proofs.YtgcknlfpedanpaaDoor
open Go.RowKit
set_option linter.unusedVariables false

/-- Where Same's loop is. -/
def RelSm (W : World) (l l' : List Pst) (i : Value) (wr : World) : Prop :=
  ∃ k : Nat, k ≤ l.length ∧ i = .int .i64 k ∧ l.take k = l'.take k ∧ Below W.heap.size W wr
/-- What Same answers. -/
def SmEnd (l l' : List Pst) (W : World) (e : Ending) (w' : World) : Prop := ∃ b, e = .returned (.bool b) ∧ (b = true ↔ l = l') ∧ Below W.heap.size W w'
theorem pst_eq {x y : Pst} (h1 : x.named = y.named) (h2 : x.name = y.name) (h3 : x.index = y.index) : x = y := by
  cases x; cases y; simp at h1 h2 h3; simp [h1, h2, h3]
theorem same_on {l l' : List Pst} {k : Nat} (h : k < l.length) (h' : k < l'.length) (ht : l.take k = l'.take k) (he : l[k] = l'[k]) : l.take (k + 1) = l'.take (k + 1) := by
  rw [List.take_succ_eq_append_getElem h, List.take_succ_eq_append_getElem h', ht, he]
theorem pst_not {l l' : List Pst} {k : Nat} (h : k < l.length) (h' : k < l'.length) (he : l[k] ≠ l'[k]) : ¬ l = l' := fun e => he (by subst e; rfl)
set_option maxRecDepth 100000 in
set_option maxHeartbeats 8000000 in
theorem same13_any (l l' : List Pst) (A A' : Option Addr) (n n' c c' : Nat) (W : World) (hx : RdP W A n l) (hx' : RdP W A' n' l') (h9 : n ≤ 100000) (h9' : n' ≤ 100000) :
    Calls Tryd.prog 16 #[.slice A n c, .slice A' n' c'] W (SmEnd l l' W) := by
  have hl : l.length = n := hx.1
  have hl' : l'.length = n' := hx'.1
  have HX := Lib.hid hx
  have HX' := Lib.hid hx'
  clear hx hx'
  by_cases hn : n = n'
  rotate_left
  · have q : ((n : Int) != n') = true := bne_iff_ne.2 (by omega)
    have HF := Lib.hid (show ¬ l = l' from fun e => hn (by rw [← hl, ← hl', e]))
    clear hl hl'
    go_enter Tryd.func16, Tryd.ntmps16
    go_wp2
    go_ret
    exact ⟨false, rfl, ⟨fun h => (by cases h), fun h => absurd h HF.out⟩, Below.refl _ _⟩
  subst hn
  have q : ((n : Int) != n) = false := by simp
  go_enter Tryd.func16, Tryd.ntmps16
  go_wp2
  go_loopw [13] (fun i wr => RelSm W l l' i wr) (fun i _ => l.length - (intOf i).toNat)
  case atStart => exact ⟨0, Nat.zero_le _, rfl, rfl, Below.refl _ _⟩
  case round =>
    obtain ⟨k, hk, rfl, ht, hb⟩ := hrel
    by_cases hlt : k < l.length
    rotate_left
    · have q2 : ¬ (k : Int) < n := by omega
      have HE := Lib.hid (show l = l' by rw [← List.take_of_length_le (l := l) (i := k) (by omega), ht, List.take_of_length_le (by omega)])
      clear ht
      go_wp2
      go_ret
      exact ⟨true, rfl, ⟨fun _ => HE.out, fun _ => rfl⟩, hb⟩
    have q2 : (k : Int) < n := by omega
    have hlt' : k < l'.length := by omega
    have hX2 := HX.out.stay hb
    have hX2' := HX'.out.stay hb
    obtain ⟨a, rfl, ha, hc⟩ := hX2.2 (by omega)
    obtain ⟨a', rfl, ha', hc'⟩ := hX2'.2 (by omega)
    obtain ⟨s0, s1, s2⟩ := hc k l[k] (List.getElem?_eq_getElem hlt)
    obtain ⟨t0, t1, t2⟩ := hc' k l'[k] (List.getElem?_eq_getElem hlt')
    have HON := Lib.hid (fun h => same_on hlt hlt' ht h)
    have HNO := Lib.hid (fun h => pst_not hlt hlt' h)
    clear hX2 hX2' hc hc' ht
    generalize l[k] = x at *
    generalize l'[k] = y at *
    by_cases h1 : x.named = y.named
    rotate_left
    · have HF := Lib.hid (HNO.out (fun e => h1 (by rw [e])))
      go_wp2_with fail
      go_region
      all_goals
        go_wp2
        go_ret
        exact ⟨false, rfl, ⟨fun h => (by cases h), fun h => absurd h HF.out⟩, below_drewN (n := 1) hb⟩
    by_cases h2 : x.name = y.name
    rotate_left
    · have HF := Lib.hid (HNO.out (fun e => h2 (by rw [e])))
      go_wp2_with fail
      go_region
      all_goals
        go_wp2
        go_ret
        exact ⟨false, rfl, ⟨fun h => (by cases h), fun h => absurd h HF.out⟩, below_drewN (n := 1) hb⟩
    by_cases h3 : x.index = y.index
    rotate_left
    · have HF := Lib.hid (HNO.out (fun e => h3 (by rw [e])))
      go_wp2_with fail
      go_region
      all_goals
        go_wp2
        go_ret
        exact ⟨false, rfl, ⟨fun h => (by cases h), fun h => absurd h HF.out⟩, below_drewN (n := 1) hb⟩
    have HT := Lib.hid (HON.out (pst_eq h1 h2 h3))
    go_wp2_with fail
    go_region
    all_goals
      go_wp2
      go_roundw
      case rel => exact ⟨k + 1, hlt, by go_num, HT.out, below_drewN (n := 1) hb⟩
      case measure => simp [intOf]; omega

end Go.Proofs.YtgcknlfpedanpaaDoor
