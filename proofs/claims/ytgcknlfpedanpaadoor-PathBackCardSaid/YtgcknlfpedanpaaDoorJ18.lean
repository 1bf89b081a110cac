/- The walks of layer 13's laws over what package path is proved to do: the bundle, great, pathAlive, PathParses. -/
import Derived.Test.YtgcknlfpedanpaaDoorRows
import Derived.Test.YtgcknlfpedanpaaDoorJ03
import Derived.Test.YtgcknlfpedanpaaDoorJ07
import Derived.Test.YtgcknlfpedanpaaDoorJ08
import Derived.Test.YtgcknlfpedanpaaDoorJ09
import Derived.Test.YtgcknlfpedanpaaDoorJ12
import Derived.Test.YtgcknlfpedanpaaDoorJ13
import Derived.Test.YtgcknlfpedanpaaDoorJ15
import Derived.Test.YtgcknlfpedanpaaDoorJ17
import Derived.Deep.RegionHeld3
namespace Go.Proofs.YtgcknlfpedanpaaDoor
open Go.RowKit
set_option linter.unusedVariables false

theorem rdp_of {w : World} {A : Option Addr} {m : Nat} {l : List Pst} (h : RdG stpK w A m l) : RdP w A m l := by
  refine ⟨h.1, fun hm => ?_⟩
  obtain ⟨b, o, hA, hb, _⟩ := h.2 hm
  refine ⟨⟨b, o, none⟩, hA, hb, fun i s hs => ?_⟩
  rw [add_none]
  have c0 := RdG.at h hA hs (j := 0) (u := .bool s.named) rfl
  have c1 := RdG.at h hA hs (j := 1) (u := .string ⟨s.name.toArray⟩) rfl
  have c2 := RdG.at h hA hs (j := 2) (u := .int .i64 s.index) rfl
  exact ⟨c0, c1, c2⟩
theorem wt_cons (s : Pst) (l : List Pst) : wtP (s :: l) = s.name.length + 1 + wtP l := by unfold wtP; simp
theorem step_long (s : Pst) (h : rightB s = true) : s.name.length + 1 ≤ (stepT s).length := by
  unfold stepT
  cases hn : s.named
  · obtain ⟨h0, _, _⟩ := right_index h hn
    rw [h0, if_neg (by decide)]
    simp
  · obtain ⟨_, hb⟩ := right_name h hn
    have := name_len s.name.length s.name (Nat.le_refl _) hb
    rw [if_pos rfl]
    unfold nameT
    simp
    omega
theorem flat_long : ∀ l : List Pst, l.all rightB = true → wtP l ≤ (l.flatMap stepT).length
  | [], _ => Nat.zero_le _
  | s :: l, h => by
    simp only [List.all_cons, Bool.and_eq_true] at h
    have h1 := step_long s h.1
    have h2 := flat_long l h.2
    rw [show (s :: l).flatMap stepT = stepT s ++ l.flatMap stepT from rfl, List.length_append, wt_cons]
    omega
theorem parse_wt {l : List UInt8} {k : List Pst} (h : parseM l = some k) : wtP k ≤ l.length := by
  obtain ⟨h1, h2⟩ := (parse_iff l k).1 h
  have := flat_long k h1
  unfold putP at h2
  rw [if_pos h1] at h2
  rw [← h2, List.length_cons]
  omega
theorem got_wt (l : List UInt8) : wtP ((parseM l).getD []) ≤ l.length := by
  cases h : parseM l with
  | none => exact Nat.zero_le _
  | some k => exact parse_wt h

/-- What Parse answers, the program's or the document's. -/
def PaEnd (l : List UInt8) (W : World) (e : Ending) (w' : World) : Prop :=
  ∃ A n c, e = .returned (.tuple #[.slice A n c, .bool (parseM l).isSome]) ∧ RdP w' A n ((parseM l).getD []) ∧ n ≤ l.length ∧ Below W.heap.size W w'
theorem pa_of {l : List UInt8} {W w' : World} {e : Ending} (h : PsEnd l W e w') : PaEnd l W e w' := by
  obtain ⟨hb, ⟨hn, rfl⟩ | ⟨d, v, hs, rfl, hr, hl⟩⟩ := h
  · refine ⟨none, 0, 0, by rw [hn]; rfl, ?_, Nat.zero_le _, hb⟩
    rw [hn]
    exact ⟨rfl, fun h => absurd h (by omega)⟩
  · obtain ⟨A, c, rfl, _⟩ := hr.form
    refine ⟨A, d.length, c, by rw [hs]; rfl, ?_, hl, hb⟩
    rw [hs]
    exact rdp_of hr.rd
/-- What package path does, where G holds of the package-level variables. -/
structure PathC (G : World → Prop) : Prop where
  stay : ∀ w w', G w → Below w.heap.size w w' → G w'
  right : ∀ (s : Pst) (w : World), s.name.length ≤ maxLen → Calls Tryd.prog 8 #[.agg (stpV s)] w fun e w' => e = .returned (.bool (rightB s)) ∧ Below w.heap.size w w'
  put : ∀ (l : List Pst) (A : Option Addr) (n c : Nat) (w : World), G w → RdP w A n l → wtP l ≤ 1000 → Calls Tryd.prog 10 #[.slice A n c] w fun e w' => e = .returned (.string ⟨(putP l).toArray⟩) ∧ Below w.heap.size w w'
  name : ∀ (s : ByteArray) (w : World), s.size ≤ 1000 → Calls Tryd.prog 12 #[.string s] w fun e w' => e = .returned (.string ⟨(nameT s.data.toList).toArray⟩) ∧ Below w.heap.size w w'
/-- And Parse. -/
structure ParC (G : World → Prop) : Prop where
  parse : ∀ (s : ByteArray) (w : World), G w → s.size ≤ 100000 → Calls Tryd.prog 14 #[.string s] w (PaEnd s.data.toList w)
theorem PathC.go {G : World → Prop} (C : PathC G) {W w : World} (h : G W) (hb : Below W.heap.size W w) : G w := C.stay W w h hb

theorem alive_text : putP [⟨true, [97, 39, 98], 0⟩, ⟨false, [], 0⟩] = [36, 91, 39, 97, 92, 39, 98, 39, 93, 91, 48, 93] := by decide +kernel
set_option maxRecDepth 100000 in
set_option maxHeartbeats 4000000 in
theorem pathAlive_walk {G : World → Prop} (C : PathC G) (W : World) (hG : G W) : Calls Tryd.prog 6 #[] W fun e w' => e = .returned (.bool true) ∧ Below W.heap.size W w' := by
  have HR := Lib.hid (rdp_of (GRow.made (K := stpK) (base := 0) (l := [⟨true, [97, 39, 98], 0⟩, ⟨false, [], 0⟩]) W _ rfl (by decide) (Nat.zero_le _)).rd)
  have HP := Lib.hid (fun A n c w hb h => C.put [⟨true, [97, 39, 98], 0⟩, ⟨false, [], 0⟩] A n c w (C.go hG hb) h (by decide))
  rw [alive_text] at HP
  have HB := Lib.hid (fun o => below1 W o)
  go_enter Tryd.func6, Tryd.ntmps6
  go_wp2_with (
    (go_at_call 10
     go_must (
       refine (HP.out _ _ _ _ (HB.out _) HR.out).mono ?_
       rintro e w3 ⟨rfl, hb3⟩
       have HB3 := Lib.hid ((HB.out _).trans (hb3.mono (HB.out _).size))
       clear hb3)))
  go_ret
  exact ⟨rfl, HB3.out⟩

/-- Where great's loop is. -/
def RelGr (W : World) (l : List Pst) (n i : Value) (wr : World) : Prop :=
  ∃ k : Nat, k ≤ l.length ∧ i = .int .i64 k ∧ n = .int .i64 (wtP (l.take k)) ∧ wtP (l.take k) ≤ 1000 ∧ Below W.heap.size W wr
theorem wt_app (a b : List Pst) : wtP (a ++ b) = wtP a + wtP b := by unfold wtP; rw [List.map_append, List.sum_append]
theorem wt_on {l : List Pst} {k : Nat} (h : k < l.length) : wtP (l.take (k + 1)) = wtP (l.take k) + (l[k].name.length + 1) := by
  rw [List.take_succ_eq_append_getElem h, wt_app, wt_cons]
  rfl

set_option maxRecDepth 100000 in
set_option maxHeartbeats 4000000 in
theorem great13_any (l : List Pst) (A : Option Addr) (n c : Nat) (W : World) (hx : RdP W A n l) (hn : ∀ s ∈ l, s.name.length ≤ 140737488351232) :
    Calls Tryd.prog 7 #[.slice A n c] W fun e w' => e = .returned (.bool (decide (1000 < wtP l))) ∧ Below W.heap.size W w' := by
  have hl : l.length = n := hx.1
  have HX := Lib.hid hx
  clear hx
  go_enter Tryd.func7, Tryd.ntmps7
  go_wp2
  go_loopw [3, 8] (fun s i wr => RelGr W l s i wr) (fun _ i _ => l.length - (intOf i).toNat)
  case atStart => exact ⟨0, Nat.zero_le _, rfl, rfl, Nat.zero_le _, Below.refl _ _⟩
  case round =>
    obtain ⟨k, hk, rfl, rfl, hg, hb⟩ := hrel
    have hk9 : (k : Int) ≤ 1000 := by
      have := wt_length (l.take k)
      rw [List.length_take] at this
      omega
    by_cases hlt : k < l.length
    rotate_left
    · have hltI : ¬ (k : Int) < n := by omega
      have HD := Lib.hid (show decide (1000 < wtP l) = false by
        rw [List.take_of_length_le (by omega)] at hg
        exact decide_eq_false (by omega))
      clear hg
      go_wp2
      go_ret
      rw [HD.out]
      exact ⟨rfl, hb⟩
    have hltI : (k : Int) < n := by omega
    have hX2 := HX.out.stay hb
    obtain ⟨a, rfl, ha, hc⟩ := hX2.2 (by omega)
    obtain ⟨s0, s1, s2⟩ := hc k l[k] (List.getElem?_eq_getElem hlt)
    have hw := wt_on hlt
    have hwt := wt_take l (k + 1)
    have hm := hn _ (List.getElem_mem hlt)
    have hsz : (⟨l[k].name.toArray⟩ : ByteArray).size = l[k].name.length := rfl
    have o1 := Own.fresh wr 26 #[.bool l[k].named, .string ⟨l[k].name.toArray⟩, .int .i64 l[k].index]
    have e1 := o1.at 1
    simp at e1
    have HBA := Lib.hid (hb.alloc hb.size (.cells #[.bool l[k].named, .string ⟨l[k].name.toArray⟩, .int .i64 l[k].index] 26))
    have HW := Lib.hid hw
    have HWT := Lib.hid hwt
    clear hc hX2 o1 hw hwt
    generalize l[k] = sk at *
    generalize wtP (l.take k) = u at *
    generalize hz : (⟨sk.name.toArray⟩ : ByteArray) = nm at *
    rw [← hsz] at HW hm
    have hgI : (u : Int) ≤ 1000 := by omega
    have hmI : (nm.size : Int) ≤ 140737488351232 := by omega
    by_cases hbig : u + (nm.size + 1) > 1000
    · have q1 : (u : Int) + (nm.size + 1) > 1000 := by omega
      have HD := Lib.hid (show decide (1000 < wtP l) = true from decide_eq_true (by have := HW.out; have := HWT.out; omega))
      clear HW HWT
      go_wp2
      go_ret
      rw [HD.out]
      exact ⟨rfl, HBA.out⟩
    · have q1 : ¬ (u : Int) + (nm.size + 1) > 1000 := by omega
      go_wp2
      go_roundw
      case rel => exact ⟨k + 1, hlt, by go_num, (by rw [HW.out]; go_num), (by rw [HW.out]; omega), HBA.out⟩
      case measure => simp [intOf]; omega

set_option maxRecDepth 100000 in
set_option maxHeartbeats 4000000 in
theorem pathParses_core {G : World → Prop} (C : PathC G) (D : ParC G) (s : ByteArray) (W : World) (hG : G W) (hs : s.size ≤ maxLen) :
    Calls Tryd.prog 4 #[.string s] W fun e w' => e = .returned (.bool true) ∧ Below W.heap.size W w' := by
  have KV := Lib.hid (pathAlive_walk C W hG)
  unfold maxLen at hs
  by_cases h9 : s.size > 1000
  · have q : (s.size : Int) > 1000 := by omega
    go_enter Tryd.func4, Tryd.ntmps4
    go_wp2_with (go_at_call 6; refine KV.out.mono ?_; rintro e w1 ⟨rfl, hb1⟩)
    go_ret
    exact ⟨rfl, hb1⟩
  have q : ¬ (s.size : Int) > 1000 := by omega
  have KP := Lib.hid (fun w hb => D.parse s w (C.go hG hb) (by omega))
  have KR := Lib.hid (fun w => (parse13_any s w (by omega)).mono fun e w' h => pa_of h)
  unfold PaEnd at KP KR
  rw [show s.data.toList.length = s.size from rfl] at KP KR
  generalize (parseM s.data.toList).isSome = ok at *
  generalize (parseM s.data.toList).getD [] = d at *
  have qq : (ok == ok) = true := by simp
  go_enter Tryd.func4, Tryd.ntmps4
  go_wp2_with (first
    | (go_at_call 6; refine KV.out.mono ?_; rintro e w1 ⟨rfl, hb1⟩)
    | (go_at_call 14
       go_must (
         refine (KP.out _ hb1).mono ?_
         rintro e w2 ⟨A2, n2, c2, rfl, r2, l2, hb2⟩
         have HB2 := Lib.hid (hb1.trans (hb2.mono hb1.size))
         have R2 := Lib.hid r2
         clear hb1 hb2 r2))
    | (go_at_call 15
       go_must (
         refine (KR.out _).mono ?_
         rintro e w3 ⟨A3, n3, c3, rfl, r3, l3, hb3⟩
         have HB3 := Lib.hid (HB2.out.trans (hb3.mono HB2.out.size))
         have R2 := Lib.hid (R2.out.stay hb3)
         have R3 := Lib.hid r3
         clear hb3 r3))
    | (go_at_call 16
       go_must (
         refine (same13_any d d A2 A3 n2 n3 c2 c3 _ R2.out R3.out (by omega) (by omega)).mono ?_
         rintro e w4 ⟨b4, rfl, hb, hb4⟩
         obtain rfl := hb.2 rfl
         have HB4 := Lib.hid (HB3.out.trans (hb4.mono HB3.out.size))
         clear hb hb4)))
  go_ret
  exact ⟨rfl, HB4.out⟩

end Go.Proofs.YtgcknlfpedanpaaDoor

namespace Go.Proofs.YtgcknlfpedanpaaDoor
open Go.RowKit
set_option linter.unusedVariables false
set_option linter.unusedSimpArgs false

/-- The steps that package path reads in a text. -/
def readC (l : List UInt8) : Option (List Pst) := if l.head? = some 36 then stepsC (l.tail.length + 1) l.tail else none
theorem read_of {l : List UInt8} {k : List Pst} (h : parseM l = some k) : readC l = some k := by
  obtain ⟨h1, h2⟩ := (parse_iff l k).1 h
  unfold putP at h2
  rw [if_pos h1] at h2
  subst h2
  unfold readC
  rw [if_pos (by rfl)]
  exact steps_back k _ h1 (Nat.lt_succ_self _)
theorem read_no {l : List UInt8} (h : readC l = none) : parseM l = none := by
  cases hp : parseM l with
  | none => rfl
  | some k => rw [read_of hp] at h; cases h
theorem read_head {l : List UInt8} {k : List Pst} (h : readC l = some k) : l.head? = some 36 := by
  unfold readC at h
  split at h
  · assumption
  · cases h
theorem readC_put {l : List UInt8} {k : List Pst} (h : readC l = some k) : parseM l = if putP k = l then some k else none := by
  by_cases hp : putP k = l
  · rw [if_pos hp]
    refine (parse_iff l k).2 ⟨?_, hp⟩
    by_cases ha : k.all rightB = true
    · exact ha
    · exfalso
      unfold putP at hp
      rw [if_neg ha] at hp
      have := read_head h
      rw [← hp] at this
      cases this
  · rw [if_neg hp]
    cases hq : parseM l with
    | none => rfl
    | some k' =>
      exfalso
      have e := read_of hq
      rw [h] at e
      obtain rfl := Option.some.inj e
      exact hp ((parse_iff l _).1 hq).2
/-- Where Parse's loop is. -/
def RelPr (s : ByteArray) (W : World) (vr vo vl : Value) (wr : World) : Prop :=
  ∃ (r : ByteArray) (ok : Bool) (k : List Pst), vr = .string r ∧ vo = .bool ok ∧ GRow stpK wr W.heap.size vl k ∧ Below W.heap.size W wr ∧ k.length ≤ s.size + 1 ∧
    (ok = false → readC s.data.toList = none) ∧ (ok = true → wtP k + r.size ≤ s.size ∧ ∃ f, r.size < f ∧ readC s.data.toList = (stepsC f r.data.toList).map (k ++ ·))
def okV : Value → Value → Nat
  | .string b, .bool true => b.size + 1
  | _, _ => 0
theorem paEnd_no {l : List UInt8} {W w' : World} (h : parseM l = none) (hb : Below W.heap.size W w') : PaEnd l W (.returned (.tuple #[.slice none 0 0, .bool false])) w' :=
  pa_of (psEnd_none h hb)
theorem wt_snoc (k : List Pst) (s : Pst) : wtP (k ++ [s]) = wtP k + (s.name.length + 1) := by
  rw [wt_app, wt_cons]
  rfl
theorem wt_len (l : List Pst) : l.length ≤ wtP l := wt_length l

set_option maxRecDepth 100000 in
set_option maxHeartbeats 8000000 in
theorem parse13p_any (s : ByteArray) (W : World) (hT : Tab13 W) (h9 : s.size ≤ 100000) :
    Calls Tryd.prog 14 #[.string s] W (PaEnd s.data.toList W) := by
  have HC := Lib.hid (fun w => Tryd.strings_CutPrefix s ⟨#[36]⟩ w)
  rw [show (⟨#[36]⟩ : ByteArray).data.toList = [36] from rfl, pre_one] at HC
  have HT := Lib.hid hT
  clear hT
  have hstart : ∃ (tr : List UInt8) (ok : Bool), Lib.trimPrefix s.data.toList [36] = tr ∧ decide (s.data.toList.head? = some 36) = ok ∧ RelPr s W (.string ⟨tr.toArray⟩) (.bool ok) (.slice none 0 0) W := by
    refine ⟨_, _, rfl, rfl, _, _, [], rfl, rfl, GRow.nil W _, Below.refl _ _, by simp, fun h => ?_, fun h => ?_⟩
    · unfold readC
      rw [if_neg (of_decide_eq_false h)]
    · have h := of_decide_eq_true h
      rw [trim_one _ _ h]
      refine ⟨?_, s.data.toList.tail.length + 1, ?_, ?_⟩
      · show 0 + s.data.toList.tail.length ≤ s.data.toList.length
        rw [List.length_tail]; omega
      · exact Nat.lt_succ_self _
      · unfold readC
        rw [if_pos h]
        show _ = Option.map _ (stepsC _ s.data.toList.tail)
        cases stepsC (s.data.toList.tail.length + 1) s.data.toList.tail <;> rfl
  obtain ⟨tr, ok0, e1, e2, hR0⟩ := hstart
  rw [e1, e2] at HC
  have HR0 := Lib.hid hR0
  clear e1 e2 hR0
  go_enter Tryd.func14, Tryd.ntmps14
  go_wp2_with (go_at_call 25; refine (HC.out _).mono ?_; rintro e w' ⟨rfl, rfl⟩)
  go_loopw [4, 5, 6] (fun vr vo vl wr => RelPr s w' vr vo vl wr) (fun vr vo _ _ => okV vr vo)
  case atStart => exact HR0.out
  case round =>
    obtain ⟨r, ok, k, rfl, rfl, hrow, hb, hkl, hno, hyes⟩ := hrel
    cases ok with
    | false =>
      have HP := Lib.hid (read_no (hno rfl))
      have HB := Lib.hid hb
      clear hrow hno hyes hkl hb
      go_wp2
      go_ret2
      exact paEnd_no HP.out HB.out
    | true =>
      obtain ⟨hwt, f, hf, hrd⟩ := hyes rfl
      clear hno hyes
      obtain ⟨f, rfl⟩ : ∃ g, f = g + 1 := ⟨f - 1, by omega⟩
      by_cases h0 : r.size = 0
      · obtain rfl := ba_empty h0
        have hrc : readC s.data.toList = some k := by rw [hrd]; show (some []).map (k ++ ·) = _; simp
        have hpm := readC_put hrc
        obtain ⟨A, c, rfl, _⟩ := hrow.form
        have hrdp := rdp_of hrow.rd
        have HPut := Lib.hid (put13p_any k A k.length c wr (HT.out.1.stay hb) hrdp (by omega))
        have HB := Lib.hid hb
        have HRD := Lib.hid hrdp
        by_cases hp : putP k = s.data.toList
        · rw [if_pos hp] at hpm
          rw [hp, ba_list] at HPut
          have hkk : k.length ≤ s.size := by have := wt_len k; omega
          have HE := Lib.hid (fun (w2 : World) (hb2 : Below wr.heap.size wr w2) => show PaEnd s.data.toList w' (.returned (.tuple #[.slice A k.length c, .bool true])) w2 from ⟨A, k.length, c, by rw [hpm]; rfl, by rw [hpm]; exact HRD.out.stay hb2, hkk, HB.out.trans (hb2.mono HB.out.size)⟩)
          clear hrow hrc hpm hrdp hp hrd hf hwt hb
          go_wp2_with (go_at_call 10; refine HPut.out.mono ?_; rintro e w2 ⟨rfl, hb2⟩; have HB2 := Lib.hid hb2; clear hb2)
          go_ret2
          exact HE.out _ HB2.out
        · rw [if_neg hp] at hpm
          have hne : ((⟨(putP k).toArray⟩ : ByteArray).toList == s.toList) = false := by
            rw [beq_eq_false_iff_ne, Lib.toList_data, Lib.toList_data]
            exact hp
          have hne2 : ((⟨(putP k).toArray⟩ : ByteArray).toList != s.toList) = true := by unfold bne; rw [hne]; rfl
          have HPM := Lib.hid hpm
          clear hrow hrc hpm hrdp hp hrd hf hwt hb
          generalize (⟨(putP k).toArray⟩ : ByteArray) = pb at *
          go_wp2_with (go_at_call 10; refine HPut.out.mono ?_; rintro e w2 ⟨rfl, hb2⟩; have HB2 := Lib.hid hb2; clear hb2)
          go_ret2
          exact paEnd_no HPM.out (HB.out.trans (HB2.out.mono HB.out.size))
      · have hE := neq_empty r h0
        have hrne : r.data.toList ≠ [] := fun e => h0 (congrArg List.length e)
        rw [stepsC_on, if_neg hrne] at hrd
        have hkw := wt_len k
        have HS := Lib.hid (fun w hw => cutStep_any r (by omega) w hw)
        unfold CsEnd at HS
        have o1 := Own.fresh wr 26 #[.bool false, .string ⟨#[]⟩, .int .i64 0]
        have HO := Lib.hid o1
        have HTA := Lib.hid ((HT.out.2.stay hb).stay (below1 wr (.cells #[.bool false, .string ⟨#[]⟩, .int .i64 0] 26)))
        have HB := Lib.hid hb
        have HROW := Lib.hid hrow
        have HLOW := Lib.hid (fun g' hg' => (hrow.low (g := g') hg').1)
        have hcs : ∃ (st : Pst) (r2 : ByteArray) (ok2 : Bool), (∀ w, Err13 w → Calls Tryd.prog 26 #[.string r] w fun e w2 => ∃ (st : Pst) (r2 : ByteArray) (ok2 : Bool), (∀ wn vl, GRow stpK wn w'.heap.size vl (k ++ [st]) → Below w'.heap.size w' wn → RelPr s w' (.string r2) (.bool ok2) vl wn) ∧ okV (.string r2) (.bool ok2) < okV (.string r) (.bool true) ∧ e = .returned (.tuple #[.agg #[.bool st.named, .string ⟨st.name.toArray⟩, .int .i64 st.index], .string r2, .bool ok2]) ∧ Below w.heap.size w w2) := by
          refine ⟨⟨false, [], 0⟩, ⟨#[]⟩, false, fun w hw => (HS.out w hw).mono ?_⟩
          rintro e w2 ⟨he, hb2⟩
          cases hc : cutC r.data.toList with
          | none =>
            rw [hc] at he hrd
            obtain ⟨st, r2, rfl⟩ := he
            refine ⟨st, r2, false, fun wn vl hrow2 hbn => ⟨r2, false, k ++ [st], rfl, rfl, hrow2, hbn, ?_, fun _ => by rw [hrd]; rfl, fun h => by cases h⟩, ?_, rfl, hb2⟩
            · rw [List.length_append]; show k.length + 1 ≤ _; omega
            · show 0 < r.size + 1; omega
          | some p =>
            obtain ⟨st, r2⟩ := p
            rw [hc] at he hrd
            have he : e = .returned (.tuple #[.agg (stpV st), .string ⟨r2.toArray⟩, .bool true]) := he
            subst he
            have hw2 := cut_wt hc
            have hrl : r.data.toList.length = r.size := rfl
            have hr2 : (⟨r2.toArray⟩ : ByteArray).size = r2.length := rfl
            refine ⟨st, ⟨r2.toArray⟩, true, fun wn vl hrow2 hbn => ⟨_, true, k ++ [st], rfl, rfl, hrow2, hbn, ?_, (fun h => by cases h), fun _ => ⟨?_, f, ?_, ?_⟩⟩, ?_, rfl, hb2⟩
            · rw [List.length_append]; show k.length + 1 ≤ _; omega
            · rw [wt_snoc, hr2]; omega
            · rw [hr2]; omega
            · rw [hrd]
              show Option.map _ (Option.map _ (stepsC f r2)) = Option.map _ (stepsC f r2)
              cases stepsC f r2 with
              | none => rfl
              | some x => simp
            · show r2.length + 1 < r.size + 1; omega
        obtain ⟨_, _, _, hcs⟩ := hcs
        have HCS := Lib.hid hcs
        have hkk : k.length ≤ 100001 := by omega
        clear hcs hrow hrd hrne HS o1 hf hwt hkw hb h0
        go_wp2_with (first
          | (go_at_call 26
             go_must (
               refine (HCS.out _ HTA.out).mono ?_
               rintro e w1 ⟨st, r2, ok2, hrel2, hme2, rfl, hb1⟩
               have o1 := HO.out.stay hb1 HO.out.inside
               have g0 : w1.cell? ⟨wr.heap.size, 0, none⟩ = some (.bool false) := o1.at 0
               have g1 : w1.cell? ⟨wr.heap.size, 1, none⟩ = some (.string ⟨#[]⟩) := o1.at 1
               have g2 : w1.cell? ⟨wr.heap.size, 2, none⟩ = some (.int .i64 0) := o1.at 2
               have e0 := o1.free 0
               have e1 := o1.free 1
               have e2 := o1.free 2
               have o2 : Own (((w1.setCell ⟨wr.heap.size, 0, none⟩ (.bool st.named)).setCell ⟨wr.heap.size, 1, none⟩ (.string ⟨st.name.toArray⟩)).setCell ⟨wr.heap.size, 2, none⟩ (.int .i64 st.index)) wr.heap.size 26 #[.bool st.named, .string ⟨st.name.toArray⟩, .int .i64 st.index] := by
                 simpa using ((o1.put 0 (.bool st.named)).put 1 (.string ⟨st.name.toArray⟩)).put 2 (.int .i64 st.index)
               have d0 := o2.at 0
               have d1 := o2.at 1
               have d2 := o2.at 2
               have hbs : Below wr.heap.size wr (((w1.setCell ⟨wr.heap.size, 0, none⟩ (.bool st.named)).setCell ⟨wr.heap.size, 1, none⟩ (.string ⟨st.name.toArray⟩)).setCell ⟨wr.heap.size, 2, none⟩ (.int .i64 st.index)) :=
                 ((((below1 wr _).trans (hb1.mono (by simp))).setCell (Nat.le_refl _) _).setCell (Nat.le_refl _) _).setCell (Nat.le_refl _) _
               have HBS := Lib.hid hbs
               have HREL := Lib.hid hrel2
               have HME := Lib.hid hme2
               have hnew := new_step (((w1.setCell ⟨wr.heap.size, 0, none⟩ (.bool st.named)).setCell ⟨wr.heap.size, 1, none⟩ (.string ⟨st.name.toArray⟩)).setCell ⟨wr.heap.size, 2, none⟩ (.int .i64 st.index)) st.named st.name st.index
               have hz2 : (((w1.setCell ⟨wr.heap.size, 0, none⟩ (.bool st.named)).setCell ⟨wr.heap.size, 1, none⟩ (.string ⟨st.name.toArray⟩)).setCell ⟨wr.heap.size, 2, none⟩ (.int .i64 st.index)).heap.size = w1.heap.size := by simp
               rw [hz2] at hnew
               have HNEW := Lib.hid hnew
               clear hnew hz2
               clear o1 o2 hbs hrel2 hme2 hb1))
          | (at_builtin
             go_must (
               refine row_append (K := stpK) _ rfl (.tmp 24) (.tmp 26) rfl w'.heap.size _ k rfl (HROW.out.on (HBS.out.alloc HBS.out.size _) (Nat.le_refl _)) _ 1 1 [st] rfl HNEW.out (by omega) (Nat.le_trans HB.out.size (HBS.out.alloc HBS.out.size _).size) ?_
               intro v4 w4 row4 grown4 at4
               have HB4 := Lib.hid (below_grown (HB.out.trans ((HBS.out.alloc HBS.out.size _).mono HB.out.size)) grown4 (Nat.le_trans HB.out.size (HBS.out.alloc HBS.out.size _).size) HLOW.out)
               clear grown4 at4)))
        go_roundw
        case rel => exact HREL.out _ _ row4 HB4.out
        case measure => exact HME.out

end Go.Proofs.YtgcknlfpedanpaaDoor
