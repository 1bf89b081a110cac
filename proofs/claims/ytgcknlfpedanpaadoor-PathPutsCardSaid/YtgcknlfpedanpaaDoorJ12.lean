/- Package path: reading a name. -/
import Derived.Test.YtgcknlfpedanpaaDoorRows
import Derived.Test.YtgcknlfpedanpaaDoorJ03
import Derived.Test.YtgcknlfpedanpaaDoorJ07
import Derived.Test.YtgcknlfpedanpaaDoorJ08
import Derived.Test.YtgcknlfpedanpaaDoorJ09
import Derived.Test.YtgcknlfpedanpaaDoorJ10
import Derived.Test.YtgcknlfpedanpaaDoorJ11
import Derived.Deep.RegionHeld3
namespace Go.Proofs.YtgcknlfpedanpaaDoor
open Go.RowKit
set_option linter.unusedVariables false

theorem escC_le (l : List UInt8) : (escC l).2 ≤ l.length := by
  unfold escC
  split
  · rename_i h
    match l, h with
    | [], h => exact absurd rfl h
    | [_], h => exact absurd rfl h
    | _ :: _ :: _, _ => simp
  · unfold escD
    split
    · split
      · simp
      · simp
    · simp
theorem nameC_nil (f : Nat) (acc : List UInt8) : nameC f [] acc = none := by cases f <;> rfl
def lenV : Value → Nat
  | .string b => b.size
  | _ => 0
/-- The builder of the call's own, in its first new block. -/
def CnI (W : World) (acc : List UInt8) (w : World) : Prop := BldS w W.heap.size (fun k => W.heap.size ≤ k) acc ∧ Below W.heap.size W w
theorem CnI.on {W w w' : World} {acc : List UInt8} (h : CnI W acc w) (hb : Below w.heap.size w w') : CnI W acc w' :=
  ⟨h.1.bound.stay (G := fun k => w.heap.size ≤ k) (Touch.of_below hb (fun k _ h => h)) (fun k hk h e => by omega) |>.mono (fun k h => h.1), h.2.trans (hb.mono h.2.size)⟩
theorem CnI.drew {W w : World} {acc : List UInt8} (h : CnI W acc w) : CnI W acc w.drew := h.on ⟨rfl, rfl, rfl, Nat.le_refl _, fun _ _ => rfl⟩
theorem CnI.drewN {W w : World} {acc : List UInt8} (h : CnI W acc w) (n : Nat) : CnI W acc (w.drewN n) := h.on ⟨rfl, rfl, rfl, Nat.le_refl _, fun _ _ => rfl⟩
theorem CnI.below {W w : World} {acc : List UInt8} (h : CnI W acc w) : Below W.heap.size W w := h.2
theorem CnI.byte {W w : World} {acc : List UInt8} (h : CnI W acc w) (hl : acc.length ≤ 1000000000) (c : UInt8) :
    Calls Tryd.prog 33 #[.pointer (some ⟨W.heap.size, 0, none⟩), .int .u8 c.toNat] w fun e w' => e = .returned .nilIface ∧ CnI W (acc ++ [c]) w' := by
  refine (writeByte_any _ _ acc c w h.1 (by omega)).mono ?_
  rintro e w' ⟨rfl, h1, h2⟩
  have hz := h.2.size
  exact ⟨rfl, h1.mono (fun k hk => hk.elim id (fun h => by omega)), h.2.trans (h2.below (fun k _ h => h) hz)⟩
theorem bld_back {w : World} {b B : Nat} {l : List UInt8} (h : Lib.IsBuilderF 41 5 B b (Lib.byteCells l) w) : BldS w b (fun k => B ≤ k) l := by
  have e : Lib.byteCells l = byteCells l := rfl
  rw [e] at h
  have go : ∀ v, w.ownsRowF B 5 1 v (byteCells l).length (byteCells l) → w.ownsRowF 0 5 1 v l.length (byteCells l) ∧ ∀ g, v.ownBlock = some g → B ≤ g := by
    intro v hr
    rw [byteCells_length] at hr
    rcases hr with ⟨h1, hh | ⟨g, c, cur, fz, rfl, hb0, rest⟩⟩
    · refine ⟨⟨h1, .inl hh⟩, fun g hg => ?_⟩
      rw [hh.1] at hg
      simp [Value.ownBlock] at hg
    · exact ⟨⟨h1, .inr ⟨g, c, cur, fz, rfl, Nat.zero_le _, rest⟩⟩, fun g' hg => by simp [Value.ownBlock] at hg; omega⟩
  rcases h with ⟨hb, v, ho, hr, hn⟩ | ⟨hb, v, ho, hr, hn⟩
  · obtain ⟨r1, r2⟩ := go v hr
    exact ⟨_, v, .inl rfl, ho, r1, hb, fun g e => ⟨r2 g e, fun he => hn (he ▸ e)⟩⟩
  · obtain ⟨r1, r2⟩ := go v hr
    exact ⟨_, v, .inr rfl, ho, r1, hb, fun g e => ⟨r2 g e, fun he => hn (he ▸ e)⟩⟩
theorem CnI.str {W w : World} {acc : List UInt8} (h : CnI W acc w) (hl : acc.length ≤ 1000000000) :
    Calls Tryd.prog 22 #[.pointer (some ⟨W.heap.size, 0, none⟩)] w fun e w' => e = .returned (.string ⟨acc.toArray⟩) ∧ CnI W acc w' := by
  have hz := h.2.size
  refine (Tryd.Builder_String_any_k W.heap.size _ _ _ (BldS.is h.1 (B := W.heap.size) (fun k hk => hk)) (by omega)).mono ?_
  rintro e w3 ⟨rfl, hi, hb3, _⟩
  exact ⟨rfl, bld_back hi, h.2.trans hb3⟩
theorem CnI.start (W : World) : CnI W [] (W.alloc (.cells #[.pointer none, .slice none 0 0] 41)) :=
  ⟨BldS.fresh W (fun k => W.heap.size ≤ k) (Nat.le_refl _), (Below.refl _ _).alloc (Nat.le_refl _) _⟩

/-- Where cutName's loop is. -/
def RelCn (s0 : ByteArray) (W : World) (v : Value) (wr : World) : Prop :=
  ∃ (s : ByteArray) (acc : List UInt8) (f : Nat), v = .string s ∧ CnI W acc wr ∧ nameC f s.data.toList acc = nameC (s0.size + 1) s0.data.toList [] ∧ s.size < f ∧ acc.length + s.size ≤ s0.size
/-- What cutName answers. -/
def CnEnd (s0 : ByteArray) (W : World) (e : Ending) (w' : World) : Prop :=
  (match nameC (s0.size + 1) s0.data.toList [] with
    | none => e = .returned (.tuple #[.string ⟨#[]⟩, .string ⟨#[]⟩, .bool false])
    | some (nm, r) => e = .returned (.tuple #[.string ⟨nm.toArray⟩, .string ⟨r.toArray⟩, .bool true])) ∧ Below W.heap.size W w'
theorem CnEnd.no {s0 : ByteArray} {W w' : World} (h : nameC (s0.size + 1) s0.data.toList [] = none) (hb : Below W.heap.size W w') : CnEnd s0 W (.returned (.tuple #[.string ⟨#[]⟩, .string ⟨#[]⟩, .bool false])) w' := by
  unfold CnEnd
  rw [h]
  exact ⟨rfl, hb⟩
theorem CnEnd.yes {s0 : ByteArray} {W w' : World} {nm r : List UInt8} (h : nameC (s0.size + 1) s0.data.toList [] = some (nm, r)) (hb : Below W.heap.size W w') : CnEnd s0 W (.returned (.tuple #[.string ⟨nm.toArray⟩, .string ⟨r.toArray⟩, .bool true])) w' := by
  unfold CnEnd
  rw [h]
  exact ⟨rfl, hb⟩
theorem ba_list (s : ByteArray) : (⟨s.data.toList.toArray⟩ : ByteArray) = s := by simp
theorem ba_empty {s : ByteArray} (h : s.size = 0) : s = ⟨#[]⟩ := by
  have h1 : s.data.toList = [] := List.eq_nil_of_length_eq_zero h
  rw [← ba_list s, h1]
theorem neq_empty (s : ByteArray) (h : ¬ s.size = 0) : s.toList.isEmpty = false := by
  have e : s.toList = s.data.toList := Lib.toList_data s
  rw [e]
  cases hc : s.data.toList with
  | nil => exact absurd (show s.size = 0 from congrArg List.length hc) h
  | cons a b => rfl

set_option maxHeartbeats 4000000 in
set_option maxRecDepth 100000 in
theorem cutName_any (s0 : ByteArray) (hs : s0.size ≤ 1000000) (W : World) :
    Calls Tryd.prog 39 #[.string s0] W (CnEnd s0 W) := by
  have H0 := Lib.hid (CnI.start W)
  go_enter Tryd.func39, Tryd.ntmps39
  go_wp2
  go_loopw [0] (fun v wr => RelCn s0 W v wr) (fun v _ => lenV v)
  case atStart => exact ⟨s0, [], s0.size + 1, rfl, H0.out, rfl, by omega, by simp⟩
  case round =>
    obtain ⟨s, acc, f, rfl, hI, hn, hf, hl⟩ := hrel
    have HI := Lib.hid hI
    have hbw := hI.2
    have HBW := Lib.hid hbw
    clear hI hbw
    obtain ⟨f, rfl⟩ : ∃ g, f = g + 1 := ⟨f - 1, by omega⟩
    by_cases h0 : s.size = 0
    · obtain rfl := ba_empty h0
      have HN := Lib.hid (show nameC (s0.size + 1) s0.data.toList [] = none by rw [← hn]; rfl)
      clear hn
      go_wp2
      go_ret3
      exact CnEnd.no HN.out HBW.out
    · have hE := neq_empty s h0
      have g0 : 0 < s.size := by omega
      have hcons : s.data.toList = s[0] :: s.data.toList.drop 1 := by
        have hx : 0 < s.data.toList.length := g0
        have := List.drop_eq_getElem_cons hx
        rw [List.drop_zero] at this
        exact this
      have ht1 := tail13 s 1 (by omega)
      have hne : s.data.toList ≠ [] := fun e => h0 (congrArg List.length e)
      have hh : s.data.toList.head? = some s[0] := by rw [hcons]; rfl
      have htl : s.data.toList.tail = s.data.toList.drop 1 := by simp
      have hhd : s.data.toList.headD 0 = s[0] := by rw [hcons]; rfl
      rw [nameC_on, if_neg hne, hh, htl, hhd] at hn
      clear hcons hne hh htl hhd
      by_cases h39 : s[0] = 39
      · rw [if_pos (by rw [h39])] at hn
        have HN := Lib.hid hn.symm
        have g39 : ((s[0].toNat : Int) != 39) = false := by rw [h39]; rfl
        have hal : acc.length ≤ 1000000000 := by omega
        have g1I : (1 : Int) ≤ s.size := by omega
        have hSt : Lib.hasPrefix [] [] = true := rfl
        clear hn h39 hf hl
        have hS : CnI W acc wr := HI.out
        go_upto_region 12 with fail
        go_region_held3 (fun w' => CnI W acc w')
          (first | assumption | exact CnI.drew (by assumption))
          (first | (go_at_call 22; with_reducible refine (CnI.str (by assumption) hal).mono ?_; rintro e w' ⟨rfl, hb'⟩))
        all_goals
          go_wp2
          go_ret3
          have := CnEnd.yes (s0 := s0) (W := W) HN.out (CnI.below (acc := acc) (by assumption))
          rw [← ht1, ba_list] at this
          exact this
      · rw [if_neg (by simp [h39])] at hn
        have g39 : ((s[0].toNat : Int) != 39) = true := by
          rw [bne_iff_ne]
          intro e
          exact h39 (UInt8.toNat_inj.1 (by show s[0].toNat = 39; omega))
        by_cases h92 : s[0] = 92
        · rw [if_pos (by rw [h92])] at hn
          have HX := Lib.hid (fun w => escape_any s (by omega) w)
          have hle := escC_le s.data.toList
          have hsl : s.data.toList.length = s.size := rfl
          generalize hec : escC s.data.toList = ec at *
          obtain ⟨c, n⟩ := ec
          have g92 : ((s[0].toNat : Int) == 92) = true := by rw [h92]; rfl
          have hle : n ≤ s.size := hle
          by_cases hn0 : n = 0
          · subst hn0
            have HN := Lib.hid (show nameC (s0.size + 1) s0.data.toList [] = none by rw [← hn]; rfl)
            clear hn hec hle
            go_wp2_with (go_at_call 52; refine (HX.out _).mono ?_; rintro e w' ⟨rfl, hb⟩; have HB1 := Lib.hid (HBW.out.trans (hb.mono HBW.out.size)); clear hb)
            go_ret3
            exact CnEnd.no HN.out HB1.out
          · have hn : nameC f (s.data.toList.drop n) (acc ++ [c]) = nameC (s0.size + 1) s0.data.toList [] := by
              rw [← hn]
              exact (if_neg hn0).symm
            have htn := tail13 s n hle
            rw [← htn] at hn
            have hz : (s.extract n s.size).size = s.size - n := by rw [ByteArray.size_extract]; omega
            have HN := Lib.hid hn
            have HZ := Lib.hid hz
            have nI : ((n : Int) == 0) = false := beq_eq_false_iff_ne.2 (by omega)
            have hal : acc.length ≤ 1000000000 := by omega
            clear hn hec htn hz
            go_wp2_with (first
              | (go_at_call 52; refine (HX.out _).mono ?_; rintro e w1 ⟨rfl, hb1⟩; have HI1 := Lib.hid (HI.out.on hb1); clear hb1)
              | (go_at_call 33; refine (CnI.byte HI1.out hal c).mono ?_; rintro e w2 ⟨rfl, hi2⟩; have HI2 := Lib.hid hi2; clear hi2))
            go_roundw
            case rel => exact ⟨_, _, f, rfl, HI2.out, HN.out, by rw [HZ.out]; omega, by rw [HZ.out]; simp; omega⟩
            case measure => simp only [lenV]; rw [HZ.out]; omega
        · rw [if_neg (by simp [h92])] at hn
          have g92 : ((s[0].toNat : Int) == 92) = false := by
            rw [beq_eq_false_iff_ne]
            intro e
            exact h92 (UInt8.toNat_inj.1 (by show s[0].toNat = 92; omega))
          rw [← ht1] at hn
          have hz : (s.extract 1 s.size).size = s.size - 1 := by rw [ByteArray.size_extract]; omega
          have HN := Lib.hid hn
          have HZ := Lib.hid hz
          have hal : acc.length ≤ 1000000000 := by omega
          clear hn ht1 hz h92 h39
          go_wp2_with (go_at_call 33; refine (CnI.byte HI.out hal s[0]).mono ?_; rintro e w2 ⟨rfl, hi2⟩; have HI2 := Lib.hid hi2; clear hi2)
          go_roundw
          case rel => exact ⟨_, _, f, rfl, HI2.out, HN.out, by rw [HZ.out]; omega, by rw [HZ.out]; simp; omega⟩
          case measure => simp only [lenV]; rw [HZ.out]; omega

end Go.Proofs.YtgcknlfpedanpaaDoor
