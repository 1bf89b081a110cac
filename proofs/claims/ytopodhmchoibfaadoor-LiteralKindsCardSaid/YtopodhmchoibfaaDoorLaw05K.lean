/- The walk of LiteralKinds. -/
import Derived.Test.YtopodhmchoibfaaDoorLaw05
import Derived.Deep.RegionWith
import Derived.IntWalk
namespace Go.Proofs.YtopodhmchoibfaaDoor
open Go.RowKit

/-- A byte on. -/
theorem lstep_r (b : Nat) (P : ByteArray) (c : UInt8) (r : Int) (hr : refL (P.data.toList ++ [c]) = r) (w : World) (h : WalkAt w b P) (hT : Tab w) :
    Calls Tryd.prog 7 #[.pointer (some ⟨b, 0, none⟩), .int .u8 c.toNat] w fun e w' => e = .returned (.int .i64 r) ∧ (∃ P', WalkAt w' b P') ∧ Turned b w w' :=
  (lstep_any b P c w h hT).mono fun _ _ ⟨h1, h2, h3, h4⟩ => ⟨by rw [h1, hr], by
    by_cases h : refL (P.data.toList ++ [c]) = 2
    · exact ⟨_, h2 h⟩
    · exact ⟨_, h3 h⟩, h4⟩
theorem lstep_one (b : Nat) (P : ByteArray) (c : UInt8) (hr : refL (P.data.toList ++ [c]) = 1) (w : World) (h : WalkAt w b P) (hT : Tab w) :
    Calls Tryd.prog 7 #[.pointer (some ⟨b, 0, none⟩), .int .u8 c.toNat] w fun e w' => e = .returned (.int .i64 1) ∧ WalkAt w' b (P ++ ⟨#[c]⟩) ∧ Turned b w w' :=
  (lstep_any b P c w h hT).mono fun _ _ ⟨h1, _, h3, h4⟩ => ⟨by rw [h1, hr], h3 (by rw [hr]; decide), h4⟩
theorem ref_cases (l : List UInt8) : refL l = 1 ∨ refL l = 0 ∨ refL l = 2 := by
  unfold refL
  rcases hit_cases lT l with h | h | h <;> rcases hit_cases lF l with g | g | g <;> rcases hit_cases lN l with k | k | k <;> rw [h] <;> simp [g, k]

def IsW (s : ByteArray) : Prop := s = wT ∨ s = wF ∨ s = wN
theorem isW_of {x : ByteArray} (h : refL x.data.toList = 1) : IsW x := by
  rcases ref_one h with h | h | h
  · exact .inl (ba_ext h)
  · exact .inr (.inl (ba_ext h))
  · exact .inr (.inr (ba_ext h))

/-- Where LiteralKinds' loop is, of a text that is no word. -/
def RelLK (s : ByteArray) (W wr : World) (b : Nat) (d i : Value) : Prop :=
  ∃ (k : Nat) (x : Bool), k ≤ s.size ∧ k ≤ 9 ∧ i = .int .i64 k ∧ d = .bool x ∧ (x = true → IsW (s.extract 0 k)) ∧ (∃ P, WalkAt wr b P) ∧ Tab wr ∧ Below W.heap.size W wr

set_option maxRecDepth 100000 in
set_option maxHeartbeats 4000000 in
theorem kinds_no (s : ByteArray) (W : World) (hT : Tab W) (hs : s.size ≤ maxLen) (h1 : s ≠ wT) (h2 : s ≠ wF) (h3 : s ≠ wN) :
    Calls Tryd.prog 4 #[.string s] W fun e w' => e = .returned (.bool true) ∧ Below W.heap.size W w' := by
  unfold maxLen at hs
  have hi := hT.inside
  have HK := Lib.hid (fun w hw => kind_no s h1 h2 h3 w hw)
  have HR := Lib.hid (fun w => rkind_no s h1 h2 h3 w)
  have hno : ¬ IsW s := fun h => by rcases h with h | h | h <;> contradiction
  clear h1 h2 h3
  go_enter Tryd.func4, Tryd.ntmps4
  go_wp2_with (first
    | (go_at_call 5; refine (alive5_any _ hT).mono ?_; rintro e w1 ⟨rfl, hb1⟩; have hT1 := hT.stay hb1 hi)
    | (go_at_call 9; refine (HK.out _ hT1).mono ?_; rintro e w2 ⟨rfl, hb2⟩; have hT2 := hT1.stay hb2 hT1.inside)
    | (go_at_call 10; refine (HR.out _).mono ?_; rintro e w' ⟨rfl, rfl⟩))
  have z1 := hb1.size
  have z2 := hb2.size
  have hbpos := hT2.inside
  go_loopw [8, 9] (fun d i wr => RelLK s W wr w2.heap.size d i) (fun _ i _ => s.size - (intOf i).toNat)
  case atStart => exact ⟨0, false, Nat.zero_le _, Nat.zero_le _, rfl, rfl, (fun e => by cases e), ⟨_, WalkAt.fresh _⟩, hT2.stay ((Below.refl w2.heap.size w2).alloc (Nat.le_refl _) _) hT2.inside, (hb1.trans (hb2.mono z1)).alloc (by omega) _⟩
  case round =>
    obtain ⟨k, x, hk, hk9, rfl, rfl, hx, ⟨P, hwa⟩, hta, hbel⟩ := hrel
    have hin := hwa.inside
    by_cases hlt : k < s.size
    · by_cases h9 : (k : Int) < 9
      · rcases ref_cases (P.data.toList ++ [s[k]]) with hr | hr | hr
        · have HT := Lib.hid (fun w (h : WalkAt w w2.heap.size P) (hT : Tab w) => lstep_one w2.heap.size P s[k] hr w h hT)
          have HW := Lib.hid (fun w (h : WalkAt w w2.heap.size (P ++ ⟨#[s[k]]⟩)) => lword_at w2.heap.size (P ++ ⟨#[s[k]]⟩) w h)
          have hw : IsW (P ++ ⟨#[s[k]]⟩) := isW_of (by rw [cat_list]; exact hr)
          clear hr
          have hk1 : k + 1 ≤ s.size := hlt
          have hk2 : (k : Int) + 1 ≤ s.size := by omega
          obtain ⟨y, hy⟩ : ∃ y, ((P ++ ⟨#[s[k]]⟩).toList == (s.extract 0 (k + 1)).toList) = y := ⟨_, rfl⟩
          have hyw : y = true → IsW (s.extract 0 (k + 1)) := fun e => by
            have e' := beq_iff_eq.1 (hy.trans e)
            rw [← ba_ext (a := P ++ ⟨#[s[k]]⟩) (b := s.extract 0 (k + 1)) (by rw [← ByteArray.toList_eq, ← ByteArray.toList_eq, e'])]
            exact hw
          clear hw
          generalize P ++ ⟨#[s[k]]⟩ = P' at *
          have k1 : IntKind.i64.wrap ((k : Int) + 1) = k + 1 := IntWalk.i64_in _ (by omega)
          have k2 : 0 ≤ (k : Int) + 1 := by omega
          have k3 : ((k : Int) + 1).toNat = k + 1 := by omega
          go_wp2
          first
            | (go_region_with (first
                | (go_at_call 7; refine (HT.out wr.drew hwa hta).mono ?_; rintro e w3 ⟨rfl, hwa3, hu3⟩; have hta3 := hta.turned hu3 hbpos)
                | (go_at_call 8; refine (HW.out _ hwa3).mono ?_; rintro e w4 ⟨rfl, q, rfl⟩)))
            | fail
          all_goals
            clear k1 k2 k3
            go_wp2
            go_roundw
            case rel => exact ⟨k + 1, y, hlt, by omega, by go_num, rfl, hyw, ⟨_, hwa3⟩, hta3, below_drewN (hbel.drew.trans (hu3.below (b := w2.heap.size) (by omega) (show w2.heap.size ≤ wr.heap.size by omega))) q⟩
            case measure => simp [intOf]; omega
        all_goals
          have HT := Lib.hid (fun w (h : WalkAt w w2.heap.size P) (hT : Tab w) => lstep_r w2.heap.size P s[k] _ hr w h hT)
          clear hr
          go_wp2
          first
            | (go_region_with (first
                | (go_at_call 7; refine (HT.out wr.drew hwa hta).mono ?_; rintro e w3 ⟨rfl, hwa3, hu3⟩; have hta3 := hta.turned hu3 hbpos)))
            | fail
          all_goals
            go_wp2
            go_roundw
            case rel => exact ⟨k + 1, false, hlt, by omega, by go_num, rfl, (fun e => by cases e), hwa3, hta3, hbel.drew.trans (hu3.below (b := w2.heap.size) (by omega) (show w2.heap.size ≤ wr.heap.size by omega))⟩
            case measure => simp [intOf]; omega
      · have g5 : ¬ (s.size : Int) ≤ 5 := by omega
        cases x
        all_goals
          go_wp2
          go_ret
          exact ⟨rfl, hbel⟩
    · cases x
      · go_wp2
        go_ret
        exact ⟨rfl, hbel⟩
      · have hx' := hx rfl
        rw [show k = s.size by omega, show s.extract 0 s.size = s from ba_ext (by rw [head_list]; exact List.take_of_length_le (Nat.le_refl _))] at hx'
        exact absurd hx' hno

end Go.Proofs.YtopodhmchoibfaaDoor
