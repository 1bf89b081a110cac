/- The walk of LiteralKinds, of a word. -/
import Derived.Test.YtopodhmchoibfaaDoorLaw05K
namespace Go.Proofs.YtopodhmchoibfaaDoor
open Go.RowKit

theorem ref_word {s : ByteArray} (h : IsW s) (k : Nat) (hk : k < s.size) : refL (s.data.toList.take (k + 1)) = if k + 1 = s.size then 1 else 0 := by
  rcases h with rfl | rfl | rfl
  · have : k = 0 ∨ k = 1 ∨ k = 2 ∨ k = 3 := by rw [zT] at hk; omega
    rcases this with rfl | rfl | rfl | rfl <;> decide
  · have : k = 0 ∨ k = 1 ∨ k = 2 ∨ k = 3 ∨ k = 4 := by rw [zF] at hk; omega
    rcases this with rfl | rfl | rfl | rfl | rfl <;> decide
  · have : k = 0 ∨ k = 1 ∨ k = 2 ∨ k = 3 := by rw [zN] at hk; omega
    rcases this with rfl | rfl | rfl | rfl <;> decide

theorem ext_snoc (s : ByteArray) (k : Nat) (h : k < s.size) : s.extract 0 k ++ ⟨#[s[k]]⟩ = s.extract 0 (k + 1) := ba_ext (by
  rw [cat_list, head_list, head_list, List.take_succ_eq_append_getElem (show k < s.data.toList.length from h)]
  rfl)

theorem ext_zero (s : ByteArray) : s.extract 0 0 = ⟨#[]⟩ := ba_ext (by rw [head_list]; rfl)

/-- Where LiteralKinds' loop is, of a word. -/
def RelLV (s : ByteArray) (W wr : World) (b : Nat) (d i : Value) : Prop :=
  ∃ (k : Nat) (x : Bool), k ≤ s.size ∧ i = .int .i64 k ∧ d = .bool x ∧ (k = s.size → x = true) ∧ WalkAt wr b (s.extract 0 k) ∧ Tab wr ∧ Below W.heap.size W wr

set_option maxRecDepth 100000 in
set_option maxHeartbeats 4000000 in
theorem kinds_word (s : ByteArray) (m : Int) (hw : IsW s)
    (hK : ∀ w, Tab w → Calls Tryd.prog 9 #[.string s] w fun e w' => e = .returned (.tuple #[.int .i64 m, .bool true]) ∧ Below w.heap.size w w')
    (hR : ∀ w, Calls Tryd.prog 10 #[.string s] w fun e w' => e = .returned (.tuple #[.int .i64 m, .bool true]) ∧ w = w')
    (W : World) (hT : Tab W) :
    Calls Tryd.prog 4 #[.string s] W fun e w' => e = .returned (.bool true) ∧ Below W.heap.size W w' := by
  obtain ⟨hz3, hz5⟩ := word_sizes hw
  have hi := hT.inside
  have HK := Lib.hid hK
  have HR := Lib.hid hR
  have gm : (m == m) = true := by simp
  clear hK hR
  go_enter Tryd.func4, Tryd.ntmps4
  go_wp2_with (first
    | (go_at_call 5; refine (alive5_any _ hT).mono ?_; rintro e w1 ⟨rfl, hb1⟩; have hT1 := hT.stay hb1 hi)
    | (go_at_call 9; refine (HK.out _ hT1).mono ?_; rintro e w2 ⟨rfl, hb2⟩; have hT2 := hT1.stay hb2 hT1.inside)
    | (go_at_call 10; refine (HR.out _).mono ?_; rintro e w' ⟨rfl, rfl⟩))
  have z1 := hb1.size
  have z2 := hb2.size
  have hbpos := hT2.inside
  go_loopw [8, 9] (fun d i wr => RelLV s W wr w2.heap.size d i) (fun _ i _ => s.size - (intOf i).toNat)
  case atStart => exact ⟨0, false, Nat.zero_le _, rfl, rfl, (fun e => by omega), (by rw [ext_zero]; exact WalkAt.fresh _), hT2.stay ((Below.refl w2.heap.size w2).alloc (Nat.le_refl _) _) hT2.inside, (hb1.trans (hb2.mono z1)).alloc (by omega) _⟩
  case round =>
    obtain ⟨k, x, hk, rfl, rfl, hx, hwa, hta, hbel⟩ := hrel
    have hin := hwa.inside
    by_cases hlt : k < s.size
    · have h9 : (k : Int) < 9 := by omega
      have hr := ref_word hw k hlt
      rw [← head_list, ← ext_snoc s k hlt, cat_list] at hr
      by_cases he : k + 1 = s.size
      · rw [if_pos he] at hr
        have HT := fun w (h : WalkAt w w2.heap.size (s.extract 0 k)) (hT : Tab w) => lstep_one w2.heap.size (s.extract 0 k) s[k] hr w h hT
        rw [ext_snoc s k hlt] at HT
        have HT := Lib.hid HT
        have HW := Lib.hid (fun w (h : WalkAt w w2.heap.size (s.extract 0 (k + 1))) => lword_at w2.heap.size (s.extract 0 (k + 1)) w h)
        have hk1 : k + 1 ≤ s.size := hlt
        have hk2 : (k : Int) + 1 ≤ s.size := by omega
        have k1 : IntKind.i64.wrap ((k : Int) + 1) = k + 1 := IntWalk.i64_in _ (by omega)
        have k2 : 0 ≤ (k : Int) + 1 := by omega
        have k3 : ((k : Int) + 1).toNat = k + 1 := by omega
        have gy : ((s.extract 0 (k + 1)).toList == (s.extract 0 (k + 1)).toList) = true := by simp
        clear hr he hx
        go_wp2
        first
          | (go_region_with (first
              | (go_at_call 7; refine (HT.out wr.drew hwa hta).mono ?_; rintro e w3 ⟨rfl, hwa3, hu3⟩; have hta3 := hta.turned hu3 hbpos)
              | (go_at_call 8; refine (HW.out _ hwa3).mono ?_; rintro e w4 ⟨rfl, q, rfl⟩)))
          | fail
        all_goals
          clear k1 k2 k3
          go_wp2
          go_roundw
          case rel => exact ⟨k + 1, true, hlt, by go_num, rfl, (fun _ => rfl), hwa3, hta3, below_drewN (hbel.drew.trans (hu3.below (b := w2.heap.size) (by omega) (show w2.heap.size ≤ wr.heap.size by omega))) q⟩
          case measure => simp [intOf]; omega
      · rw [if_neg he] at hr
        have HT := fun w (h : WalkAt w w2.heap.size (s.extract 0 k)) (hT : Tab w) => lstep_on w2.heap.size (s.extract 0 k) s[k] (by rw [hr]; decide) w h hT
        rw [ext_snoc s k hlt, hr] at HT
        have HT := Lib.hid HT
        have hk1 : k + 1 < s.size := by omega
        clear hr he hx
        go_wp2
        first
          | (go_region_with (first
              | (go_at_call 7; refine (HT.out wr.drew hwa hta).mono ?_; rintro e w3 ⟨rfl, hwa3, hu3⟩; have hta3 := hta.turned hu3 hbpos)))
          | fail
        all_goals
          go_wp2
          go_roundw
          case rel => exact ⟨k + 1, false, hlt, by go_num, rfl, (fun e => by omega), hwa3, hta3, hbel.drew.trans (hu3.below (b := w2.heap.size) (by omega) (show w2.heap.size ≤ wr.heap.size by omega))⟩
          case measure => simp [intOf]; omega
    · obtain rfl := hx (by omega)
      have g5 : (s.size : Int) ≤ 5 := by omega
      go_wp2
      go_ret
      exact ⟨rfl, hbel⟩

theorem literalKinds_walk (s : ByteArray) (W : World) (hT : Tab W) (hs : s.size ≤ maxLen) :
    Calls Tryd.prog 4 #[.string s] W fun e w' => e = .returned (.bool true) ∧ Below W.heap.size W w' := by
  by_cases h1 : s = wT
  · subst h1
    exact kinds_word wT 1 (.inl rfl) kind_t rkind_t W hT
  by_cases h2 : s = wF
  · subst h2
    exact kinds_word wF 1 (.inr (.inl rfl)) kind_f rkind_f W hT
  by_cases h3 : s = wN
  · subst h3
    exact kinds_word wN 0 (.inr (.inr rfl)) kind_n rkind_n W hT
  exact kinds_no s W hT hs h1 h2 h3

end Go.Proofs.YtopodhmchoibfaaDoor
