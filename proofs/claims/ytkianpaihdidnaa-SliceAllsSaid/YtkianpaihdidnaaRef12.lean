/- The document's slices (riffleref12): Place, clip, Bounds, Has, Hangs, Right. -/
import Derived.Test.YtkianpaihdidnaaM12
import Derived.Outline
import Derived.Deep.DeepMust
namespace Go.Proofs.Ytkianpaihdidnaa
open Go.RowKit
set_option linter.unusedVariables false

theorem below1s (w : World) (a : Obj) : Below w.heap.size w (w.alloc a) := (Below.refl w.heap.size w).alloc (Nat.le_refl _) a
/-- A selector as a value. -/
def selV (s : Sel) : Array Value := #[.int .i64 s.kind, .string s.name, .int .i64 s.index, .int .i64 s.start, .int .i64 s.en, .bool s.hs, .bool s.he, .int .i64 s.stride]

def midI (n : Int) : Prop := -20000000000000000 ≤ n ∧ n ≤ 20000000000000000

theorem rplace_any (i m : Int) (w : World) (hi : midI i) (hm : midI m) :
    Calls Try.prog 15 #[.int .i64 i, .int .i64 m] w fun e w' => e = .returned (.int .i64 (placeI i m)) ∧ w' = w := by
  obtain ⟨h1, h2⟩ := hi
  obtain ⟨h3, h4⟩ := hm
  by_cases h : 0 ≤ i
  · have e : placeI i m = i := by unfold placeI; rw [if_pos h]
    rw [e]
    go_enter Try.func15, Try.ntmps15
    go_wp2
    go_ret
    exact ⟨rfl, rfl⟩
  · have e : placeI i m = m + i := by unfold placeI; rw [if_neg h]
    rw [e]
    go_enter Try.func15, Try.ntmps15
    go_wp2
    go_ret
    exact ⟨rfl, rfl⟩

theorem rclip_any (n lo hi : Int) (w : World) :
    Calls Try.prog 19 #[.int .i64 n, .int .i64 lo, .int .i64 hi] w fun e w' => e = .returned (.int .i64 (clipI n lo hi)) ∧ w' = w := by
  by_cases h1 : n > hi
  · by_cases h2 : hi < lo
    · have e : clipI n lo hi = lo := by unfold clipI; rw [if_pos h1, if_pos h2]
      rw [e]
      go_enter Try.func19, Try.ntmps19
      go_wp2
      go_ret
      exact ⟨rfl, rfl⟩
    · have e : clipI n lo hi = hi := by unfold clipI; rw [if_pos h1, if_neg h2]
      rw [e]
      go_enter Try.func19, Try.ntmps19
      go_wp2
      go_ret
      exact ⟨rfl, rfl⟩
  · by_cases h2 : n < lo
    · have e : clipI n lo hi = lo := by unfold clipI; rw [if_neg h1, if_pos h2]
      rw [e]
      go_enter Try.func19, Try.ntmps19
      go_wp2
      go_ret
      exact ⟨rfl, rfl⟩
    · have e : clipI n lo hi = n := by unfold clipI; rw [if_neg h1, if_neg h2]
      rw [e]
      go_enter Try.func19, Try.ntmps19
      go_wp2
      go_ret
      exact ⟨rfl, rfl⟩

theorem okI.mid {n : Int} (h : okI n) : midI n := by unfold okI midI at *; omega

set_option maxHeartbeats 2000000 in
theorem rbounds_any (s : Sel) (m : Int) (w : World) (hs : RightI s) (h0 : 0 ≤ m) (h9 : m ≤ 9007199254740992) :
    Calls Try.prog 9 #[.agg (selV s), .int .i64 m] w fun e w' => e = .returned (.tuple #[.int .i64 (lowI s m), .int .i64 (highI s m)]) ∧ Below w.heap.size w w' := by
  have HS := Lib.hid (fun w => rplace_any s.start m w hs.start.mid ⟨by omega, by omega⟩)
  have HE := Lib.hid (fun w => rplace_any s.en m w hs.en.mid ⟨by omega, by omega⟩)
  have HC := Lib.hid (fun n lo hi w => rclip_any n lo hi w)
  have t1 : True := trivial
  obtain ⟨kind, name, index, start, en, hs', he', stride⟩ := s
  have HL := Lib.hid (show lowI ⟨kind, name, index, start, en, hs', he', stride⟩ m = (if stride = 0 then 0 else if 0 < stride then clipI (if hs' then placeI start m else 0) 0 m else clipI (if he' then placeI en m else -1) (-1) (m - 1)) from rfl)
  have HH := Lib.hid (show highI ⟨kind, name, index, start, en, hs', he', stride⟩ m = (if stride = 0 then 0 else if 0 < stride then clipI (if he' then placeI en m else m) 0 m else clipI (if hs' then placeI start m else m - 1) (-1) (m - 1)) from rfl)
  rw [HL.out, HH.out]
  clear HL HH hs
  by_cases h1 : stride = 0
  · rw [if_pos h1, if_pos h1]
    subst h1
    unfold selV
    go_enter Try.func9, Try.ntmps9
    go_wp2
    go_ret2
    exact ⟨rfl, below1s _ _⟩
  have g1 : (stride == 0) = false := beq_eq_false_iff_ne.2 h1
  rw [if_neg h1, if_neg h1]
  by_cases h2 : 0 < stride
  · rw [if_pos h2, if_pos h2]
    have h2g : stride > 0 := h2
    unfold selV
    cases hs' <;> cases he'
    all_goals
      go_enter Try.func9, Try.ntmps9
      go_wp2_with (first
        | (go_at_call 15; clear t1; refine (HS.out _).mono ?_; rintro e w' ⟨rfl, rfl⟩)
        | (go_at_call 15; refine (HE.out _).mono ?_; rintro e w' ⟨rfl, rfl⟩)
        | (go_at_call 19; refine (HC.out _ _ _ _).mono ?_; rintro e w' ⟨rfl, rfl⟩))
      go_ret2
      exact ⟨rfl, below1s _ _⟩
  · rw [if_neg h2, if_neg h2]
    have h2g : ¬ stride > 0 := h2
    unfold selV
    cases hs' <;> cases he'
    all_goals
      go_enter Try.func9, Try.ntmps9
      go_wp2_with (first
        | (go_at_call 15; clear t1; refine (HS.out _).mono ?_; rintro e w' ⟨rfl, rfl⟩)
        | (go_at_call 15; refine (HE.out _).mono ?_; rintro e w' ⟨rfl, rfl⟩)
        | (go_at_call 19; refine (HC.out _ _ _ _).mono ?_; rintro e w' ⟨rfl, rfl⟩))
      go_ret2
      exact ⟨rfl, below1s _ _⟩

end Go.Proofs.Ytkianpaihdidnaa
