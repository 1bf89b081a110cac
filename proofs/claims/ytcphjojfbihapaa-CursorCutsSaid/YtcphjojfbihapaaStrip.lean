/- The contracts of package cursor's Strip. -/
import Derived.Test.YtcphjojfbihapaaSame03
import Derived.Test.YtcphjojfbihapaaFoot
import Derived.Deep.QuietTactic
import Derived.StillTailTactics
import Derived.Deep.DeepMust
import Derived.WalkLawsBesides
namespace Go.Proofs.Ytcphjojfbihapaa
open Go.RowKit

/-- A strip as it lies: block sb; the place p; all its bytes, the first g of them gone. -/
structure Raw (w : World) (F : Nat → Prop) (sb : Nat) (p : Int) (A : Option Addr) (c g N : Nat) (all : List Int) : Prop where
  head : F sb
  own : Own w sb 42 #[.int .i64 p, .slice A N c, .int .i64 g]
  row : w.ownsRow 0 5 1 (.slice A N c) N (all.map (Value.int .u8))
  foot : ∀ k, (Value.slice A N c).ownBlock = some k → F k
  room : N ≤ c
  left : g ≤ N
  cap : c ≤ maxLen
  lim : N ≤ 70368744177664
  p0 : 0 ≤ p
  p9 : p ≤ 4611686018427387904

/-- A strip: it begins at p, and holds xs. -/
def Strip (w : World) (F : Nat → Prop) (sb : Nat) (p : Int) (xs : List Int) : Prop :=
  ∃ A c g N all, Raw w F sb p A c g N all ∧ Hid (all.drop g = xs) ∧ g + g ≤ N

section
variable {w w' : World} {F G : Nat → Prop} {sb : Nat} {p : Int} {A : Option Addr} {c g N : Nat} {all xs : List Int}

theorem Raw.len (h : Raw w F sb p A c g N all) : all.length = N := by simpa using h.row.1

theorem Raw.apart (h : Raw w F sb p A c g N all) : ∀ k, (Value.slice A N c).ownBlock = some k → k ≠ sb := by
  intro k hk e
  subst e
  have ho := h.own
  rcases h.row.2 with ⟨hv, _⟩ | ⟨g1, c1, cur1, hv, _, hg1, _⟩
  · rw [hv] at hk; simp [Value.ownBlock] at hk
  · rw [hv] at hk
    simp [Value.ownBlock] at hk
    subst hk
    unfold Own at ho
    rw [hg1] at ho
    injection ho with hh
    injection hh with _ h2
    exact absurd h2 (by decide)

theorem Raw.touch (h : Raw w F sb p A c g N all) (ht : Touch G w w') (hd : ∀ k, k < w.heap.size → F k → ¬ G k) : Raw w' F sb p A c g N all :=
  { h with own := ht.own h.own (hd _ h.own.inside h.head), row := ht.row h.row (fun k hk => hd k (h.row.lt k hk).2 (h.foot k hk)) }

theorem Raw.mono (h : Raw w F sb p A c g N all) (hs : ∀ k, k < w.heap.size → F k → G k) : Raw w G sb p A c g N all :=
  { h with head := hs _ h.own.inside h.head, foot := fun k hk => hs k (h.row.lt k hk).2 (h.foot k hk) }

theorem Raw.same (h : Raw w F sb p A c g N all) (hh : w'.heap = w.heap) : Raw w' F sb p A c g N all :=
  { h with own := (by have := h.own; unfold Own at this ⊢; rw [hh]; exact this), row := (by have := h.row; unfold World.ownsRow at this ⊢; rw [hh]; exact this) }

theorem Strip.touch (h : Strip w F sb p xs) (ht : Touch G w w') (hd : ∀ k, k < w.heap.size → F k → ¬ G k) : Strip w' F sb p xs := by
  obtain ⟨A, c, g, N, all, hr, h1, h2⟩ := h
  exact ⟨A, c, g, N, all, hr.touch ht hd, h1, h2⟩
theorem Strip.mono (h : Strip w F sb p xs) (hs : ∀ k, k < w.heap.size → F k → G k) : Strip w G sb p xs := by
  obtain ⟨A, c, g, N, all, hr, h1, h2⟩ := h
  exact ⟨A, c, g, N, all, hr.mono hs, h1, h2⟩
theorem Strip.same (h : Strip w F sb p xs) (hh : w'.heap = w.heap) : Strip w' F sb p xs := by
  obtain ⟨A, c, g, N, all, hr, h1, h2⟩ := h
  exact ⟨A, c, g, N, all, hr.same hh, h1, h2⟩
end

theorem new_any (p : Int) (W : World) (hp9 : p ≤ 4611686018427387904) :
    Calls Try.prog 10 #[.int .i64 p] W fun e w' => e = .returned (.pointer (some ⟨W.heap.size, 0, none⟩)) ∧ Strip w' (fun k => k = W.heap.size) W.heap.size (max p 0) [] ∧ Below W.heap.size W w' := by
  have hh : max p 0 = p ∧ 0 ≤ p ∨ max p 0 = 0 ∧ p < 0 := by omega
  rcases hh with ⟨e, hp⟩ | ⟨e, hp⟩
  all_goals
    have E := Lib.hid e
    clear e
    go_enter Try.func10, Try.ntmps10
    go_wp2
    go_ret
    refine ⟨rfl, ⟨none, 0, 0, 0, [], ⟨rfl, ?_, World.ownsRow_nil _ _ _ _, by simp [Value.ownBlock], Nat.le_refl _, Nat.le_refl _, Nat.zero_le _, by omega, by omega, by omega⟩, rfl, Nat.le_refl _⟩, (Below.refl _ _).alloc (Nat.le_refl _) _⟩
    rw [E.out]
    exact Own.fresh _ _ _

section
variable {F : Nat → Prop} {sb : Nat} {p : Int} {A : Option Addr} {c g N : Nat} {all : List Int} (w : World)

set_option maxHeartbeats 400000 in
theorem from_raw (h : Raw w F sb p A c g N all) :
    Calls Try.prog 16 #[.pointer (some ⟨sb, 0, none⟩)] w fun e w' => e = .returned (.int .i64 p) ∧ w = w' := by
  have c0 := h.own.at 0
  simp at c0
  go_enter Try.func16, Try.ntmps16
  go_wp2
  go_ret
  exact ⟨rfl, rfl⟩

set_option maxHeartbeats 400000 in
theorem len_raw (h : Raw w F sb p A c g N all) :
    Calls Try.prog 15 #[.pointer (some ⟨sb, 0, none⟩)] w fun e w' => e = .returned (.int .i64 ((N : Int) - g)) ∧ ∃ q, w' = w.drewN q := by
  have c1 := h.own.at 1
  have c2 := h.own.at 2
  simp at c1 c2
  have hb := h.lim
  have hl := h.left
  go_enter Try.func15, Try.ntmps15
  go_wp2
  go_quiet (fail)
  go_wp2
  go_ret
  exact ⟨rfl, _, rfl⟩

set_option maxHeartbeats 400000 in
theorem to_raw (h : Raw w F sb p A c g N all) :
    Calls Try.prog 12 #[.pointer (some ⟨sb, 0, none⟩)] w fun e w' => e = .returned (.int .i64 (p + ((N : Int) - g))) ∧ ∃ q, w' = w.drewN q := by
  have c0 := h.own.at 0
  simp at c0
  have hb := h.lim
  have hl := h.left
  have p0 := h.p0
  have p9 := h.p9
  have HL := fun m => len_raw (w.drewN m) (h.same rfl)
  have hw : IntKind.i64.wrap (p + ((N : Int) - g)) = p + ((N : Int) - g) := by
    have := @IntWalk.i64_in (p + ((N : Int) - g)) (by omega)
    exact this
  go_enter Try.func12, Try.ntmps12
  go_wp2
  go_quiet ((go_at_call 15; exact Calls.quiet_of (HL _)))
  go_wp2
  go_ret
  exact ⟨rfl, _, rfl⟩
end

end Go.Proofs.Ytcphjojfbihapaa
