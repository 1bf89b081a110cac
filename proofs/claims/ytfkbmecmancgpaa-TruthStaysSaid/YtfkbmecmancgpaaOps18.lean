/- A book: New, Var, And, Or. -/
import Derived.Test.YtfkbmecmancgpaaJn18
namespace Go.Proofs.Ytfkbmecmancgpaa
open Go.RowKit
set_option linter.unusedVariables false
set_option linter.unusedSimpArgs false

def st0 : St18 := ⟨[2, 1], fun _ => none⟩
def nd0 : Nat → Nd18 := fun _ => .fix
def tag0 (N : Nat) : Nat → Nat := fun k => if k = N + 2 then 1 else if k = N then 2 else if k = N + 1 then 3 else 0

theorem mid0 : Mid18 nd0 2 st0 [] none := {
  made := ⟨Nat.le_refl _, rfl, rfl, fun x hx _ => hx, (fun x _ o ds h => by cases h), (fun x _ o ds h => by cases h), (fun x _ o ds h => by cases h), (fun x _ o ds h => by cases h)⟩
  len := rfl
  three := by intro v hv; simp [st0] at hv; omega
  no := rfl
  yes := rfl
  opn := by
    intro y
    constructor
    · intro h; cases h
    · rintro ⟨h1, h2 | h2⟩
      · rcases (show y = 0 ∨ y = 1 by omega) with rfl | rfl <;> cases h2
      · cases h2
  kn := List.nodup_nil
  kv := fun y hy => by cases hy
  users := fun y th h => by cases h
  left := fun y th h => by cases h
  var := fun y th h => by cases h
  just := fun y _ _ o ds h => by cases h
  cur := fun _ _ h => by cases h }

set_option maxHeartbeats 2000000 in
theorem new_any (W : World) : Calls Try.prog 6 #[] W fun e w' =>
    e = .returned (.pointer (some ⟨W.heap.size + 2, 0, none⟩)) ∧ Bk w' (W.heap.size + 2) (tag0 W.heap.size) st0 ∧ Below W.heap.size W w' := by
  have hmm := @run_makeMap Try.prog
  obtain ⟨w3, hw3⟩ : ∃ w3, w3 = ((W.alloc (.cells #[.int .u8 2, .int .u8 1] 5)).alloc (.map #[] 0)).alloc (.cells #[.slice (some ⟨W.heap.size, 0, none⟩) 2 2, .map (some (W.heap.size + 1))] 44) := ⟨_, rfl⟩
  have hb : Below W.heap.size W w3 := by
    rw [hw3]
    exact (((Below.refl W.heap.size W).alloc (Nat.le_refl _) _).alloc (by simp) _).alloc (by simp; omega) _
  have hs3 : w3.heap.size = W.heap.size + 3 := by rw [hw3]; simp
  have hr0 := World.ownsRow_lit (base := 0) (e := 5) (size := 1) W #[.int .u8 2, .int .u8 1] 2 (Nat.zero_le _) (by unfold maxLen; omega) rfl
  have hm0 := opm_made (W.alloc (.cells #[.int .u8 2, .int .u8 1] 5))
  have e1 : (W.alloc (.cells #[.int .u8 2, .int .u8 1] 5)).heap.size = W.heap.size + 1 := by simp
  rw [e1] at hm0
  have hB : Bk w3 (W.heap.size + 2) (tag0 W.heap.size) st0 := by
    refine ⟨.slice (some ⟨W.heap.size, 0, none⟩) 2 2, W.heap.size + 1, fun _ => 0, fun _ => .slice none 0 0, ?_⟩
    exact {
      book := by
        have := Own.fresh ((W.alloc (.cells #[.int .u8 2, .int .u8 1] 5)).alloc (.map #[] 0)) 44 #[.slice (some ⟨W.heap.size, 0, none⟩) 2 2, .map (some (W.heap.size + 1))]
        rw [show ((W.alloc (.cells #[.int .u8 2, .int .u8 1] 5)).alloc (.map #[] 0)).heap.size = W.heap.size + 2 by simp] at this
        rw [hw3]; exact this
      tbook := by simp [tag0]
      row := by rw [hw3]; exact (hr0.alloc _).alloc _
      trow := by intro k hk; simp [Value.ownBlock] at hk; subst hk; simp [tag0]
      map := by
        rw [hw3]
        have h1 := (Touch.refl (fun _ => False) ((W.alloc (.cells #[.int .u8 2, .int .u8 1] 5)).alloc (.map #[] 0))).alloc (.cells #[.slice (some ⟨W.heap.size, 0, none⟩) 2 2, .map (some (W.heap.size + 1))] 44)
        exact (h1.opm hm0 (fun f => f)).mono (Nat.zero_le _)
      tmap := by simp [tag0]
      cell := fun x th h => by cases h
      tcell := fun x th h => by cases h
      urow := fun x th h => by cases h
      turow := fun x th h => by cases h
      live := by
        intro k hk
        rw [hs3]
        unfold tag0 at hk
        by_cases h1 : k = W.heap.size + 2
        · omega
        · rw [if_neg h1] at hk
          by_cases h2 : k = W.heap.size
          · omega
          · rw [if_neg h2] at hk
            by_cases h3 : k = W.heap.size + 1
            · omega
            · rw [if_neg h3] at hk; exact absurd rfl hk }
  have HB := Lib.hid hB
  have HL := Lib.hid hb
  have HW := Lib.hid hw3
  clear hB hb hr0 hm0
  go_enter Try.func6, Try.ntmps6
  go_wp2
  go_ret
  rw [← HW.out]
  exact ⟨rfl, HB.out, HL.out⟩

/-- What Var leaves. -/
def VarEnd (nd : Nat → Nd18) (n : Nat) (s : St18) (W : World) (b : Nat) (tag : Nat → Nat) (e : Ending) (w' : World) : Prop :=
  ∃ (s' : St18) (tag' : Nat → Nat), e = .returned (.int .i64 n) ∧ Bk w' b tag' s' ∧ Mid18 (ndA nd n .var) (n + 1) s' [] none ∧ Touch (fun k => tag k ≠ 0) W w' ∧ (∀ k, k < W.heap.size → tag' k = tag k) ∧ (∀ y, y < n → s'.val y = s.val y) ∧ s'.val n = 0

set_option maxHeartbeats 2000000 in
theorem var_any {nd : Nat → Nd18} {n : Nat} {s : St18} (hm : Mid18 nd n s [] none) (hn : n ≤ 900) (W : World) (b : Nat) (tag : Nat → Nat) (h : Bk W b tag s) :
    Calls Try.prog 11 #[.pointer (some ⟨b, 0, none⟩)] W fun e w' => VarEnd nd n s W b tag e w' := by
  have hl := hm.len
  have KA := Lib.hid (add_any h (fun x hx => by have := (hm.opn x).1 hx; omega) (by omega) ⟨0, 0, []⟩ rfl)
  have hg := grow_var s ⟨0, 0, []⟩
  have hm' := hm.grow (N := .var) hg rfl List.nodup_nil (fun d hd => by cases hd) (.inl ⟨rfl, rfl, rfl⟩)
  have HM := Lib.hid hm'
  have HG := Lib.hid hg
  have HL := Lib.hid hl
  clear hm h hm' hg
  go_enter Try.func11, Try.ntmps11
  go_wp2_with (first
    | (go_at_call 18
       go_must (
         refine KA.out.mono ?_
         rintro e w5 ⟨rfl, tag5, hB5, hT5, ht5⟩
         have HE := Lib.hid (show VarEnd nd n s W b tag (.returned (.int .i64 n)) w5 from
           ⟨_, tag5, rfl, hB5, HM.out, hT5, ht5, fun y hy => by rw [HG.out.val, HL.out, if_neg (by omega)], by rw [HG.out.val, HL.out, if_pos rfl]⟩)
         clear hB5 hT5 ht5)))
  go_ret
  exact HE.out

theorem JnEnd.back {nd : Nat → Nd18} {n : Nat} {s : St18} {W W1 : World} {b : Nat} {tag : Nat → Nat} {one : Nat} {zs : List Int} {e : Ending} {w' : World} (h : JnEnd nd n s W1 b tag one zs e w') (hb : Below W.heap.size W W1) : JnEnd nd n s W b tag one zs e w' := by
  obtain ⟨r, s', nd', n', tag', h1, h2, h3, h4, h5, h6⟩ := h
  exact ⟨r, s', nd', n', tag', h1, h2, h3, (Touch.of_new (F := fun k => tag k ≠ 0) hb).trans h4 (fun _ _ h => h), fun k hk => h5 k (Nat.lt_of_lt_of_le hk hb.size), h6⟩

set_option maxHeartbeats 2000000 in
theorem and_any {nd : Nat → Nd18} {n : Nat} {s : St18} (hm : Mid18 nd n s [] none) (hn : n ≤ 900) (W : World) (b : Nat) (tag : Nat → Nat) (h : Bk W b tag s) (x y : Int) (hx : (Lit.int .i64 x).wf = true) (hy : (Lit.int .i64 y).wf = true) :
    Calls Try.prog 12 #[.pointer (some ⟨b, 0, none⟩), .int .i64 x, .int .i64 y] W fun e w' => JnEnd nd n s W b tag 2 [x, y] e w' := by
  obtain ⟨W1, hW1⟩ : ∃ W1, W1 = W.alloc (.cells #[.int .i64 x, .int .i64 y] 3) := ⟨_, rfl⟩
  have hb1 : Below W.heap.size W W1 := by rw [hW1]; exact (Below.refl W.heap.size W).alloc (Nat.le_refl _) _
  have hr1 : Rd W1 (W.heap.size + 1) (some ⟨W.heap.size, 0, none⟩) 2 ([x, y].map (Value.int .i64)) := by rw [hW1]; exact Rd.of_list (l := [.int .i64 x, .int .i64 y]) (Own.fresh W _ _) rfl
  have KJ := Lib.hid (join_any hm 2 (.inr rfl) hn W1 b tag (h.stay (Touch.of_new (F := fun _ => False) hb1) (fun _ f => f.elim)) (some ⟨W.heap.size, 0, none⟩) 2 2 [x, y] (W.heap.size + 1) (by rw [hW1]; simp) hr1 (by omega)
    (by intro z hz; simp at hz; rcases hz with rfl | rfl <;> assumption))
  have HB1 := Lib.hid hb1
  have HW1 := Lib.hid hW1
  clear hm h hb1 hr1
  go_enter Try.func12, Try.ntmps12
  go_wp2_with (first
    | (go_at_call 19
       rw [← HW1.out]
       go_must (
         refine KJ.out.mono ?_
         intro e w5 h5
         obtain ⟨r, s', nd', n', tag', rfl, h5'⟩ := h5
         have HE := Lib.hid ((show JnEnd nd n s W1 b tag 2 [x, y] (.returned (.int .i64 r)) w5 from ⟨r, s', nd', n', tag', rfl, h5'⟩).back HB1.out)
         clear h5')))
  go_ret
  exact HE.out

set_option maxHeartbeats 2000000 in
theorem or_any {nd : Nat → Nd18} {n : Nat} {s : St18} (hm : Mid18 nd n s [] none) (hn : n ≤ 900) (W : World) (b : Nat) (tag : Nat → Nat) (h : Bk W b tag s)
    (A : Option Addr) (len c : Nat) (zs : List Int) (B : Nat) (hB : B ≤ W.heap.size) (hr : Rd W B A len (zs.map (Value.int .i64))) (hl : len ≤ 1000) (hwf : ∀ z ∈ zs, (Lit.int .i64 z).wf = true) :
    Calls Try.prog 13 #[.pointer (some ⟨b, 0, none⟩), .slice A len c] W fun e w' => JnEnd nd n s W b tag 1 zs e w' := by
  have KJ := Lib.hid (join_any hm 1 (.inl rfl) hn W b tag h A len c zs B hB hr hl hwf)
  clear hm h hr
  go_enter Try.func13, Try.ntmps13
  go_wp2_with (first
    | (go_at_call 19
       go_must (
         refine KJ.out.mono ?_
         intro e w5 h5
         obtain ⟨r, s', nd', n', tag', rfl, h5'⟩ := h5
         have HE := Lib.hid (show JnEnd nd n s W b tag 1 zs (.returned (.int .i64 r)) w5 from ⟨r, s', nd', n', tag', rfl, h5'⟩)
         clear h5')))
  go_ret
  exact HE.out
end Go.Proofs.Ytfkbmecmancgpaa
