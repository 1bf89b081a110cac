/- The laws' book under way; the chapter's example. -/
import Derived.Test.YtfkbmecmancgpaaOps18
namespace Go.Proofs.Ytfkbmecmancgpaa
open Go.RowKit
set_option linter.unusedVariables false
set_option linter.unusedSimpArgs false

/-- A law's own book: all of it is newer than the law's call. -/
structure Lb18 (W : World) (w : World) (b : Nat) (tag : Nat → Nat) (s : St18) (nd : Nat → Nd18) (n : Nat) : Prop where
  bk : Bk w b tag s
  mid : Mid18 nd n s [] none
  bel : Below W.heap.size W w
  new : ∀ k, tag k ≠ 0 → W.heap.size ≤ k

section
variable {W w w' : World} {b : Nat} {tag : Nat → Nat} {s : St18} {nd : Nat → Nd18} {n : Nat}

theorem Lb18.le (h : Lb18 W w b tag s nd n) (x : Nat) : s.val x ≤ 2 := by have := h.mid.v3 x; omega
theorem Lb18.below (h : Lb18 W w b tag s nd n) (ht : Touch (fun k => tag k ≠ 0) w w') : Below W.heap.size W w' :=
  h.bel.trans (ht.below (fun k _ e => h.new k e) h.bel.size)
theorem Lb18.tags {tag' : Nat → Nat} (h : Lb18 W w b tag s nd n) (ht : ∀ k, k < w.heap.size → tag' k = tag k) : ∀ k, tag' k ≠ 0 → W.heap.size ≤ k := fun k hk => by
  by_cases e : k < w.heap.size
  · rw [ht k e] at hk; exact h.new k hk
  · have := h.bel.size; omega
/-- What isn't the book's turns. -/
theorem Lb18.aside {F : Nat → Prop} (h : Lb18 W w b tag s nd n) (ht : Touch F w w') (hd : ∀ k, F k → tag k = 0) (hb : Below W.heap.size W w') : Lb18 W w' b tag s nd n := ⟨h.bk.stay ht hd, h.mid, hb, h.new⟩
/-- New blocks are laid. -/
theorem Lb18.more (h : Lb18 W w b tag s nd n) (hb : Below w.heap.size w w') : Lb18 W w' b tag s nd n :=
  h.aside (Touch.of_new (F := fun _ => False) hb) (fun _ f => f.elim) (h.bel.trans (hb.mono h.bel.size))

theorem Lb18.value (h : Lb18 W w b tag s nd n) (z : Int) : Calls Try.prog 16 #[.pointer (some ⟨b, 0, none⟩), .int .i64 z] w fun e w' => e = .returned (.int .i64 (s.valI z)) ∧ w' = w := value_any h.bk h.le z
theorem Lb18.val (h : Lb18 W w b tag s nd n) (x v : Nat) (hv : s.val x = v) : Calls Try.prog 16 #[.pointer (some ⟨b, 0, none⟩), .int .i64 x] w fun e w' => e = .returned (.int .i64 v) ∧ w' = w := by
  have := h.value x
  rw [valI_nat, hv] at this
  exact this

/-- One more variable. -/
theorem Lb18.var (h : Lb18 W w b tag s nd n) (hn : n ≤ 900) : Calls Try.prog 11 #[.pointer (some ⟨b, 0, none⟩)] w fun e w' =>
    e = .returned (.int .i64 n) ∧ ∃ s' tag', Lb18 W w' b tag' s' (ndA nd n .var) (n + 1) ∧ Touch (fun k => tag k ≠ 0) w w' ∧ (∀ k, k < w.heap.size → tag' k = tag k) ∧ (∀ y, y < n → s'.val y = s.val y) ∧ s'.val n = 0 := by
  refine (var_any h.mid hn w b tag h.bk).mono ?_
  rintro e w' ⟨s', tag', rfl, h1, h2, h3, h4, h5, h6⟩
  exact ⟨rfl, s', tag', ⟨h1, h2, h.below h3, h.tags h4⟩, h3, h4, h5, h6⟩
theorem Lb18.and (h : Lb18 W w b tag s nd n) (hn : n ≤ 900) (x y : Int) (hx : (Lit.int .i64 x).wf = true) (hy : (Lit.int .i64 y).wf = true) : Calls Try.prog 12 #[.pointer (some ⟨b, 0, none⟩), .int .i64 x, .int .i64 y] w fun e w' =>
    ∃ r : Nat, e = .returned (.int .i64 r) ∧ ∃ s' nd' n' tag', Lb18 W w' b tag' s' nd' n' ∧ Touch (fun k => tag k ≠ 0) w w' ∧ (∀ k, k < w.heap.size → tag' k = tag k) ∧ Jn18 nd n s nd' n' s' 2 [x, y] r := by
  refine (and_any h.mid hn w b tag h.bk x y hx hy).mono ?_
  rintro e w' ⟨r, s', nd', n', tag', rfl, h1, h2, h3, h4, h5⟩
  exact ⟨r, rfl, s', nd', n', tag', ⟨h1, h2, h.below h3, h.tags h4⟩, h3, h4, h5⟩
theorem Lb18.or (h : Lb18 W w b tag s nd n) (hn : n ≤ 900) (A : Option Addr) (len c : Nat) (zs : List Int) (B : Nat) (hB : B ≤ w.heap.size) (hr : Rd w B A len (zs.map (Value.int .i64))) (hl : len ≤ 1000) (hwf : ∀ z ∈ zs, (Lit.int .i64 z).wf = true) :
    Calls Try.prog 13 #[.pointer (some ⟨b, 0, none⟩), .slice A len c] w fun e w' =>
    ∃ r : Nat, e = .returned (.int .i64 r) ∧ ∃ s' nd' n' tag', Lb18 W w' b tag' s' nd' n' ∧ Touch (fun k => tag k ≠ 0) w w' ∧ (∀ k, k < w.heap.size → tag' k = tag k) ∧ Jn18 nd n s nd' n' s' 1 zs r := by
  refine (or_any h.mid hn w b tag h.bk A len c zs B hB hr hl hwf).mono ?_
  rintro e w' ⟨r, s', nd', n', tag', rfl, h1, h2, h3, h4, h5⟩
  exact ⟨r, rfl, s', nd', n', tag', ⟨h1, h2, h.below h3, h.tags h4⟩, h3, h4, h5⟩
theorem Lb18.setYes (h : Lb18 W w b tag s nd n) (hn : n ≤ 1000) (x : Nat) (yes : Bool) (hx : nd x = .var) (h0 : s.val x = 0) : Calls Try.prog 14 #[.pointer (some ⟨b, 0, none⟩), .int .i64 x, .bool yes] w fun e w' =>
    e = .returned (.bool true) ∧ ∃ s', Lb18 W w' b tag s' nd n ∧ Touch (fun k => tag k ≠ 0) w w' ∧ Went18 nd s s' x (if yes then 1 else 2) := by
  refine (set_yes h.mid x yes hx h0 hn w b tag h.bk).mono ?_
  rintro e w' ⟨rfl, s', h1, h2, h3, h4⟩
  exact ⟨rfl, s', ⟨h1, h2, h.below h4, h.new⟩, h4, h3⟩
theorem Lb18.setNo (h : Lb18 W w b tag s nd n) (z : Int) (hz : (Lit.int .i64 z).wf = true) (yes : Bool) (hx : ∀ x : Nat, z = x → nd x = .var → s.val x ≠ 0) : Calls Try.prog 14 #[.pointer (some ⟨b, 0, none⟩), .int .i64 z, .bool yes] w fun e w' => e = .returned (.bool false) ∧ w' = w :=
  set_no h.mid z hz yes hx w b tag h.bk
theorem Lb18.len (h : Lb18 W w b tag s nd n) : Calls Try.prog 10 #[.pointer (some ⟨b, 0, none⟩)] w fun e w' => e = .returned (.int .i64 n) ∧ w' = w := by
  have := len_any h.bk
  rw [h.mid.len] at this
  exact this
theorem lb_new (W w : World) (h : Below W.heap.size W w) : Calls Try.prog 6 #[] w fun e w' => ∃ b : Nat, e = .returned (.pointer (some ⟨b, 0, none⟩)) ∧ ∃ tag, Lb18 W w' b tag st0 nd0 2 ∧ Below w.heap.size w w' ∧ ∀ k, tag k ≠ 0 → w.heap.size ≤ k := by
  refine (new_any w).mono ?_
  rintro e w' ⟨rfl, h1, h2⟩
  have ht : ∀ k, tag0 w.heap.size k ≠ 0 → w.heap.size ≤ k := by
    intro k hk
    unfold tag0 at hk
    by_cases h1 : k = w.heap.size + 2
    · omega
    · rw [if_neg h1] at hk
      by_cases h2 : k = w.heap.size
      · omega
      · rw [if_neg h2] at hk
        by_cases h3 : k = w.heap.size + 1
        · omega
        · rw [if_neg h3] at hk; exact absurd rfl hk
  exact ⟨_, rfl, _, ⟨h1, mid0, h.trans (h2.mono h.size), fun k hk => by have := ht k hk; have := h.size; omega⟩, h2, ht⟩
end

/-- A thing stands for what was asked, whatever has become known since. -/
theorem Jn18.later {nd nd' : Nat → Nd18} {n n' : Nat} {s s' : St18} {one : Nat} {zs : List Int} {r : Nat} (h : Jn18 nd n s nd' n' s' one zs r) {nd2 : Nat → Nd18} {n2 : Nat} {s2 : St18} (hm : Mid18 nd2 n2 s2 [] none) (hn : n' ≤ n2)
    (hnd : ∀ y, y < n' → nd2 y = nd' y) (hv : ∀ y, y < n' → s'.val y ≠ 0 → s2.val y = s'.val y) : s2.val r = kj one (zs.map (valF s2.val n)) := by
  refine h.mean s2.val (fun y => by have := hm.v3 y; omega) hv ?_
  intro x hx o ds hj
  exact hm.fixed x (by omega) o ds (by rw [hnd x hx]; exact hj)

set_option maxRecDepth 100000 in
set_option maxHeartbeats 8000000 in
theorem alive18 (W : World) : Calls Try.prog 5 #[] W fun e w' => e = .returned (.bool true) ∧ Below W.heap.size W w' := by
  have tok : True := trivial
  have tok2 : True := trivial
  have tok3 : True := trivial
  have tok4 : True := trivial
  have KN := Lib.hid (lb_new W W (Below.refl _ _))
  go_enter Try.func5, Try.ntmps5
  go_wp2_with (first
    | (go_at_call 6
       go_must (
         refine KN.out.mono ?_
         rintro e w1 ⟨b, rfl, tag, hL, _⟩
         have L1 := Lib.hid hL
         clear hL))
    | (go_at_call 11
       have _t := tok
       go_must (
         refine (L1.out.var (by omega)).mono ?_
         rintro e w2 ⟨rfl, s2, tag2, hL, _, _, h1, h2⟩
         have L2 := Lib.hid hL
         have V2 := Lib.hid h2
         clear tok hL h1 h2))
    | (go_at_call 11
       go_must (
         refine (L2.out.var (by omega)).mono ?_
         rintro e w3 ⟨rfl, s3, tag3, hL, _, _, h1, h2⟩
         have L3 := Lib.hid hL
         have V3 := Lib.hid (And.intro ((h1 2 (by omega)).trans V2.out) h2)
         clear hL h1 h2))
    | (go_at_call 12
       go_must (
         refine (L3.out.and (by omega) _ _ (by decide) (by decide)).mono ?_
         rintro e w4 ⟨r, rfl, s4, nd4, n4, tag4, hL, _, _, hj⟩
         have L4 := Lib.hid hL
         have J4 := Lib.hid (show Jn18 (ndA (ndA nd0 2 .var) 3 .var) 4 s3 nd4 n4 s4 2 [2, 3] r from hj)
         clear hL hj))
    | (go_at_call 8
       go_must (
         refine (yes_any _ _).mono ?_
         rintro e w5 ⟨rfl, rfl⟩))
    | (go_at_call 13
       have _t := tok2
       go_must (
         refine ((L4.out.more ((Below.refl _ _).alloc (Nat.le_refl _) (.cells #[.int .i64 1, .int .i64 3] 3))).or (by have := J4.out.le; omega) (some ⟨_, 0, none⟩) 2 2 [1, 3] _ (by simp) (Rd.of_list (l := [.int .i64 1, .int .i64 3]) (Own.fresh _ _ _) rfl) (by omega) (by intro z hz; simp at hz; rcases hz with rfl | rfl <;> decide)).mono ?_
         rintro e w5 ⟨q, rfl, s5, nd5, n5, tag5, hL, _, _, hj⟩
         have L5 := Lib.hid hL
         have J5 := Lib.hid hj
         have j5 : Jn18 nd4 n4 s4 nd5 n5 s5 1 [1, 3] q := hj
         have hle := J4.out.le
         have v2 : s5.val 2 = 0 := (j5.val 2 (by omega)).trans ((J4.out.val 2 (by omega)).trans V3.out.1)
         have v3 : s5.val 3 = 0 := (j5.val 3 (by omega)).trans ((J4.out.val 3 (by omega)).trans V3.out.2)
         have n2 : nd5 2 = .var := (j5.nds 2 (by omega)).trans ((J4.out.nds 2 (by omega)).trans rfl)
         have Z0 := Lib.hid (hL.val r 0 (by
           rw [J4.out.later hL.mid j5.le.1 j5.nds (fun y hy _ => j5.val y hy)]
           have : [(2 : Int), 3].map (valF s5.val 4) = [s5.val 2, s5.val 3] := by simp [valF]
           rw [this, v2, v3]
           decide))
         have SE := Lib.hid ((hL.setYes (by have := j5.le; omega) 2 false n2 v2).mono (fun e w' h => by
           obtain ⟨h1, s6, h2, h3, h4⟩ := h
           have e1 : ∀ y, s5.val y ≠ 0 → s6.val y = s5.val y := h4.ext
           have e2 : s6.val 2 = 2 := h4.set
           have z2 : s6.val r = 2 := by
             rw [J4.out.later h2.mid (Nat.le_trans (show n4 ≤ n4 from Nat.le_refl _) j5.le.1) j5.nds (fun y hy hne => by
               have h5 := j5.val y hy
               rw [e1 y (by rw [h5]; exact hne), h5])]
             have : [(2 : Int), 3].map (valF s6.val 4) = [s6.val 2, s6.val 3] := by simp [valF]
             rw [this, e2]
             exact kj_one (by simp)
           have o1 : s6.val q = 1 := by
             rw [j5.later h2.mid (Nat.le_refl _) (fun _ _ => rfl) (fun y hy hne => e1 y hne)]
             refine kj_one (List.mem_map.2 ⟨1, by simp, ?_⟩)
             unfold valF
             rw [if_pos ⟨by omega, by omega⟩]
             exact h2.mid.yes
           exact (show e = .returned (.bool true) ∧ (Calls Try.prog 16 #[.pointer (some ⟨b, 0, none⟩), .int .i64 r] w' fun e w'' => e = .returned (.int .i64 2) ∧ w'' = w') ∧ (Calls Try.prog 16 #[.pointer (some ⟨b, 0, none⟩), .int .i64 q] w' fun e w'' => e = .returned (.int .i64 1) ∧ w'' = w') ∧ Below W.heap.size W w' from
             ⟨h1, h2.val r 2 z2, h2.val q 1 o1, h2.bel⟩)))
         clear hL hj tok2 j5 hle v2 v3 n2))
    | (go_at_call 16
       have _t := tok3
       go_must (
         refine Z0.out.mono ?_
         rintro e w6 ⟨rfl, rfl⟩
         clear tok3))
    | (go_at_call 14
       go_must (
         refine SE.out.mono ?_
         rintro e w7 ⟨rfl, hz, ho, hb⟩
         have HZ := Lib.hid hz
         have HO := Lib.hid ho
         have HB := Lib.hid hb
         clear hz ho hb))
    | (go_at_call 16
       have _t := tok4
       go_must (
         refine HZ.out.mono ?_
         rintro e w6 ⟨rfl, rfl⟩
         clear tok4))
    | (go_at_call 16
       go_must (
         refine HO.out.mono ?_
         rintro e w6 ⟨rfl, rfl⟩)))
  go_ret
  exact ⟨rfl, HB.out⟩
end Go.Proofs.Ytfkbmecmancgpaa
