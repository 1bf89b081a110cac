/- A book in memory: its blocks, each with a tag of its own; Value, Len, No, Yes, fixed, other. -/
import Derived.Test.YtfkbmecmancgpaaOpm
namespace Go.Proofs.Ytfkbmecmancgpaa
open Go.RowKit
set_option linter.unusedVariables false

theorem Touch.opm {F : Nat → Prop} {w w' : World} {b m : Nat} {o : Nat → Option Nat} (h : Touch F w w') (ho : Opm w b m o) (hn : ¬ F b) : Opm w' b m o := ho.stay (h.block b ho.lt hn)

theorem row_slice {w : World} {base : Nat} {e : TypeId} {v : Value} {n : Nat} {xs : List Value} (h : w.ownsRow base e 1 v n xs) : ∃ A c, v = .slice A n c ∧ n ≤ c ∧ c ≤ maxLen := by
  rcases h.2 with ⟨rfl, rfl⟩ | ⟨g, c, cur, rfl, _, _, hn, hm, _⟩
  · exact ⟨none, 0, rfl, Nat.le_refl _, by unfold maxLen; omega⟩
  · exact ⟨_, _, rfl, hn, hm⟩
theorem row_rd {w : World} {base c : Nat} {e : TypeId} {A : Option Addr} {n : Nat} {xs : List Value} (h : w.ownsRow base e 1 (.slice A n c) n xs) : Rd w w.heap.size A n xs := Rd.of_owned h

def nums (l : List Nat) : List Value := l.map fun (v : Nat) => Value.int .i64 (v : Int)
def bytesV (l : List Nat) : List Value := l.map fun (v : Nat) => Value.int .u8 (v : Int)

/-- The book in block b holds s; its blocks are those that have a tag: 1 the book, 2 its values, 3 its map, 2x + 4 the thing x, 2x + 5 the row of who hangs on x. -/
structure BkR (w : World) (b : Nat) (tag : Nat → Nat) (s : St18) (vv : Value) (mb : Nat) (pb : Nat → Nat) (uv : Nat → Value) : Prop where
  book : Own w b 44 #[vv, .map (some mb)]
  tbook : tag b = 1
  row : w.ownsRow 0 5 1 vv s.vals.length (bytesV s.vals)
  trow : ∀ k, vv.ownBlock = some k → tag k = 2
  map : Opm w mb s.vals.length (fun x => (s.opn x).map fun _ => pb x)
  tmap : tag mb = 3
  cell : ∀ x th, s.opn x = some th → Own w (pb x) 47 #[.int .i64 th.left, .int .i64 th.one, uv x]
  tcell : ∀ x th, s.opn x = some th → tag (pb x) = 2 * x + 4
  urow : ∀ x th, s.opn x = some th → w.ownsRow 0 3 1 (uv x) th.users.length (nums th.users)
  turow : ∀ x th, s.opn x = some th → ∀ k, (uv x).ownBlock = some k → tag k = 2 * x + 5
  live : ∀ k, tag k ≠ 0 → k < w.heap.size

section
variable {w w' : World} {b : Nat} {tag : Nat → Nat} {s : St18} {vv : Value} {mb : Nat} {pb : Nat → Nat} {uv : Nat → Value}

/-- What isn't the book's may turn. -/
theorem BkR.stay {F : Nat → Prop} (h : BkR w b tag s vv mb pb uv) (ht : Touch F w w') (hd : ∀ k, F k → tag k = 0) : BkR w' b tag s vv mb pb uv where
  book := ht.own h.book (fun hf => by have := hd _ hf; rw [h.tbook] at this; cases this)
  tbook := h.tbook
  row := ht.row h.row (fun g hg hf => by have := hd _ hf; rw [h.trow g hg] at this; cases this)
  trow := h.trow
  map := ht.opm h.map (fun hf => by have := hd _ hf; rw [h.tmap] at this; cases this)
  tmap := h.tmap
  cell := fun x th hx => ht.own (h.cell x th hx) (fun hf => by have := hd _ hf; rw [h.tcell x th hx] at this; omega)
  tcell := h.tcell
  urow := fun x th hx => ht.row (h.urow x th hx) (fun g hg hf => by have := hd _ hf; rw [h.turow x th hx g hg] at this; omega)
  turow := h.turow
  live := fun k hk => Nat.lt_of_lt_of_le (h.live k hk) ht.size

/-- A book that stands. -/
def Bk (w : World) (b : Nat) (tag : Nat → Nat) (s : St18) : Prop := ∃ vv mb pb uv, BkR w b tag s vv mb pb uv
theorem Bk.stay {F : Nat → Prop} (h : Bk w b tag s) (ht : Touch F w w') (hd : ∀ k, F k → tag k = 0) : Bk w' b tag s := by
  obtain ⟨vv, mb, pb, uv, h⟩ := h
  exact ⟨vv, mb, pb, uv, h.stay ht hd⟩
theorem Bk.live (h : Bk w b tag s) : ∀ k, tag k ≠ 0 → k < w.heap.size := by
  obtain ⟨vv, mb, pb, uv, h⟩ := h
  exact h.live

/-- A thing's value; what is none of the book's is False. -/
def St18.valI (s : St18) (z : Int) : Nat := if 0 ≤ z then s.val z.toNat else 2
theorem valI_nat (s : St18) (x : Nat) : s.valI x = s.val x := by simp [St18.valI]
theorem valI_out (s : St18) (z : Int) (h : z < 0 ∨ (s.vals.length : Int) ≤ z) : s.valI z = 2 := by
  unfold St18.valI
  split
  · unfold St18.val
    rw [List.getD_eq_getElem?_getD, List.getElem?_eq_none (by omega)]
    rfl
  · rfl

theorem fixed_any (o : Nat) (w : World) : Calls Try.prog 22 #[.int .i64 o] w fun e w' => e = .returned (.int .i64 (fxD o)) ∧ w' = w := by
  unfold fxD
  by_cases h : o = 1
  · subst h
    go_enter Try.func22, Try.ntmps22
    go_wp2
    go_ret
    exact ⟨rfl, rfl⟩
  · rw [if_neg h]
    have g : ((o : Int) == 1) = false := beq_eq_false_iff_ne.2 (by omega)
    go_enter Try.func22, Try.ntmps22
    go_wp2
    go_ret
    exact ⟨rfl, rfl⟩
theorem other_any (o : Nat) (w : World) : Calls Try.prog 25 #[.int .i64 o] w fun e w' => e = .returned (.int .i64 (oth o : Nat)) ∧ w' = w := by
  unfold oth
  by_cases h : o = 1
  · subst h
    go_enter Try.func25, Try.ntmps25
    go_wp2
    go_ret
    exact ⟨rfl, rfl⟩
  · rw [if_neg h]
    have g : ((o : Int) == 1) = false := beq_eq_false_iff_ne.2 (by omega)
    go_enter Try.func25, Try.ntmps25
    go_wp2
    go_ret
    exact ⟨rfl, rfl⟩
theorem no_any (v : Value) (w : World) : Calls Try.prog 7 #[v] w fun e w' => e = .returned (.int .i64 0) ∧ w' = w := by
  go_enter Try.func7, Try.ntmps7
  go_wp2
  go_ret
  exact ⟨rfl, rfl⟩
theorem yes_any (v : Value) (w : World) : Calls Try.prog 8 #[v] w fun e w' => e = .returned (.int .i64 1) ∧ w' = w := by
  go_enter Try.func8, Try.ntmps8
  go_wp2
  go_ret
  exact ⟨rfl, rfl⟩
theorem len_any (h : Bk w b tag s) : Calls Try.prog 10 #[.pointer (some ⟨b, 0, none⟩)] w fun e w' => e = .returned (.int .i64 s.vals.length) ∧ w' = w := by
  obtain ⟨vv, mb, pb, uv, h⟩ := h
  have h0 := h.book.at 0
  simp at h0
  obtain ⟨A, c, rfl, hc, _⟩ := row_slice h.row
  go_enter Try.func10, Try.ntmps10
  go_wp2
  go_ret
  exact ⟨rfl, rfl⟩
theorem row_cell {w : World} {base c g o : Nat} {e : TypeId} {n : Nat} {l : List Nat} {k : IntKind} (h : w.ownsRow base e 1 (.slice (some ⟨g, o, none⟩) n c) n (l.map fun (v : Nat) => Value.int k (v : Int))) (x : Nat) (hx : x < l.length) :
    o = 0 ∧ w.cell? ⟨g, x, none⟩ = some (.int k (l.getD x 2 : Nat)) ∧ w.frozen? ⟨g, x, none⟩ = false := by
  have ho : o = 0 := by
    rcases h.2 with ⟨h', _⟩ | ⟨g', cap', cur, h', _⟩
    · simp at h'
    · simp at h'
      omega
  subst ho
  refine ⟨rfl, ?_, h.frozenAt x⟩
  have hl : l.length = n := by simpa using h.1
  rw [h.cellAt x (by omega), List.getElem?_map, List.getD_eq_getElem?_getD, List.getElem?_eq_getElem hx]
  rfl
set_option maxHeartbeats 1000000 in
theorem value_any (h : Bk w b tag s) (h3 : ∀ x, s.val x ≤ 2) (z : Int) : Calls Try.prog 16 #[.pointer (some ⟨b, 0, none⟩), .int .i64 z] w fun e w' => e = .returned (.int .i64 (s.valI z)) ∧ w' = w := by
  obtain ⟨vv, mb, pb, uv, h⟩ := h
  have h0 := h.book.at 0
  simp at h0
  have hrow := h.row
  obtain ⟨A, c, rfl, hc, hm⟩ := row_slice h.row
  by_cases hz : z < 0
  · rw [valI_out s z (.inl hz)]
    go_enter Try.func16, Try.ntmps16
    go_wp2
    go_ret
    exact ⟨rfl, rfl⟩
  · have hz0 : 0 ≤ z := by omega
    by_cases hl : (s.vals.length : Int) ≤ z
    · rw [valI_out s z (.inr hl)]
      go_enter Try.func16, Try.ntmps16
      go_wp2
      go_ret
      exact ⟨rfl, rfl⟩
    · obtain ⟨x, rfl⟩ : ∃ x : Nat, z = x := ⟨z.toNat, by omega⟩
      rw [valI_nat]
      have hx : x < s.vals.length := by omega
      obtain ⟨ad, rfl⟩ : ∃ ad, A = some ad := by
        rcases hrow.2 with ⟨h', h''⟩ | ⟨g, cap, cur, h', _⟩
        · omega
        · injection h' with h' _ _
          exact ⟨_, h'⟩
      obtain ⟨g, o, q⟩ := ad
      obtain rfl : q = none := by
        rcases hrow.2 with ⟨h', _⟩ | ⟨g', cap', cur, h', _⟩
        · simp at h'
        · simp at h'
          exact h'.1.2.2
      obtain ⟨rfl, hcell, _⟩ := row_cell hrow x hx
      have hv := h3 x
      unfold St18.val at hv ⊢
      generalize s.vals.getD x 2 = v at hv hcell ⊢
      have hw : IntKind.i64.wrap (v : Int) = v := by rw [IntKind.wrap_i64]; omega
      clear h hrow
      go_enter Try.func16, Try.ntmps16
      go_wp2
      go_ret
      exact ⟨rfl, rfl⟩
end
end Go.Proofs.Ytfkbmecmancgpaa
