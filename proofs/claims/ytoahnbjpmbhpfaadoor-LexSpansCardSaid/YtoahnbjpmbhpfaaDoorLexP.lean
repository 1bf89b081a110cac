/- Package lex: take, Step, Close, New, At. -/
import Derived.Test.YtoahnbjpmbhpfaaDoorLexM
import Derived.Defers
namespace Go.Proofs.YtoahnbjpmbhpfaaDoor
open Go.RowKit
set_option linter.unusedVariables false

/-- A byte within a number. -/
theorem inNumber_any (w : World) (b k f : Nat) (F : Nat → Prop) (a : Int) (p : List UInt8) (c : UInt8) (h : LexIs w b F k (.num a f p)) (hT : Tab w) (hF0 : ¬ F 0) (hFb : ∀ j, F j → j < w.heap.size) (hp : p.length ≤ 1000000000) (hkb : k ≤ 1000000000) :
    Calls Tryd.prog 15 #[.pointer (some ⟨b, 0, none⟩), .int .u8 c.toNat] w (TakeEnd w b F k (stepL (.num a f p) k c)) := by
  show Calls _ _ _ _ (TakeEnd w b F k (if nxI a c.toNat ≠ 0 then ([], 0, LSt.num (nxI a c.toNat) f (p ++ [c])) else
      if whI a && !stickI c.toNat then (⟨9, false, f, k, p⟩ :: (outL k c).1, (outL k c).2.1, (outL k c).2.2) else ([], 5, .dead)))
  by_cases hn : nxI a c.toNat = 0
  · rw [if_neg (by simp [hn])]
    cases hw : (whI a && !stickI c.toNat)
    · rw [if_neg (by decide)]
      exact num_bad w b k f F a p c h hn hw
    · rw [if_pos rfl]
      exact num_end w b k f F a p c h hT hF0 hFb hn hw hkb
  · rw [if_pos hn]
    exact num_on w b k f F a p c h hn hp

section
variable (w : World) (b k : Nat) (F : Nat → Prop) (c : UInt8) (r : List Tok × Int × LSt) (c2 : Int)
set_option maxHeartbeats 1000000 in
set_option maxRecDepth 100000 in
theorem take_0 (hc : w.cell? ⟨b, 2, none⟩ = some (.int .i64 0)) (h : Calls Tryd.prog 17 #[.pointer (some ⟨b, 0, none⟩), .int .u8 c.toNat] w (TakeEnd w b F k r)) :
    Calls Tryd.prog 10 #[.pointer (some ⟨b, 0, none⟩), .int .u8 c.toNat] w (TakeEnd w b F k r) := by
  have HK := Lib.hid h
  clear h
  go_enter Tryd.func10, Tryd.ntmps10
  go_wp2_with (go_at_call 17; refine HK.out.mono ?_; rintro e w1 ⟨v, rfl, h⟩; have H := Lib.hid h; clear h)
  go_ret2
  exact ⟨_, rfl, H.out⟩
set_option maxHeartbeats 1000000 in
set_option maxRecDepth 100000 in
theorem take_8 (hc : w.cell? ⟨b, 2, none⟩ = some (.int .i64 8)) (h : Calls Tryd.prog 14 #[.pointer (some ⟨b, 0, none⟩), .int .u8 c.toNat] w (TakeEnd w b F k r)) :
    Calls Tryd.prog 10 #[.pointer (some ⟨b, 0, none⟩), .int .u8 c.toNat] w (TakeEnd w b F k r) := by
  have HK := Lib.hid h
  clear h
  go_enter Tryd.func10, Tryd.ntmps10
  go_wp2_with (go_at_call 14; refine HK.out.mono ?_; rintro e w1 ⟨v, rfl, h⟩; have H := Lib.hid h; clear h)
  go_ret2
  exact ⟨_, rfl, H.out⟩
set_option maxHeartbeats 1000000 in
set_option maxRecDepth 100000 in
theorem take_9 (hc : w.cell? ⟨b, 2, none⟩ = some (.int .i64 9)) (h : Calls Tryd.prog 15 #[.pointer (some ⟨b, 0, none⟩), .int .u8 c.toNat] w (TakeEnd w b F k r)) :
    Calls Tryd.prog 10 #[.pointer (some ⟨b, 0, none⟩), .int .u8 c.toNat] w (TakeEnd w b F k r) := by
  have HK := Lib.hid h
  clear h
  go_enter Tryd.func10, Tryd.ntmps10
  go_wp2_with (go_at_call 15; refine HK.out.mono ?_; rintro e w1 ⟨v, rfl, h⟩; have H := Lib.hid h; clear h)
  go_ret2
  exact ⟨_, rfl, H.out⟩
set_option maxHeartbeats 1000000 in
set_option maxRecDepth 100000 in
theorem take_10 (hc : w.cell? ⟨b, 2, none⟩ = some (.int .i64 10)) (h : Calls Tryd.prog 16 #[.pointer (some ⟨b, 0, none⟩), .int .u8 c.toNat] w (TakeEnd w b F k r)) :
    Calls Tryd.prog 10 #[.pointer (some ⟨b, 0, none⟩), .int .u8 c.toNat] w (TakeEnd w b F k r) := by
  have HK := Lib.hid h
  clear h
  go_enter Tryd.func10, Tryd.ntmps10
  go_wp2_with (go_at_call 16; refine HK.out.mono ?_; rintro e w1 ⟨v, rfl, h⟩; have H := Lib.hid h; clear h)
  go_ret2
  exact ⟨_, rfl, H.out⟩
end

theorem LexCs.c2 {w : World} {b : Nat} {k wi f : Int} (h : LexCs w b k wi f) : w.cell? ⟨b, 2, none⟩ = some (.int .i64 wi) := by
  obtain ⟨cs, h, h1, h2, h3, _⟩ := h
  rw [h.at]
  simpa using h3
theorem LexIs.notOver {w : World} {b k : Nat} {F : Nat → Prop} {st : LSt} (h : LexIs w b F k st) (hd : st ≠ .dead) : w.cell? ⟨b, 1, none⟩ = some (.bool false) := by
  cases st with
  | dead => exact absurd rfl hd
  | out => rw [h.2.at]; rfl
  | num a f p =>
    obtain ⟨_, _, g, c, ho, _⟩ := h
    rw [ho.at]; rfl
  | word f p =>
    obtain ⟨_, t, j, _, _, _, _, ho⟩ := h
    rw [ho.at]; rfl
  | str q f acc =>
    obtain ⟨_, _, hw, a, sg, lf, num, cnt, fst, ⟨last, signs, loose, ps, hq, _⟩, _⟩ := h
    rw [hq.2.2.at]; rfl

/-- take, wherever the lexer is. -/
theorem take_any (w : World) (b k : Nat) (F : Nat → Prop) (st : LSt) (c : UInt8) (h : LexIs w b F k st) (hd : st ≠ .dead) (hT : Tab w) (hF0 : ¬ F 0) (hFb : ∀ j, F j → j < w.heap.size) (hs : Short k st) (hkb : k ≤ 1000000000) :
    Calls Tryd.prog 10 #[.pointer (some ⟨b, 0, none⟩), .int .u8 c.toNat] w (TakeEnd w b F k (stepL st k c)) := by
  cases st with
  | dead => exact absurd rfl hd
  | out => exact take_0 w b k F c _ (by rw [h.2.at]; rfl) (outside_any w b k F c h hT hkb)
  | num a f p =>
    refine take_9 w b k F c _ ?_ (inNumber_any w b k f F a p c h hT hF0 hFb (Nat.le_trans hs hkb) hkb)
    obtain ⟨_, _, g, c, ho, _⟩ := h
    exact (lx_cs zq_len ho).c2
  | word f p =>
    refine take_10 w b k F c _ ?_ (inWord_any w b k f F p c h hkb)
    obtain ⟨_, t, j, _, _, _, _, ho⟩ := h
    exact (lx_cs zq_len ho).c2
  | str q f acc => exact take_8 w b k F c _ (isQ_cs h.2.2).c2 (inString_any w b k f F q acc c h hs hkb)

/-- How Step ends. -/
def StepEnd (w : World) (b : Nat) (F : Nat → Prop) (k : Nat) (r : List Tok × Int × LSt) (e : Ending) (w' : World) : Prop :=
  ∃ v, e = .returned (.tuple #[v, .int .i64 r.2.1]) ∧ TRow w' w.heap.size v r.1 ∧ Touch F w w' ∧ LexIs w' b (fun j => F j ∨ w.heap.size ≤ j) (if r.2.1 = 0 then k + 1 else k) (if r.2.1 = 0 then r.2.2 else .dead)

theorem TRow.set {w : World} {base : Nat} {v : Value} {ts : List Tok} {b i : Nat} {u : Value} (h : TRow w base v ts) (hb : b < base) : TRow (w.setCell ⟨b, i, none⟩ u) base v ts :=
  h.stay (fun g hg => Below.heap_setCell w ⟨b, i, none⟩ u g (fun e => by have := (h.low hg).1; have : g = b := e; omega))

theorem outL_alive (k : Nat) (c : UInt8) : (outL k c).2.1 = 0 → (outL k c).2.2 ≠ .dead := by
  unfold outL
  (repeat' split) <;> simp
theorem stepL_alive (st : LSt) (k : Nat) (c : UInt8) (hd : st ≠ .dead) : (stepL st k c).2.1 = 0 → (stepL st k c).2.2 ≠ .dead := by
  cases st with
  | dead => exact absurd rfl hd
  | out => exact outL_alive k c
  | num a f p =>
    show (if nxI a c.toNat ≠ 0 then (([], 0, LSt.num (nxI a c.toNat) f (p ++ [c])) : List Tok × Int × LSt) else if whI a && !stickI c.toNat then (⟨9, false, f, k, p⟩ :: (outL k c).1, (outL k c).2.1, (outL k c).2.2) else ([], 5, .dead)).2.1 = 0 → (if nxI a c.toNat ≠ 0 then (([], 0, LSt.num (nxI a c.toNat) f (p ++ [c])) : List Tok × Int × LSt) else if whI a && !stickI c.toNat then (⟨9, false, f, k, p⟩ :: (outL k c).1, (outL k c).2.1, (outL k c).2.2) else ([], 5, .dead)).2.2 ≠ .dead
    split
    · intro _ e; cases e
    split
    · exact outL_alive k c
    · intro e; cases e
  | word f p =>
    show (if refL (p ++ [c]) = 2 then (([], 6, .dead) : List Tok × Int × LSt) else if refL (p ++ [c]) = 1 then ([⟨10, false, f, k + 1, p ++ [c]⟩], 0, .out) else ([], 0, .word f (p ++ [c]))).2.1 = 0 → (if refL (p ++ [c]) = 2 then (([], 6, .dead) : List Tok × Int × LSt) else if refL (p ++ [c]) = 1 then ([⟨10, false, f, k + 1, p ++ [c]⟩], 0, .out) else ([], 0, .word f (p ++ [c]))).2.2 ≠ .dead
    (repeat' split) <;> intro e <;> first | (cases e; done) | (intro e2; cases e2)
  | str q f acc =>
    show (strL q f acc k c (stepQ q c)).2.1 = 0 → (strL q f acc k c (stepQ q c)).2.2 ≠ .dead
    cases hs : stepQ q c with
    | none => intro e; exact absurd e (faultQ_ne q c).2
    | some p =>
      obtain ⟨q', x⟩ := p
      cases q' <;> intro _ e <;> cases e

set_option maxHeartbeats 1000000 in
set_option maxRecDepth 100000 in
theorem step_lex (w : World) (b k : Nat) (F : Nat → Prop) (st : LSt) (c : UInt8) (h : LexIs w b F k st) (hd : st ≠ .dead) (hT : Tab w) (hF0 : ¬ F 0) (hFb : ∀ j, F j → j < w.heap.size) (hs : Short k st) (hkb : k ≤ 1000000000) :
    Calls Tryd.prog 8 #[.pointer (some ⟨b, 0, none⟩), .int .u8 c.toNat] w (StepEnd w b F k (stepL st k c)) := by
  have c1 := h.notOver hd
  have hF := h.has
  have hin := h.inside
  have hal := stepL_alive st k c hd
  have HK := Lib.hid (take_any w b k F st c h hd hT hF0 hFb hs hkb)
  clear h hT hs
  generalize stepL st k c = r at *
  obtain ⟨ts, n, st'⟩ := r
  by_cases hn : n = 0
  · subst hn
    have halv := Lib.hid (show st' ≠ .dead from hal rfl)
    clear hal
    go_enter Tryd.func8, Tryd.ntmps8
    go_wp2_with (first
      | (go_at_call 10; refine HK.out.mono ?_; rintro e w1 ⟨v, rfl, h1, h2, h3, h4⟩
         obtain ⟨cs, ho, hl, h0⟩ := (h3 rfl).any
         have c0 := ho.at 0
         have f0 := ho.free 0
         simp [h0] at c0
         have H1 := Lib.hid h1; have H2 := Lib.hid h2; have H3 := Lib.hid (h3 rfl)
         clear h1 h2 h3 h4 ho hl h0))
    go_ret2
    exact ⟨_, rfl, H1.out.set hin, H2.out.setCell (p := ⟨b, 0, none⟩) (.inl hF) _, H3.out.bump halv.out⟩
  · have g0 : (n == 0) = false := beq_eq_false_iff_ne.2 hn
    go_enter Tryd.func8, Tryd.ntmps8
    go_wp2_with (first
      | (go_at_call 10; refine HK.out.mono ?_; rintro e w1 ⟨v, rfl, h1, h2, h3, h4⟩
         obtain ⟨cs, ho, hl, h0⟩ := h4 hn
         have H1 := Lib.hid h1; have H2 := Lib.hid h2
         have HE := Lib.hid (end_any b k cs w1 ho hl h0)
         clear h1 h2 h3 h4 ho hl h0)
      | (go_at_call 11; refine HE.out.mono ?_; rintro e w2 ⟨rfl, h5, h6⟩
         have H5 := Lib.hid h5; have H6 := Lib.hid h6
         clear h5 h6))
    go_ret2
    refine ⟨_, rfl, H1.out.stay (fun g hg => H6.out.2.2.2.2 g (H1.out.low hg).2 (by have := (H1.out.low hg).1; omega)), H2.out.trans (Touch.of_turned H6.out hF) (fun _ _ h => h), ?_⟩
    show LexIs w2 b _ (if n = 0 then k + 1 else k) (if n = 0 then st' else .dead)
    rw [if_neg hn, if_neg hn]
    exact ⟨.inl hF, H5.out⟩

end Go.Proofs.YtoahnbjpmbhpfaaDoor
