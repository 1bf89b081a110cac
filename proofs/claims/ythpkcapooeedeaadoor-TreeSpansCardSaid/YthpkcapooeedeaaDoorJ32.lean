/- Package tree's Part, as plain mathematics: where a fault is, what the end's tokens do, how much a text makes. -/
import Derived.Test.YthpkcapooeedeaaDoorJ31
import Derived.Deep.RegionHeld3
import Derived.Deep.LoopGhost
namespace Go.Proofs.YthpkcapooeedeaaDoor
open Go.RowKit
set_option linter.unusedVariables false

theorem takeAll_one (n : Nst) (t : Tok) (h : (takeN n t).2.2 = 0) : takeAll n [t] = ((takeN n t).1, (takeN n t).2.1 ++ [], 0) := by
  rw [takeAll_cons, if_neg (fun hh => hh h)]
  rfl
theorem outL_toks (k : Nat) (c : UInt8) : (outL k c).1 = [] ∨ ∃ t, (outL k c).1 = [t] ∧ t.fr = k := by
  unfold outL
  (repeat' split) <;> first
    | exact .inl rfl
    | exact .inr ⟨_, rfl, rfl⟩
theorem fa_out (n : Nst) (k : Nat) (c : UInt8) (h : (takeAll n (outL k c).1).2.2 ≠ 0) : faultAt n (outL k c).1 = k := by
  rcases outL_toks k c with e | ⟨t, e, hk⟩
  · rw [e] at h; exact absurd rfl h
  · rw [e] at h ⊢
    by_cases hf : (takeN n t).2.2 ≠ 0
    · show (if _ then _ else _) = _
      rw [if_pos hf]
      exact hk
    · rw [takeAll_one n t (Decidable.not_not.1 hf)] at h
      exact absurd rfl h
theorem faultAt_k (st : LSt) (n : Nst) (k : Nat) (c : UInt8) (h : Fit st n) (hf : (takeAll n (stepL st k c).1).2.2 ≠ 0) : faultAt n (stepL st k c).1 = k := by
  obtain ⟨hx, h⟩ := h
  have nil : (stepL st k c).1 = [] → faultAt n (stepL st k c).1 = k := fun e => by rw [e] at hf; exact absurd rfl hf
  have one : ∀ t, (stepL st k c).1 = [t] → n.begun ≠ 0 → faultAt n (stepL st k c).1 = k := fun t e hb => by
    rw [e, takeAll_one n t (takeN_end n t hx hb).1] at hf
    exact absurd rfl hf
  cases st with
  | dead => exact h.elim
  | out => exact fa_out n k c hf
  | num a f p =>
    have h : n.begun ≠ 0 := h
    by_cases h1 : nxI a c.toNat ≠ 0
    · have e : stepL (.num a f p) k c = ([], 0, .num (nxI a c.toNat) f (p ++ [c])) := by show (if _ then _ else _) = _; rw [if_pos h1]
      exact nil (by rw [e])
    · by_cases h2 : (whI a && !stickI c.toNat) = true
      · have e : stepL (.num a f p) k c = (⟨9, false, f, k, p⟩ :: (outL k c).1, (outL k c).2.1, (outL k c).2.2) := by show (if _ then _ else if _ then _ else _) = _; rw [if_neg h1, if_pos h2]
        rw [e] at hf ⊢
        have g := (takeN_end n ⟨9, false, f, k, p⟩ hx h).1
        rw [takeAll_cons, if_neg (fun hh => hh g)] at hf
        show (if _ then _ else _) = _
        rw [if_neg (fun hh => hh g)]
        exact fa_out _ k c hf
      · have e : stepL (.num a f p) k c = ([], 5, .dead) := by show (if _ then _ else if _ then _ else _) = _; rw [if_neg h1, if_neg h2]
        exact nil (by rw [e])
  | word f p =>
    have h : n.begun ≠ 0 := h
    by_cases h1 : refL (p ++ [c]) = 2
    · have e : stepL (.word f p) k c = ([], 6, .dead) := by show (if _ then _ else if _ then _ else _) = _; rw [if_pos h1]
      exact nil (by rw [e])
    · by_cases h2 : refL (p ++ [c]) = 1
      · have e : stepL (.word f p) k c = ([⟨10, false, f, k + 1, p ++ [c]⟩], 0, .out) := by show (if _ then _ else if _ then _ else _) = _; rw [if_neg h1, if_pos h2]
        exact one _ (by rw [e]) h
      · have e : stepL (.word f p) k c = ([], 0, .word f (p ++ [c])) := by show (if _ then _ else if _ then _ else _) = _; rw [if_neg h1, if_neg h2]
        exact nil (by rw [e])
  | str q f acc =>
    have h : n.begun ≠ 0 := h
    cases hs : stepQ q c with
    | none =>
      have e : (stepL (.str q f acc) k c).1 = (strL q f acc k c none).1 := by show (strL q f acc k c (stepQ q c)).1 = _; rw [hs]
      exact nil (e.trans rfl)
    | some x =>
      obtain ⟨q', y⟩ := x
      have e : (stepL (.str q f acc) k c).1 = (strL q f acc k c (some (q', y))).1 := by show (strL q f acc k c (stepQ q c)).1 = _; rw [hs]
      by_cases hd : q' = .done
      · subst hd
        exact one _ e h
      · refine nil (e.trans ?_)
        cases q' <;> first | rfl | exact absurd rfl hd
theorem closing (st : LSt) (n : Nst) (k : Nat) (h : Fit st n) : (takeAll n (closeL st k).1).2.2 = 0 ∧ ((closeL st k).2 = 1 ∨ (closeL st k).2 = 10) := by
  obtain ⟨hx, h⟩ := h
  cases st with
  | dead => exact h.elim
  | out => exact ⟨rfl, .inl rfl⟩
  | num a f p =>
    have h : n.begun ≠ 0 := h
    by_cases h2 : whI a = true
    · have e : closeL (.num a f p) k = ([⟨9, false, f, k, p⟩], 1) := by show (if _ then _ else _) = _; rw [if_pos h2]
      rw [e]
      refine ⟨?_, .inl rfl⟩
      rw [takeAll_one n _ (takeN_end n ⟨9, false, f, k, p⟩ hx h).1]
    · have e : closeL (.num a f p) k = ([], 10) := by show (if _ then _ else _) = _; rw [if_neg h2]
      rw [e]
      exact ⟨rfl, .inr rfl⟩
  | word f p => exact ⟨rfl, .inr rfl⟩
  | str q f acc => exact ⟨rfl, .inr rfl⟩
theorem fit_alive {st : LSt} {n : Nst} (h : Fit st n) : st ≠ .dead := by
  rintro rfl
  exact h.2.elim

/-- How much a text makes. -/
theorem takeAll_len (ts : List Tok) : ∀ n, (takeAll n ts).2.1.length ≤ ts.length := by
  induction ts with
  | nil => intro n; exact Nat.le_refl _
  | cons t ts ih =>
    intro n
    have h1 := (takeN_one n t).2
    have h2 := ih (takeN n t).1
    rw [takeAll_cons]
    split
    · simp; omega
    · simp only [List.length_append, List.length_cons]; omega
theorem goP_len (l : List UInt8) : ∀ (st : LSt) (n : Nst) (k : Nat), (goP st n l k).1.length ≤ 2 * l.length + 2 := by
  induction l with
  | nil =>
    intro st n k
    show (takeAll n (closeL st k).1).2.1.length ≤ _
    have := takeAll_len (closeL st k).1 n
    have := (closeL_one st k).1
    simp
    omega
  | cons c t ih =>
    intro st n k
    have h1 : (byteP st n k c).1.length ≤ 2 := Nat.le_trans (takeAll_len _ _) (stepL_two st k c)
    have h2 := ih (byteP st n k c).2.2.1 (byteP st n k c).2.2.2 (k + 1)
    show (if _ then _ else _ : List Evt × Int × Nat).1.length ≤ _
    split
    · show (byteP st n k c).1.length ≤ _
      simp; omega
    · show (_ ++ _ : List Evt).length ≤ _
      simp only [List.length_append, List.length_cons]; omega
theorem bldA_size (es : List Evt) : ∀ b, szB (bldA b es) ≤ szB b + es.length := by
  induction es with
  | nil => intro b; exact Nat.le_refl _
  | cons e es ih =>
    intro b
    have h1 := ih (bldE b e)
    have h2 := bldE_size b e
    show szB (bldA (bldE b e) es) ≤ _
    simp only [List.length_cons]; omega
theorem tree_small (l : List UInt8) (d : Int) (h : l.length ≤ 2000) : sizeT (treeP l d) ≤ 100000 := by
  have h1 : (parseP l d).1.length ≤ 2 * l.length + 2 := goP_len l .out (newN d) 0
  have h2 := bldA_size (parseP l d).1 ⟨[], none⟩
  have h0 : szB ⟨[], none⟩ = 0 := rfl
  unfold treeP treeE
  cases hr : (bldA ⟨[], none⟩ (parseP l d).1).root with
  | none => show sizeT (.mk 0 0 0 [] [] []) ≤ _; simp [sizeT, sizeL]
  | some t =>
    have h3 : szR (some t) ≤ szB (bldA ⟨[], none⟩ (parseP l d).1) := by unfold szB; rw [hr]; omega
    have h4 : szR (some t) = sizeT t := rfl
    show sizeT t ≤ _
    omega
/-- Of a text that is one, the whole has ended. -/
theorem built_whole {n : Nst} {bl : Bld} (h : PB n bl) (hc : closeN n = 1) : ∃ t, bl = ⟨[], some t⟩ := by
  have hn := close_nothing n hc
  have h1 := h.nt hn
  have h2 := h.j.noth hn
  have h3 := h.cn
  have hb : n.begun = 0 := by
    by_cases hb : n.begun = 0
    · exact hb
    · rcases h.j.beg hb with h1 | h1 <;> (cases hm : n.may <;> rw [hm] at hn h1 <;> first | (cases hn; done) | (cases h1; done))
  unfold cnt at h3
  rw [h2, if_neg (fun hh => hh.1 hb)] at h3
  obtain ⟨op, rt⟩ := bl
  have h5 : 0 = op.length := by simpa using h3
  have h4 : op = [] := List.eq_nil_of_length_eq_zero h5.symm
  subst h4
  cases rt with
  | none => exact absurd rfl h1
  | some t => exact ⟨t, rfl⟩

/-- A byte of a text. -/
theorem goP_byte (st : LSt) (n : Nst) (l : List UInt8) (k : Nat) (c : UInt8) (rest : List UInt8) (h : l.drop k = c :: rest) : goP st n (l.drop k) k = if (byteP st n k c).2.1 ≠ 0 then ((byteP st n k c).1, (byteP st n k c).2.1, k) else
    ((byteP st n k c).1 ++ (goP (byteP st n k c).2.2.1 (byteP st n k c).2.2.2 (l.drop (k + 1)) (k + 1)).1, (goP (byteP st n k c).2.2.1 (byteP st n k c).2.2.2 (l.drop (k + 1)) (k + 1)).2) := by
  have e : l.drop (k + 1) = rest := by rw [← List.drop_drop, h]; rfl
  rw [h, e]
  rfl

end Go.Proofs.YthpkcapooeedeaaDoor

namespace Go.Proofs.YthpkcapooeedeaaDoor
open Go.RowKit
set_option linter.unusedVariables false

theorem takeAll_keeps (l : List UInt8) (ts : List Tok) : ∀ (n : Nst) (s sE : Nat × Option Nat) (p pE : Option (Int × Nat)) (m : Nat), InvN n s p → Spans l ts s sE → WfTo ts p pE → manyLe n m → (takeAll n ts).2.2 = 0 →
    InvN (takeAll n ts).1 sE pE ∧ manyLe (takeAll n ts).1 (m + ts.length) ∧ (takeAll n ts).1.most = n.most := by
  induction ts with
  | nil =>
    intro n s sE p pE m hi hs hw hm _
    have hs : s = sE := hs
    have hw : p = pE := hw
    subst hs hw
    exact ⟨hi, hm, rfl⟩
  | cons t ts ih =>
    intro n s sE p pE m hi hs hw hm h
    obtain ⟨h1, h2, h3, _⟩ := takeAll_ok h
    obtain ⟨a1, a2⟩ := spans_cons hs
    obtain ⟨b1, b2⟩ := wf_cons hw
    rw [h3]
    obtain ⟨c1, c2, c3⟩ := ih _ _ _ _ _ (m + 1) (takeN_ok l n s p t hi a1 b1 h1).1 a2 b2 (takeN_many n t m hm) h2
    refine ⟨c1, fun o ho => ?_, c3.trans (takeN_most n t)⟩
    have := c2 o ho
    simp only [List.length_cons]
    omega

/-- Where the loop is, no fault found. -/
structure RunPa (l : List UInt8) (d : Int) (W wr : World) (lx nx nb k : Nat) (st : LSt) (n : Nst) (bl : Bld) (s : Nat × Option Nat) (es : List Evt) (FL FN FM : Nat → Prop) : Prop where
  le : k ≤ l.length
  mach : Mach wr (W.heap.size + 2) nb (W.heap.size + 2) nx FN FM n bl
  box : Own wr lx 42 #[.pointer (some ⟨W.heap.size + 3, 0, none⟩)]
  low : W.heap.size + 2 ≤ lx ∧ W.heap.size + 2 ≤ nx
  lex : LexIs wr (W.heap.size + 3) FL k st
  lbnd : ∀ j, FL j → W.heap.size + 2 < j ∧ j < wr.heap.size ∧ j ≠ lx ∧ j ≠ nx
  apart : ∀ j, FL j → ¬ FN j ∧ ¬ FM j
  lxF : ¬ FN lx ∧ ¬ FM lx
  fit : Fit st n
  inv : InvN n s (pendL st)
  invT : InvT l st k s
  short : Short k st
  pb : PB n bl
  ci : CI n
  many : manyLe n (2 * k)
  most : n.most ≤ 4990
  size : szB bl ≤ 2 * k
  bl_ : bl = bldA ⟨[], none⟩ es
  go : parseP l d = (es ++ (goP st n (l.drop k) k).1, (goP st n (l.drop k) k).2)
  bel : Below W.heap.size W wr
  res6 : Own wr W.heap.size 27 zeroV.toArray
  res8 : Own wr (W.heap.size + 1) 29 #[.int .i64 0, .int .i64 k]
/-- Where a fault has been found, or the end. -/
structure StopPa (l : List UInt8) (d : Int) (W w : World) (kd : Int) (at_ : Nat) : Prop where
  kd_ : (parseP l d).2 = (kd, at_)
  k0 : kd ≠ 0
  bs : ∃ FM, BIs w (W.heap.size + 2) FM (bldA ⟨[], none⟩ (parseP l d).1)
  one : kd = 1 → ∃ t, bldA ⟨[], none⟩ (parseP l d).1 = ⟨[], some t⟩
  bel : Below W.heap.size W w
  res6 : Own w W.heap.size 27 zeroV.toArray
  res8 : Own w (W.heap.size + 1) 29 #[.int .i64 kd, .int .i64 at_]
def RelPa (l : List UInt8) (d : Int) (W : World) (lx nx nb : Nat) (wr : World) : Prop :=
  (∃ (k : Nat) (st : LSt) (n : Nst) (bl : Bld) (s : Nat × Option Nat) (es : List Evt) (FL FN FM : Nat → Prop), RunPa l d W wr lx nx nb k st n bl s es FL FN FM) ∨ ∃ (kd : Int) (at_ : Nat), kd ≠ 1 ∧ StopPa l d W wr kd at_

section
variable {l : List UInt8} {d : Int} {W wr : World} {lx nx nb k : Nat} {st : LSt} {n : Nst} {bl : Bld} {s : Nat × Option Nat} {es : List Evt} {FL FN FM : Nat → Prop}
theorem RunPa.drew (h : RunPa l d W wr lx nx nb k st n bl s es FL FN FM) : RunPa l d W wr.drew lx nx nb k st n bl s es FL FN FM := by
  have ht : Touch (fun _ => False) wr wr.drew := (Touch.refl _ wr).drewN 1
  exact ⟨h.le, h.mach.move ht (fun _ _ h => h) (fun h => h), h.box, h.low, h.lex.stay ht (fun _ _ _ h => h), h.lbnd, h.apart, h.lxF, h.fit, h.inv, h.invT, h.short, h.pb, h.ci, h.many, h.most, h.size, h.bl_, h.go,
    h.bel.trans (ht.below (fun _ _ h => h.elim) h.bel.size), h.res6, h.res8⟩
theorem lex_cell {w : World} {b k : Nat} {F : Nat → Prop} {st : LSt} (h : LexIs w b F k st) : w.cell? ⟨b, 0, none⟩ = some (.int .i64 k) := by
  obtain ⟨cs, ho, hl, h0⟩ := h.any
  exact (ho.at 0).trans (by simpa using h0)

/-- The verdict's two cells. -/
def putV (w : World) (b : Nat) (kd : Int) (at_ : Nat) : World := (w.setCell ⟨b, 0, none⟩ (.int .i64 kd)).setCell ⟨b, 1, none⟩ (.int .i64 at_)
theorem putV_touch (w : World) (b : Nat) (kd : Int) (at_ : Nat) : Touch (fun q => q = b) w (putV w b kd at_) := ((Touch.refl (fun q => q = b) w).setCell (p := ⟨b, 0, none⟩) (.inl rfl) _).setCell (p := ⟨b, 1, none⟩) (.inl rfl) _
theorem putV_own {w : World} {b : Nat} {T : TypeId} {x y : Value} (h : Own w b T #[x, y]) (kd : Int) (at_ : Nat) : Own (putV w b kd at_) b T #[.int .i64 kd, .int .i64 at_] := by
  have hO := (h.put 0 (.int .i64 kd)).put 1 (.int .i64 at_)
  unfold putV
  simpa using hO

/-- The closure, behind a step. -/
theorem part_step (h : RunPa l d W wr lx nx nb k st n bl s es FL FN FM) (hT : Tab W) (hl : l.length ≤ 2000) {c : UInt8} {rest : List UInt8} (hc : l.drop k = c :: rest) {w1 : World} {v : Value} (hv : TRow w1 wr.heap.size v (stepL st k c).1) (t1 : Touch FL wr w1)
    (l1 : LexIs w1 (W.heap.size + 3) (fun j => FL j ∨ wr.heap.size ≤ j) (if (stepL st k c).2.1 = 0 then k + 1 else k) (if (stepL st k c).2.1 = 0 then (stepL st k c).2.2 else .dead)) :
    Calls Tryd.prog 12 #[v, .int .i64 (stepL st k c).2.1, .pointer (some ⟨nx, 0, none⟩), .pointer (some ⟨W.heap.size + 2, 0, none⟩), .pointer (some ⟨lx, 0, none⟩)] w1 fun e w2 => ∃ (kd : Int) (at_ : Nat), e = .returned (.agg #[.int .i64 kd, .int .i64 at_]) ∧
      Own w2 lx 42 #[.pointer (some ⟨W.heap.size + 3, 0, none⟩)] ∧ Below W.heap.size W w2 ∧ Own w2 (W.heap.size + 1) 29 #[.int .i64 0, .int .i64 k] ∧ RelPa l d W lx nx nb (putV w2 (W.heap.size + 1) kd at_) ∧ (kd ≠ 0 ∨ at_ = k + 1) := by
  have hk : k < l.length := by
    have := congrArg List.length hc
    simp at this
    omega
  have hck : l[k]? = some c := by
    have := congrArg List.head? hc
    simpa [List.head?_drop] using this
  have hal := fit_alive h.fit
  have hlb := h.lex.has
  have hlbw := h.lex.inside
  have M1 := h.mach.move t1 (fun q hq hf => hq.elim (h.apart q hf).1 (h.apart q hf).2) (fun hf => (h.lbnd nx hf).2.2.2 rfl)
  have b1 : Below W.heap.size W w1 := h.bel.trans (t1.below (fun j _ hj => by have := (h.lbnd j hj).1; omega) h.bel.size)
  have hT1 := hT.stay b1 (hT.elim fun _ h => h.inside)
  obtain ⟨s', sp, _, inv', _⟩ := stepL_ok l st k c hck s h.invT
  obtain ⟨q, wf, hq⟩ := stepL_wf st k c hal
  have h2 := stepL_two st k c
  have bx1 := t1.own h.box (fun hf => (h.lbnd lx hf).2.2.1 rfl)
  have hs1 := t1.size
  have r81 := t1.own h.res8 (fun hf => by have := (h.lbnd _ hf).1; omega)
  have r61 := t1.own h.res6 (fun hf => by have := (h.lbnd _ hf).1; omega)
  have hnx := h.mach.on.inside
  have hlxw := h.box.inside
  refine (take_part l (stepL st k c).2.1 M1 hT1 (by omega) (by omega) h.inv sp wf h.pb h.ci h.many (by omega) h.most (by have := h.size; omega) hv (fun g hg => ?_) h2 bx1 h.lxF (lex_cell l1) (h.apart _ hlb)).mono ?_
  · have hg := (hv.low hg).1
    exact ⟨fun hf => by have := (h.mach.bnd g (.inl hf)).2.1; omega, fun hf => by have := (h.mach.bnd g (.inr hf)).2.1; omega⟩
  · rintro e w2 ⟨kd, at_, FN', FM', rfl, hF, h0, M2, hsub, t2, hsz⟩
    have hs2 := t2.size
    have no2 : ∀ q, q < W.heap.size + 2 → ¬ (FN q ∨ FM q) := fun q hq hf => by have := (h.mach.bnd q hf).1; omega
    have bx2 := t2.own bx1 (fun hf => hf.elim h.lxF.1 h.lxF.2)
    have b2 : Below W.heap.size W w2 := b1.trans (t2.below (fun j _ hj => by have := (h.mach.bnd j hj).1; omega) b1.size)
    have r82 := t2.own r81 (no2 _ (by omega))
    have r62 := t2.own r61 (no2 _ (by omega))
    have t3 := putV_touch w2 (W.heap.size + 1) kd at_
    have r83 := putV_own r82 kd at_
    have hs3 := t3.size
    have low := h.low
    have M3 := M2.move t3 (fun q hq e => by have := (M2.bnd q hq).1; have e : q = W.heap.size + 1 := e; omega) (fun e => by have e : nx = W.heap.size + 1 := e; omega)
    have r63 := t3.own r62 (fun e => by have e : W.heap.size = W.heap.size + 1 := e; omega)
    have bx3 := t3.own bx2 (fun e => by have e : lx = W.heap.size + 1 := e; omega)
    have b3 : Below W.heap.size W (putV w2 (W.heap.size + 1) kd at_) := b2.trans (t3.below (fun j _ hj => by have hj : j = W.heap.size + 1 := hj; omega) b2.size)
    have hgo := h.go
    rw [goP_byte st n l k c rest hc] at hgo
    have ef : (byteP st n k c).2.1 = if (takeAll n (stepL st k c).1).2.2 ≠ 0 then (takeAll n (stepL st k c).1).2.2 else if (stepL st k c).2.1 = 8 ∧ (takeAll n (stepL st k c).1).1.may.isNothing = true then 9 else (stepL st k c).2.1 := rfl
    have ee : (byteP st n k c).1 = (takeAll n (stepL st k c).1).2.1 := rfl
    have hfit := byteP_fit st n k c h.fit
    have ekd : kd = (byteP st n k c).2.1 := by
      by_cases hf : (takeAll n (stepL st k c).1).2.2 = 0
      · rw [ef, if_neg (fun hh => hh hf)]
        exact (h0 hf).1
      · rw [ef, if_pos hf]
        exact (hF hf).1
    have hbl : bldA ⟨[], none⟩ (es ++ (takeAll n (stepL st k c).1).2.1) = bldA bl (takeAll n (stepL st k c).1).2.1 := by rw [bldA_app, h.bl_]
    refine ⟨kd, at_, rfl, bx2, b2, r82, ?_, ?_⟩
    · by_cases hz : kd = 0
      · have hb0 : (byteP st n k c).2.1 = 0 := ekd.symm.trans hz
        have hf : (takeAll n (stepL st k c).1).2.2 = 0 := by
          by_cases hf : (takeAll n (stepL st k c).1).2.2 = 0
          · exact hf
          · rw [ef, if_pos hf] at hb0; exact absurd hb0 hf
        obtain ⟨a1, a2, a3, a4⟩ := h0 hf
        have hr0 : (stepL st k c).2.1 = 0 := by
          rw [hz] at a1
          by_cases h8 : (stepL st k c).2.1 = 8 ∧ (takeAll n (stepL st k c).1).1.may.isNothing = true
          · rw [if_pos h8] at a1; cases a1
          · rw [if_neg h8] at a1; exact a1.symm
        rw [if_pos hr0] at a2 l1
        rw [if_pos hr0] at l1
        subst a2 hz
        rw [if_neg (fun hh => hh hb0)] at hgo
        obtain ⟨k1, k2, k3⟩ := takeAll_keeps l _ _ _ _ _ _ _ h.inv sp wf h.many hf
        rw [hq hr0] at k1
        have lx3 := ((l1.mono (G := fun j => (FL j ∨ wr.heap.size ≤ j) ∧ j < w1.heap.size) (fun j hj hh => ⟨hh, hj⟩)).stay t2 (fun j _ hj hh => by
          rcases hj.1 with hj1 | hj1
          · exact hh.elim (h.apart j hj1).1 (h.apart j hj1).2
          · have := (h.mach.bnd j hh).2.1; omega)).stay t3 (fun j _ hj e => by
            have e : j = W.heap.size + 1 := e
            rcases hj.1 with hj1 | hj1
            · have := (h.lbnd j hj1).1; omega
            · omega)
        refine .inl ⟨k + 1, _, _, _, s', es ++ (takeAll n (stepL st k c).1).2.1, _, FN', FM', hk, M3, bx3, low, lx3, fun j hj => ?_, fun j hj => ⟨fun hn => ?_, fun hm => ?_⟩, ⟨fun hn => ?_, fun hm => ?_⟩, hfit.2 hb0, k1, inv' hr0, stepL_short st k c h.short, a3, a4, fun o ho => ?_, by rw [k3]; exact h.most, ?_, hbl.symm, ?_, b3, r63, r83⟩
        · rcases hj.1 with hj1 | hj1
          · obtain ⟨x1, x2, x3, x4⟩ := h.lbnd j hj1
            exact ⟨x1, by omega, x3, x4⟩
          · exact ⟨by omega, by omega, by omega, by omega⟩
        · rcases hsub j (.inl hn) with g1 | g1 | g1
          · rcases hj.1 with hj1 | hj1
            · exact (h.apart j hj1).1 g1
            · have := (h.mach.bnd j (.inl g1)).2.1; omega
          · rcases hj.1 with hj1 | hj1
            · exact (h.apart j hj1).2 g1
            · have := (h.mach.bnd j (.inr g1)).2.1; omega
          · have := hj.2; omega
        · rcases hsub j (.inr hm) with g1 | g1 | g1
          · rcases hj.1 with hj1 | hj1
            · exact (h.apart j hj1).1 g1
            · have := (h.mach.bnd j (.inl g1)).2.1; omega
          · rcases hj.1 with hj1 | hj1
            · exact (h.apart j hj1).2 g1
            · have := (h.mach.bnd j (.inr g1)).2.1; omega
          · have := hj.2; omega
        · rcases hsub lx (.inl hn) with g1 | g1 | g1
          · exact h.lxF.1 g1
          · exact h.lxF.2 g1
          · omega
        · rcases hsub lx (.inr hm) with g1 | g1 | g1
          · exact h.lxF.1 g1
          · exact h.lxF.2 g1
          · omega
        · have := k2 o ho; omega
        · have := h.size; omega
        · rw [hgo, ee, ← List.append_assoc]
          rfl
      · have hb0 : (byteP st n k c).2.1 ≠ 0 := fun hh => hz (ekd.trans hh)
        rw [if_pos hb0] at hgo
        have eat : at_ = k := by
          by_cases hf : (takeAll n (stepL st k c).1).2.2 = 0
          · obtain ⟨a1, a2, _, _⟩ := h0 hf
            rw [a2, if_neg]
            intro hr0
            rw [hr0, if_neg (by rintro ⟨h, _⟩; cases h)] at a1
            exact hz a1
          · exact (hF hf).2.trans (faultAt_k st n k c h.fit hf)
        have hfk := hfit.1 hb0
        rw [← ekd] at hfk hgo
        subst eat
        refine .inr ⟨kd, at_, hfk.2.1, by rw [hgo], hz, ⟨FM', ?_⟩, fun hh => absurd hh hfk.2.1, b3, r63, r83⟩
        rw [hgo]
        show BIs _ _ _ (bldA ⟨[], none⟩ (es ++ (byteP st n at_ c).1))
        rw [ee, hbl]
        exact M3.bs
    · by_cases hz : kd = 0
      · refine .inr ?_
        have hb0 : (byteP st n k c).2.1 = 0 := ekd.symm.trans hz
        have hf : (takeAll n (stepL st k c).1).2.2 = 0 := by
          by_cases hf : (takeAll n (stepL st k c).1).2.2 = 0
          · exact hf
          · rw [ef, if_pos hf] at hb0; exact absurd hb0 hf
        obtain ⟨a1, a2, _, _⟩ := h0 hf
        have hr0 : (stepL st k c).2.1 = 0 := by
          rw [hz] at a1
          by_cases h8 : (stepL st k c).2.1 = 8 ∧ (takeAll n (stepL st k c).1).1.may.isNothing = true
          · rw [if_pos h8] at a1; cases a1
          · rw [if_neg h8] at a1; exact a1.symm
        rw [a2, if_pos hr0]
      · exact .inl hz

/-- The closure, behind the end. -/
theorem part_close (h : RunPa l d W wr lx nx nb k st n bl s es FL FN FM) (hT : Tab W) (hl : l.length ≤ 2000) (hk : k = l.length) {w1 : World} {v : Value} (hv : TRow w1 wr.heap.size v (closeL st k).1) (t1 : Touch FL wr w1)
    (l1 : LexIs w1 (W.heap.size + 3) (fun j => FL j ∨ wr.heap.size ≤ j) k .dead) :
    Calls Tryd.prog 12 #[v, .int .i64 (closeL st k).2, .pointer (some ⟨nx, 0, none⟩), .pointer (some ⟨W.heap.size + 2, 0, none⟩), .pointer (some ⟨lx, 0, none⟩)] w1 fun e w2 => e = .returned (.agg #[.int .i64 (closeL st k).2, .int .i64 k]) ∧
      ∃ (n' : Nst) (FN' : Nat → Prop), Own w2 nx 44 #[.pointer (some ⟨nb, 0, none⟩)] ∧ NIs w2 nb FN' n' ∧ (∀ j, FN' j → W.heap.size + 2 ≤ j) ∧ W.heap.size + 2 ≤ nx ∧ n'.may.isBroken = false ∧ CI n' ∧ Own w2 (W.heap.size + 1) 29 #[.int .i64 0, .int .i64 k] ∧ ((closeL st k).2 = 1 ∨ (closeL st k).2 = 10) ∧
        ∀ (kd : Int) (w3 : World), Touch (fun q => q = W.heap.size + 1) w2 w3 → Own w3 (W.heap.size + 1) 29 #[.int .i64 kd, .int .i64 k] → kd = (if (closeL st k).2 ≠ 1 then (closeL st k).2 else closeN n') → StopPa l d W w3 kd k := by
  have hal := fit_alive h.fit
  have hlb := h.lex.has
  have M1 := h.mach.move t1 (fun q hq hf => hq.elim (h.apart q hf).1 (h.apart q hf).2) (fun hf => (h.lbnd nx hf).2.2.2 rfl)
  have b1 : Below W.heap.size W w1 := h.bel.trans (t1.below (fun j _ hj => by have := (h.lbnd j hj).1; omega) h.bel.size)
  have hT1 := hT.stay b1 (hT.elim fun _ h => h.inside)
  have hInv := h.invT
  rw [hk] at hInv
  obtain ⟨s', sp, _, _⟩ := close_ok l st s hInv
  rw [← hk] at sp
  obtain ⟨q, wf⟩ := closeL_wf st k hal
  have h2 := (closeL_one st k).1
  have bx1 := t1.own h.box (fun hf => (h.lbnd lx hf).2.2.1 rfl)
  have hs1 := t1.size
  have r81 := t1.own h.res8 (fun hf => by have := (h.lbnd _ hf).1; omega)
  have r61 := t1.own h.res6 (fun hf => by have := (h.lbnd _ hf).1; omega)
  have hnx := h.mach.on.inside
  have hlbw := h.lex.inside
  obtain ⟨hcl, hkind⟩ := closing st n k h.fit
  refine (take_part l (closeL st k).2 M1 hT1 (by omega) (by omega) h.inv sp wf h.pb h.ci h.many (by omega) h.most (by have := h.size; omega) hv (fun g hg => ?_) h2 bx1 h.lxF (lex_cell l1) (h.apart _ hlb)).mono ?_
  · have hg := (hv.low hg).1
    exact ⟨fun hf => by have := (h.mach.bnd g (.inl hf)).2.1; omega, fun hf => by have := (h.mach.bnd g (.inr hf)).2.1; omega⟩
  · rintro e w2 ⟨kd, at_, FN', FM', rfl, hF, h0, M2, hsub, t2, hsz⟩
    obtain ⟨a1, rfl, a3, a4⟩ := h0 hcl
    have a1 : kd = (closeL st at_).2 := by
      rw [a1, if_neg]
      rintro ⟨h8, _⟩
      rcases hkind with e | e <;> (rw [e] at h8; cases h8)
    subst a1
    have no2 : ∀ q, q < W.heap.size + 2 → ¬ (FN q ∨ FM q) := fun q hq hf => by have := (h.mach.bnd q hf).1; omega
    have b2 : Below W.heap.size W w2 := b1.trans (t2.below (fun j _ hj => by have := (h.mach.bnd j hj).1; omega) b1.size)
    have r82 := t2.own r81 (no2 _ (by omega))
    have r62 := t2.own r61 (no2 _ (by omega))
    have hgo := h.go
    have hd : l.drop at_ = [] := by rw [hk]; exact List.drop_length
    rw [hd] at hgo
    have hgo : parseP l d = (es ++ (takeAll n (closeL st at_).1).2.1, (endP st n at_).2, at_) := hgo
    have hbl : bldA ⟨[], none⟩ (es ++ (takeAll n (closeL st at_).1).2.1) = bldA bl (takeAll n (closeL st at_).1).2.1 := by rw [bldA_app, h.bl_]
    have hbr : (takeAll n (closeL st at_).1).1.may.isBroken = false := by rw [← bad_broken]; exact a3.j.bad
    refine ⟨rfl, _, FN', M2.on, M2.ns, fun j hj => (M2.bnd j (.inl hj)).1, h.low.2, hbr, a4, r82, hkind, fun kd w3 t3 r83 ekd => ?_⟩
    have eend : (endP st n at_).2 = kd := ekd.symm
    have hek := endP_kind st n at_ h.fit
    have M3 := M2.move t3 (fun q hq e => by have := (M2.bnd q hq).1; have e : q = W.heap.size + 1 := e; omega) (fun e => by have e : nx = W.heap.size + 1 := e; have := h.low; omega)
    rw [eend] at hek hgo
    have e1 : (parseP l d).1 = es ++ (takeAll n (closeL st at_).1).2.1 := by rw [hgo]
    refine ⟨by rw [hgo], fun hh => (by rw [hh] at hek; rcases hek with e | e | e <;> exact absurd e (by decide)), ⟨FM', ?_⟩, fun hh => ?_, b2.trans (t3.below (fun j _ hj => by have hj : j = W.heap.size + 1 := hj; omega) b2.size), t3.own r62 (fun e => by have e : W.heap.size = W.heap.size + 1 := e; omega), r83⟩
    · rw [e1, hbl]
      exact M3.bs
    · rw [e1, hbl]
      refine built_whole a3 ?_
      rcases hkind with e | e
      · rw [e] at ekd
        rw [← hh, ekd]
        simp
      · rw [e] at ekd
        rw [ekd] at hh
        cases hh
end

/-- What has been built at the end. -/
theorem StopPa.now {l : List UInt8} {d : Int} {W w : World} {kd : Int} {at_ : Nat} (h : StopPa l d W w kd at_) (hl : l.length ≤ 2000) : Calls Tryd.prog 20 #[.pointer (some ⟨W.heap.size + 2, 0, none⟩)] w fun e w' => ∃ (yk : Int) (yf yt : Nat) (yx : List UInt8) (yA : Option Addr) (yn yc : Nat) (yB : Option Addr) (ym yd : Nat) (o : Bool),
    e = .returned (.tuple #[.agg #[.int .i64 yk, .int .i64 yf, .int .i64 yt, .string ⟨yx.toArray⟩, .slice yA yn yc, .slice yB ym yd], .bool o]) ∧ Below w.heap.size w w' ∧ (kd = 1 → ∀ w'', w'.heap.size ≤ w''.heap.size → (∀ q, w.heap.size ≤ q → q < w'.heap.size → w''.heap[q]? = w'.heap[q]?) → VIs w'' (treeP l d) ⟨yk, yf, yt, yx, yA, yn, yc, yB, ym, yd⟩) := by
  obtain ⟨FM, hb⟩ := h.bs
  have h1 : (parseP l d).1.length ≤ 2 * l.length + 2 := goP_len l .out (newN d) 0
  have h2 := bldA_size (parseP l d).1 ⟨[], none⟩
  have h0 : szB ⟨[], none⟩ = 0 := rfl
  refine (Now_bld hb (by omega)).mono ?_
  rintro e w' ⟨⟨yk, yf, yt, yx, yA, yn, yc, yB, ym, yd⟩, o, rfl, hv, hbel⟩
  refine ⟨yk, yf, yt, yx, yA, yn, yc, yB, ym, yd, o, rfl, hbel, fun h1 w9 hs hk => ?_⟩
  obtain ⟨t, ht⟩ := h.one h1
  have e : treeP l d = t := by unfold treeP treeE; rw [ht]; rfl
  rw [e]
  exact hv t ht w9 hs hk

end Go.Proofs.YthpkcapooeedeaaDoor

namespace Go.Proofs.YthpkcapooeedeaaDoor
open Go.RowKit
set_option linter.unusedVariables false

/-- How Part ends. -/
def PartEnd (l : List UInt8) (d : Int) (W : World) (e : Ending) (w' : World) : Prop := ∃ (yk : Int) (yf yt : Nat) (yx : List UInt8) (yA : Option Addr) (yn yc : Nat) (yB : Option Addr) (ym yd : Nat) (o : Bool),
  e = .returned (.tuple #[.agg #[.int .i64 yk, .int .i64 yf, .int .i64 yt, .string ⟨yx.toArray⟩, .slice yA yn yc, .slice yB ym yd], .bool o, .agg #[.int .i64 (parseP l d).2.1, .int .i64 (parseP l d).2.2]]) ∧
    ((parseP l d).2.1 = 1 → ∀ w'', w'.heap.size ≤ w''.heap.size → (∀ q, W.heap.size ≤ q → q < w'.heap.size → w''.heap[q]? = w'.heap[q]?) → VIs w'' (treeP l d) ⟨yk, yf, yt, yx, yA, yn, yc, yB, ym, yd⟩) ∧ Below W.heap.size W w'
/-- At the start of the loop. -/
theorem run_start (l : List UInt8) (d : Int) (h1 : 1 ≤ d) (h2 : d ≤ 1000) (W w2 w4 : World) (nb : Nat)
    (hn : NIs w2 nb (fun j => ((((W.alloc (.cells zeroV.toArray 27)).alloc (.cells #[.int .i64 0, .int .i64 0] 29)).alloc (.cells #[.pointer none, .slice none 0 0] 41)).alloc (.cells (LZ 0 false).toArray 79)).heap.size ≤ j) (newN d))
    (hb : Below ((((W.alloc (.cells zeroV.toArray 27)).alloc (.cells #[.int .i64 0, .int .i64 0] 29)).alloc (.cells #[.pointer none, .slice none 0 0] 41)).alloc (.cells (LZ 0 false).toArray 79)).heap.size ((((W.alloc (.cells zeroV.toArray 27)).alloc (.cells #[.int .i64 0, .int .i64 0] 29)).alloc (.cells #[.pointer none, .slice none 0 0] 41)).alloc (.cells (LZ 0 false).toArray 79)) w2)
    (h4 : w4 = (w2.alloc (.cells #[.pointer (some ⟨W.heap.size + 3, 0, none⟩)] 42)).alloc (.cells #[.pointer (some ⟨nb, 0, none⟩)] 44)) :
    RelPa l d W w2.heap.size (w2.heap.size + 1) nb w4 := by
  have z1 : (W.alloc (.cells zeroV.toArray 27)).heap.size = W.heap.size + 1 := by simp
  have z2 : ((W.alloc (.cells zeroV.toArray 27)).alloc (.cells #[.int .i64 0, .int .i64 0] 29)).heap.size = W.heap.size + 2 := by simp
  have z3 : (((W.alloc (.cells zeroV.toArray 27)).alloc (.cells #[.int .i64 0, .int .i64 0] 29)).alloc (.cells #[.pointer none, .slice none 0 0] 41)).heap.size = W.heap.size + 3 := by simp
  have z4 : ((((W.alloc (.cells zeroV.toArray 27)).alloc (.cells #[.int .i64 0, .int .i64 0] 29)).alloc (.cells #[.pointer none, .slice none 0 0] 41)).alloc (.cells (LZ 0 false).toArray 79)).heap.size = W.heap.size + 4 := by simp
  have o6 := (((Own.fresh W 27 zeroV.toArray).over (.cells #[.int .i64 0, .int .i64 0] 29)).over (.cells #[.pointer none, .slice none 0 0] 41)).over (.cells (LZ 0 false).toArray 79)
  have o8 := ((Own.fresh (W.alloc (.cells zeroV.toArray 27)) 29 #[.int .i64 0, .int .i64 0]).over (.cells #[.pointer none, .slice none 0 0] 41)).over (.cells (LZ 0 false).toArray 79)
  have oB := BIs.start ((W.alloc (.cells zeroV.toArray 27)).alloc (.cells #[.int .i64 0, .int .i64 0] 29))
  have oL := Own.fresh (((W.alloc (.cells zeroV.toArray 27)).alloc (.cells #[.int .i64 0, .int .i64 0] 29)).alloc (.cells #[.pointer none, .slice none 0 0] 41)) 79 (LZ 0 false).toArray
  have bw : Below W.heap.size W ((((W.alloc (.cells zeroV.toArray 27)).alloc (.cells #[.int .i64 0, .int .i64 0] 29)).alloc (.cells #[.pointer none, .slice none 0 0] 41)).alloc (.cells (LZ 0 false).toArray 79)) :=
    (((((Below.refl _ _).alloc (Nat.le_refl _) _).alloc (by omega) _).alloc (by omega) _).alloc (by omega) _)
  have bL : Touch (fun _ => False) (((W.alloc (.cells zeroV.toArray 27)).alloc (.cells #[.int .i64 0, .int .i64 0] 29)).alloc (.cells #[.pointer none, .slice none 0 0] 41)) ((((W.alloc (.cells zeroV.toArray 27)).alloc (.cells #[.int .i64 0, .int .i64 0] 29)).alloc (.cells #[.pointer none, .slice none 0 0] 41)).alloc (.cells (LZ 0 false).toArray 79)) := Touch.of_new ((Below.refl _ _).alloc (Nat.le_refl _) _)
  have oB := oB.move bL (fun _ _ _ h => h)
  rw [z1] at o8
  rw [z2] at oB
  rw [z3] at oL
  generalize ((((W.alloc (.cells zeroV.toArray 27)).alloc (.cells #[.int .i64 0, .int .i64 0] 29)).alloc (.cells #[.pointer none, .slice none 0 0] 41)).alloc (.cells (LZ 0 false).toArray 79)) = wL at *
  have t2 : Touch (fun _ => False) wL w2 := Touch.of_new hb
  have s2 := hb.size
  have t4 : Touch (fun _ => False) w2 w4 := by subst h4; exact Touch.of_new (((Below.refl _ _).alloc (Nat.le_refl _) _).alloc (by simp) _)
  have s4 : w4.heap.size = w2.heap.size + 2 := by subst h4; simp
  have bx : Own w4 w2.heap.size 42 #[.pointer (some ⟨W.heap.size + 3, 0, none⟩)] := by subst h4; exact (Own.fresh _ _ _).over _
  have nx : Own w4 (w2.heap.size + 1) 44 #[.pointer (some ⟨nb, 0, none⟩)] := by
    subst h4
    have := Own.fresh (w2.alloc (.cells #[.pointer (some ⟨W.heap.size + 3, 0, none⟩)] 42)) 44 #[.pointer (some ⟨nb, 0, none⟩)]
    rwa [show (w2.alloc (.cells #[.pointer (some ⟨W.heap.size + 3, 0, none⟩)] 42)).heap.size = w2.heap.size + 1 by simp] at this
  have n4 : NIs w4 nb (fun j => W.heap.size + 4 ≤ j ∧ j < w2.heap.size) (newN d) := (hn.mono (G := fun j => W.heap.size + 4 ≤ j ∧ j < w2.heap.size) (fun j hj h => ⟨by rw [z4] at h; exact h, hj⟩)).move t4 (fun _ _ _ h => h)
  have no : ∀ q : Nat, ¬ False := fun _ h => h
  refine .inl ⟨0, .out, newN d, ⟨[], none⟩, (0, none), [], fun j => j = W.heap.size + 3, fun j => W.heap.size + 4 ≤ j ∧ j < w2.heap.size, fun j => j = W.heap.size + 2, Nat.zero_le _, ⟨nx, n4, (oB.move t2 (fun _ _ _ h => h)).move t4 (fun _ _ _ h => h), fun k hk hm => ?_, fun k hk => ?_⟩, bx, ⟨by omega, by omega⟩, ⟨rfl, t4.own (t2.own oL (no 0)) (no 0)⟩, fun j hj => ?_, fun j hj => ⟨fun hn => ?_, fun hm => ?_⟩, ⟨fun hn => ?_, fun hm => ?_⟩, fit_start d, InvN.start d, ⟨rfl, Nat.le_refl _, fun m h1 h2 => by omega⟩, trivial, PB.start d, CI.start d, fun o ho => (by cases ho), ?_, Nat.le_refl _, rfl, rfl, ?_, t4.own (t2.own o6 (no 0)) (no 0), t4.own (t2.own o8 (no 0)) (no 0)⟩
  · omega
  · rcases hk with ⟨x1, x2⟩ | rfl
    · exact ⟨by omega, by omega, by omega⟩
    · exact ⟨by omega, by omega, by omega⟩
  · subst hj; exact ⟨by omega, by omega, by omega, by omega⟩
  · subst hj; have := hn.1; omega
  · have hm : j = W.heap.size + 2 := hm; omega
  · have := hn.2; omega
  · have hm : w2.heap.size = W.heap.size + 2 := hm; omega
  · show (if d < 1 then 1 else d.toNat) ≤ 4990
    split <;> omega
  · exact (bw.trans (t2.below (fun _ _ h => h.elim) (by omega))).trans (t4.below (fun _ _ h => h.elim) (by omega))

end Go.Proofs.YthpkcapooeedeaaDoor
