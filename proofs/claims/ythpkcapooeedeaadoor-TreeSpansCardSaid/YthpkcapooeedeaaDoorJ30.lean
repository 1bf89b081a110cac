/- The walk of NestPairs, over what the program's nest is proved to do. -/
import Derived.Test.YthpkcapooeedeaaDoorRows
import Derived.Test.YthpkcapooeedeaaDoorJ29
import Derived.Test.YthpkcapooeedeaaDoorJ09
import Derived.Deep.DeepMust
import Derived.Deep.CutRange
import Derived.Deep.LoopGhost
namespace Go.Proofs.YthpkcapooeedeaaDoor
open Go.RowKit
set_option linter.unusedVariables false

def manyLe (n : Nst) (k : Nat) : Prop := ∀ o ∈ n.op, o.many ≤ k
theorem takeN_many (n : Nst) (t : Tok) (k : Nat) (h : manyLe n k) : manyLe (takeN n t).1 (k + 1) := by
  have same : ∀ l : List Opn, (∀ o ∈ l, o.many ≤ k) → ∀ o ∈ l, o.many ≤ k + 1 := fun l h o ho => Nat.le_succ_of_le (h o ho)
  have more : ∀ l : List Opn, (∀ o ∈ l, o.many ≤ k) → ∀ o ∈ moreO l, o.many ≤ k + 1 := fun l h o ho => by
    cases l with
    | nil => cases ho
    | cons q r =>
      rcases List.mem_cons.1 ho with rfl | ho
      · have := h q (by simp); show q.many + 1 ≤ k + 1; omega
      · exact Nat.le_succ_of_le (h o (by simp [ho]))
  have name : ∀ (s : List UInt8) (l : List Opn), (∀ o ∈ l, o.many ≤ k) → ∀ o ∈ nameO s l, o.many ≤ k + 1 := fun s l h o ho => by
    cases l with
    | nil => cases ho
    | cons q r =>
      rcases List.mem_cons.1 ho with rfl | ho
      · exact Nat.le_succ_of_le (h q (by simp))
      · exact Nat.le_succ_of_le (h o (by simp [ho]))
  unfold takeN
  split
  · obtain ⟨most, op, may, begun, came⟩ := n
    have h : ∀ o ∈ op, o.many ≤ k := h
    have tail : ∀ (o : Opn) (r : List Opn), op = o :: r → ∀ x ∈ r, x.many ≤ k := fun o r e x hx => h x (by rw [e]; simp [hx])
    have push : ∀ x : Opn, x.many = 0 → ∀ o ∈ x :: op, o.many ≤ k + 1 := fun x hx o ho => by
      rcases List.mem_cons.1 ho with rfl | ho
      · omega
      · exact same op h o ho
    unfold takeO
    cases may <;> cases op <;> simp only [] <;> (repeat' split) <;> first
      | exact same _ h
      | exact push _ rfl
      | exact more _ (tail _ _ rfl)
  · split
    · exact name _ _ h
    · exact more _ h

theorem cts_le (n : Nst) (p : Option (Int × Nat)) (k : Nat) (h : manyLe n k) : ∀ x ∈ cts n p, x ≤ k + 1 := by
  have hF : ∀ (l : List Opn) (c : Nat), c ≤ 1 → (∀ o ∈ l, o.many ≤ k) → ∀ x ∈ ctF c l, x ≤ k + 1 := by
    intro l
    induction l with
    | nil => intro c hc _ x hx; simp [ctF] at hx; omega
    | cons o r ih =>
      intro c hc ho x hx
      rcases List.mem_cons.1 hx with rfl | hx
      · have := ho o (by simp); omega
      · exact ih 1 (Nat.le_refl _) (fun q hq => ho q (by simp [hq])) x hx
  intro x hx
  rcases List.mem_append.1 hx with hx | hx
  · refine hF n.op (cB n p) ?_ h x (List.mem_reverse.1 hx)
    unfold cB
    split <;> omega
  · obtain ⟨_, _, rfl⟩ := List.mem_map.1 hx
    omega

theorem takeN_most (n : Nst) (t : Tok) : (takeN n t).1.most = n.most := by
  unfold takeN
  split
  · obtain ⟨most, op, may, begun, came⟩ := n
    unfold takeO
    cases may <;> cases op <;> simp only [] <;> (repeat' split) <;> rfl
  · split <;> rfl

theorem evs_len (n : Nst) (p : Option (Int × Nat)) : (evs n p).length ≤ n.op.length + 1 := by
  have : (evP n p).length ≤ 1 := by
    cases p with
    | none => simp [evP]
    | some kf =>
      show (if n.may.val then [(⟨1, beginK kf.1, kf.2, 0, stepO n.op, []⟩ : Evt)] else []).length ≤ 1
      split <;> simp
  simp [evs]
  exact this

/-- What the program's nest does. -/
structure NestC where
  St : World → Nat → (Nat → Prop) → Nst → Prop
  has : ∀ {w b F n}, St w b F n → F b ∧ b < w.heap.size
  mono : ∀ {w b F G n}, St w b F n → (∀ j, j < w.heap.size → F j → G j) → St w b G n
  stay : ∀ {w w' b F G n}, St w b F n → Touch G w w' → (∀ j, j < w.heap.size → F j → ¬ G j) → St w' b F n
  new : ∀ (d : Int) (w : World), -1000000 ≤ d → d ≤ 1000000 → Calls Tryd.prog 11 #[.int .i64 d] w fun e w' => ∃ b, e = .returned (.pointer (some ⟨b, 0, none⟩)) ∧ St w' b (fun j => w.heap.size ≤ j) (newN d) ∧ Below w.heap.size w w'
  take : ∀ (w : World) (b : Nat) (F : Nat → Prop) (n : Nst) (s : Nat × Option Nat) (p : Option (Int × Nat)) (t : Tok), InvN n s p → okW p t → t.fr ≤ 1000000 → t.to ≤ 1000000 → manyLe n 1000000 → n.op.length ≤ 4990 → Tab w → ¬ F 0 → (∀ j, F j → j < w.heap.size) → St w b F n →
    Calls Tryd.prog 13 #[.pointer (some ⟨b, 0, none⟩), .agg (tokCells t).toArray] w fun e w' => ∃ v, e = .returned (.tuple #[v, .int .i64 (takeN n t).2.2]) ∧ GRow evK w' w.heap.size v (takeN n t).2.1 ∧ Touch F w w' ∧ St w' b (fun j => F j ∨ w.heap.size ≤ j) (takeN n t).1
  depth : ∀ (w : World) (b : Nat) (F : Nat → Prop) (n : Nst), St w b F n → Calls Tryd.prog 51 #[.pointer (some ⟨b, 0, none⟩)] w fun e w' => e = .returned (.int .i64 n.op.length) ∧ Below w.heap.size w w'
  done : ∀ (w : World) (b : Nat) (F : Nat → Prop) (n : Nst), St w b F n → Calls Tryd.prog 15 #[.pointer (some ⟨b, 0, none⟩)] w fun e w' => e = .returned (.bool n.may.isNothing) ∧ Below w.heap.size w w'

end Go.Proofs.YthpkcapooeedeaaDoor

namespace Go.Proofs.YthpkcapooeedeaaDoor
open Go.RowKit
set_option linter.unusedVariables false

/-- The Builder goes along with what is open. -/
structure PB (n : Nst) (bl : Bld) : Prop where
  j : JN n
  cn : cnt n = bl.op.length
  rt : bl.root ≠ none → n.may.isNothing = true
  nt : n.may.isNothing = true → bl.root ≠ none
theorem PB.start (d : Int) : PB (newN d) ⟨[], none⟩ := ⟨⟨fun h => absurd rfl h, fun h => (by cases h), rfl⟩, rfl, fun h => absurd rfl h, fun h => (by cases h)⟩
theorem nothing_fault (n : Nst) (t : Tok) (hJ : JN n) (h : n.may.isNothing = true) : (takeN n t).2.2 ≠ 0 := by
  have hb : n.begun = 0 := by
    by_cases hb : n.begun = 0
    · exact hb
    · rcases hJ.beg hb with h1 | h1 <;> (cases hm : n.may <;> rw [hm] at h h1 <;> first | (cases h; done) | (cases h1; done))
  have e : takeN n t = takeO n t := by unfold takeN; rw [if_pos hb]
  rw [e]
  unfold takeO
  cases hm : n.may <;> rw [hm] at h <;> first | (cases h; done) | (show (9 : Int) ≠ 0; decide)
theorem PB.tok {n : Nst} {bl : Bld} (h : PB n bl) (t : Tok) (hk : t.begun = true → t.kind ≠ 0) (hf : (takeN n t).2.2 = 0) :
    PB (takeN n t).1 (bldA bl (takeN n t).2.1) ∧ bl.root = none ∧ ∀ e ∈ (takeN n t).2.1, e.kind = 1 ∨ e.kind = 2 := by
  have hn : n.may.isNothing = false := by
    cases hh : n.may.isNothing
    · rfl
    · exact absurd hf (nothing_fault n t h.j hh)
  have hr : bl.root = none := by
    cases hh : bl.root with
    | none => rfl
    | some u => have := h.rt (by rw [hh]; simp); rw [hn] at this; cases this
  have D := tok_does n t h.j hk hf
  obtain ⟨op, root⟩ := bl
  simp only at hr
  subst hr
  have hcn : cnt n = op.length := h.cn
  rcases D.evs with ⟨e1, e2, e3⟩ | ⟨v, s, e1, e2, e3, e4, e5⟩ | ⟨v, f, s, x, e1, e2, e3, e4⟩
  · rw [e1]
    exact ⟨⟨D.j, by rw [e2]; exact hcn, fun h => absurd rfl h, fun h => by rw [e3] at h; cases h⟩, rfl, fun e he => by cases he⟩
  · rw [e1]
    refine ⟨⟨D.j, ?_, fun h => absurd rfl h, fun h => by rw [e5] at h; cases h⟩, rfl, fun e he => ?_⟩
    · rw [e2, hcn]
      show op.length + 1 = (bldE ⟨op, none⟩ ⟨1, v, t.fr, 0, s, []⟩).op.length
      unfold bldE
      rw [if_pos rfl]
      rfl
    · obtain rfl : e = _ := by simpa using he
      exact .inl rfl
  · rw [e1]
    have hz : (⟨2, v, f, t.to, s, x⟩ : Evt).kind ≠ 1 := by show (2 : Int) ≠ 1; decide
    have cz : (takeN n t).1.may.isNothing = true → cnt (takeN n t).1 = 0 := fun hh => by
      unfold cnt
      rw [D.j.noth hh, e3]
      simp
    refine ⟨?_, rfl, fun e he => by obtain rfl : e = _ := by simpa using he
                                    exact .inr rfl⟩
    match op, hcn with
    | [], hcn => simp at hcn; omega
    | [(y, sy)], hcn =>
      have e : bldA ⟨[(y, sy)], none⟩ [⟨2, v, f, t.to, s, x⟩] = ⟨[], some (finT ⟨2, v, f, t.to, s, x⟩ y)⟩ := bldE_last y sy none _ hz
      rw [e]
      have hc0 : cnt (takeN n t).1 = 0 := by simp at hcn; omega
      have hop : (takeN n t).1.op = [] := List.eq_nil_of_length_eq_zero (by unfold cnt at hc0; omega)
      exact ⟨D.j, by rw [hc0]; rfl, fun _ => e4 hop, fun _ => by simp⟩
    | (y, sy) :: q :: r, hcn =>
      have hlen : (bldA ⟨(y, sy) :: q :: r, none⟩ [⟨2, v, f, t.to, s, x⟩]).op.length = r.length + 1 ∧ (bldA ⟨(y, sy) :: q :: r, none⟩ [⟨2, v, f, t.to, s, x⟩]).root = none := by
        obtain ⟨p, ps⟩ := q
        obtain ⟨k, g, o, z, i, m⟩ := y
        exact ⟨rfl, rfl⟩
      have hc1 : cnt (takeN n t).1 = r.length + 1 := by simp at hcn; omega
      exact ⟨D.j, by rw [hlen.1, hc1], fun h => absurd hlen.2 h, fun h => by have := cz h; omega⟩

/-- Whether anything came. -/
structure CI (n : Nst) : Prop where
  no : n.came = false → n.may = .value ∧ n.op = [] ∧ n.begun = 0
  yes : n.came = true → n.may = .value → n.op = [] → n.begun ≠ 0
  op : n.may ≠ .value → n.may.isNothing = false → n.may.isBad = false → n.op ≠ []
theorem CI.start (d : Int) : CI (newN d) := ⟨fun _ => ⟨rfl, rfl, rfl⟩, fun h => (by cases h), fun h => absurd rfl h⟩
theorem more_ne {l : List Opn} (h : l ≠ []) : moreO l ≠ [] := by cases l <;> first | exact absurd rfl h | simp [moreO]
theorem name_ne {s : List UInt8} {l : List Opn} (h : l ≠ []) : nameO s l ≠ [] := by cases l <;> first | exact absurd rfl h | simp [nameO]
theorem ended_CI (most : Nat) (op : List Opn) (may : May) (b : Int) : CI { endedN (⟨most, op, may, b, true⟩ : Nst) with begun := 0, came := true } := by
  cases op with
  | nil => exact ⟨fun h => (by cases h), fun _ h => (by cases h), fun _ h => (by cases h)⟩
  | cons o r => exact ⟨fun h => (by cases h), fun _ h => (by cases h), fun _ _ _ => by simp [endedN, moreO]⟩
theorem CI.tok {n : Nst} (h : CI n) (t : Tok) (hk : t.begun = true → t.kind ≠ 0) (hf : (takeN n t).2.2 = 0) : CI (takeN n t).1 := by
  obtain ⟨most, op, may, begun, came⟩ := n
  obtain ⟨kd, bg, fr, tt, tx⟩ := t
  obtain ⟨h1, h2, h3⟩ := h
  simp only at h1 h2 h3 hk
  unfold takeN at hf ⊢
  simp only at hf ⊢
  by_cases hb : begun = 0
  · rw [if_pos hb] at hf ⊢
    subst hb
    have cl : ∀ (o : Opn) (r : List Opn) (m : May), CI { endedN (⟨most, r, m, 0, came⟩ : Nst) with came := true } := fun o r m => by
      have := ended_CI most r m 0
      cases r <;> exact this
    cases may <;> cases op <;> cases bg <;> unfold takeO at hf ⊢ <;> simp only [] at hf ⊢ <;> revert hf <;> (repeat' split) <;> intro hf <;> first
      | (exact absurd hf (by show (8 : Int) ≠ 0; decide))
      | (exact absurd hf (by show (9 : Int) ≠ 0; decide))
      | (exact absurd hf (by show (12 : Int) ≠ 0; decide))
      | (exact absurd hf (by show (14 : Int) ≠ 0; decide))
      | exact cl ⟨false, 0, ⟨false, [], 0⟩, 0, []⟩ _ _
      | (refine absurd rfl (h3 ?_ rfl rfl); intro e; cases e; done)
      | (refine ⟨fun h => (by cases h), fun _ _ _ => ?_, fun _ _ _ => ?_⟩ <;> first
          | (exact hk rfl)
          | (show (8 : Int) ≠ 0; decide)
          | (exact List.cons_ne_nil _ _)
          | (rename_i hq; cases hq; done)
          | (simp_all; done))
  · rw [if_neg hb] at hf ⊢
    have hc : came = true := by
      cases came
      · exact absurd (h1 rfl).2.2 hb
      · rfl
    subst hc
    by_cases hn : may.nam = true
    · rw [if_pos hn]
      have hop : op ≠ [] := h3 (by intro e; subst e; cases hn) (by cases may <;> first | rfl | (cases hn; done)) (by cases may <;> first | rfl | (cases hn; done))
      exact ⟨fun h => (by cases h), fun _ h => (by cases h), fun _ _ _ => name_ne hop⟩
    · rw [if_neg hn]
      have := ended_CI most op may begun
      cases op <;> exact this

/-- Where the fault of some tokens is. -/
def faultAt (n : Nst) : List Tok → Nat
  | [] => 0
  | t :: ts => if (takeN n t).2.2 ≠ 0 then t.fr else faultAt (takeN n t).1 ts

end Go.Proofs.YthpkcapooeedeaaDoor

namespace Go.Proofs.YthpkcapooeedeaaDoor
open Go.RowKit
set_option linter.unusedVariables false

theorem bad_broken (m : May) : m.isBad = m.isBroken := by cases m <;> rfl
theorem code_zero (m : May) (z : Bool) : (codeM m z == 0) = true ↔ m = .value ∧ z = true := by cases m <;> cases z <;> simp [codeM]
theorem NIs.cells {w : World} {b : Nat} {F : Nat → Prop} {n : Nst} (h : NIs w b F n) (hx : n.may.isBroken = false) : w.cell? ⟨b, 1, none⟩ = some (.int .i64 (codeM n.may n.op.isEmpty)) ∧ w.cell? ⟨b, 2, none⟩ = some (.int .i64 n.begun) := by
  rcases h with ⟨h1, _⟩ | ⟨_, lo, _, _, h⟩
  · rw [hx] at h1; cases h1
  · exact ⟨h.c1, h.c2⟩
theorem close_nst {w : World} {b : Nat} {F : Nat → Prop} {n : Nst} (h : NIs w b F n) (hx : n.may.isBroken = false) (hc : CI n) :
    Calls Tryd.prog 19 #[.pointer (some ⟨b, 0, none⟩)] w fun e w' => e = .returned (.int .i64 (closeN n)) ∧ w = w' := by
  obtain ⟨c1, c2⟩ := h.cells hx
  have HD := Lib.hid (done_any b _ w c1)
  have g8 := code_eight n.may n.op.isEmpty hx
  have g7 := code_not n.may n.op.isEmpty
  have hb : n.may.isBad = false := by rw [bad_broken]; exact hx
  have g0 : (codeM n.may n.op.isEmpty == 0) = true ↔ n.may = .value ∧ n.op = [] := by rw [code_zero, List.isEmpty_iff]
  generalize hy : codeM n.may n.op.isEmpty = y at *
  clear h hy
  cases hn : n.may.isNothing with
  | true =>
    rw [hn] at g7
    rw [g7] at HD
    have e : closeN n = 1 := by unfold closeN; rw [hb, hn]; rfl
    rw [e]
    clear g0 hc hb hn e
    go_enter Tryd.func19, Tryd.ntmps19
    go_wp2_with (go_at_call 15; refine HD.out.mono ?_; rintro e w' ⟨rfl, rfl⟩)
    go_ret
    exact ⟨rfl, rfl⟩
  | false =>
    rw [hn] at g7
    rw [g7] at HD
    cases hcm : n.came with
    | false =>
      obtain ⟨h1, h2, h3⟩ := hc.no hcm
      have e : closeN n = 11 := by unfold closeN; rw [hb, hn, hcm]; rfl
      have e0 : (y == 0) = true := g0.2 ⟨h1, h2⟩
      have eb : (n.begun == 0) = true := by rw [h3]; rfl
      rw [e]
      clear g0 hc hb hn e h1 h2 h3 hcm
      go_enter Tryd.func19, Tryd.ntmps19
      go_wp2_with (go_at_call 15; refine HD.out.mono ?_; rintro e w' ⟨rfl, rfl⟩)
      go_ret
      exact ⟨rfl, rfl⟩
    | true =>
      have e : closeN n = 10 := by unfold closeN; rw [hb, hn, hcm]; rfl
      rw [e]
      cases e0 : (y == 0) with
      | true =>
        obtain ⟨h1, h2⟩ := g0.1 e0
        have eb : (n.begun == 0) = false := beq_eq_false_iff_ne.2 (hc.yes hcm h1 h2)
        clear g0 hc hb hn e h1 h2 hcm
        go_enter Tryd.func19, Tryd.ntmps19
        go_wp2_with (go_at_call 15; refine HD.out.mono ?_; rintro e w' ⟨rfl, rfl⟩)
        go_ret
        exact ⟨rfl, rfl⟩
      | false =>
        clear g0 hc hb hn e hcm
        go_enter Tryd.func19, Tryd.ntmps19
        go_wp2_with (go_at_call 15; refine HD.out.mono ?_; rintro e w' ⟨rfl, rfl⟩)
        go_ret
        exact ⟨rfl, rfl⟩

/-- What Part's closure keeps: the Nest, in its own variable, and the Builder. -/
structure Mach (w : World) (base nb mb nx : Nat) (FN FM : Nat → Prop) (n : Nst) (bl : Bld) : Prop where
  on : Own w nx 44 #[.pointer (some ⟨nb, 0, none⟩)]
  ns : NIs w nb FN n
  bs : BIs w mb FM bl
  apart : ∀ k, FN k → ¬ FM k
  bnd : ∀ k, FN k ∨ FM k → base ≤ k ∧ k < w.heap.size ∧ k ≠ nx
/-- Memory apart has changed. -/
theorem Mach.move {w w' : World} {base nb mb nx : Nat} {FN FM T : Nat → Prop} {n : Nst} {bl : Bld} (h : Mach w base nb mb nx FN FM n bl) (ht : Touch T w w') (h1 : ∀ k, FN k ∨ FM k → ¬ T k) (h2 : ¬ T nx) : Mach w' base nb mb nx FN FM n bl :=
  ⟨ht.own h.on h2, h.ns.move ht (fun k _ hk => h1 k (.inl hk)), h.bs.move ht (fun k _ hk => h1 k (.inr hk)), h.apart, fun k hk => by
    obtain ⟨a, b, c⟩ := h.bnd k hk
    exact ⟨a, Nat.lt_of_lt_of_le b ht.size, c⟩⟩
/-- The Nest has taken a token. -/
theorem Mach.nest {w w' : World} {base nb mb nx : Nat} {FN FM : Nat → Prop} {n n' : Nst} {bl : Bld} (h : Mach w base nb mb nx FN FM n bl) (hb : base ≤ w.heap.size) (ht : Touch FN w w') (hn : NIs w' nb (fun j => FN j ∨ w.heap.size ≤ j) n') :
    Mach w' base nb mb nx (fun j => (FN j ∨ w.heap.size ≤ j) ∧ j < w'.heap.size) FM n' bl := by
  have hx : ¬ FN nx := fun e => (h.bnd nx (.inl e)).2.2 rfl
  refine ⟨ht.own h.on hx, hn.mono (fun j hj h => ⟨h, hj⟩), h.bs.move ht (fun k _ hk hn => h.apart k hn hk), fun k hk hm => ?_, fun k hk => ?_⟩
  · rcases hk.1 with h1 | h1
    · exact h.apart k h1 hm
    · have := (h.bnd k (.inr hm)).2.1; omega
  · rcases hk with ⟨h1 | h1, h2⟩ | h1
    · obtain ⟨a, b, c⟩ := h.bnd k (.inl h1)
      exact ⟨a, h2, c⟩
    · exact ⟨by omega, h2, fun e => by have := h.on.inside; omega⟩
    · obtain ⟨a, b, c⟩ := h.bnd k (.inr h1)
      exact ⟨a, Nat.lt_of_lt_of_le b ht.size, c⟩
/-- The Builder has taken an event. -/
theorem Mach.made {w w' : World} {base nb mb nx : Nat} {FN FM : Nat → Prop} {n : Nst} {bl bl' : Bld} (h : Mach w base nb mb nx FN FM n bl) (hb : base ≤ w.heap.size) (ht : Touch FM w w') (hm : BIs w' mb (fun j => FM j ∨ w.heap.size ≤ j) bl') :
    Mach w' base nb mb nx FN (fun j => (FM j ∨ w.heap.size ≤ j) ∧ j < w'.heap.size) n bl' := by
  have hx : ¬ FM nx := fun e => (h.bnd nx (.inr e)).2.2 rfl
  refine ⟨ht.own h.on hx, h.ns.move ht (fun k _ hk hn => h.apart k hk hn), hm.cut, fun k hk hm => ?_, fun k hk => ?_⟩
  · rcases hm.1 with h1 | h1
    · exact h.apart k hk h1
    · have := (h.bnd k (.inl hk)).2.1; omega
  · rcases hk with h1 | ⟨h1 | h1, h2⟩
    · obtain ⟨a, b, c⟩ := h.bnd k (.inl h1)
      exact ⟨a, Nat.lt_of_lt_of_le b ht.size, c⟩
    · obtain ⟨a, b, c⟩ := h.bnd k (.inr h1)
      exact ⟨a, h2, c⟩
    · exact ⟨by omega, h2, fun e => by have := h.on.inside; omega⟩

/-- What holds between two tokens of one call. -/
structure AtPt (l : List UInt8) (W wr : World) (base nb mb nx : Nat) (n0 : Nst) (bl0 : Bld) (ts : List Tok) (sE : Nat × Option Nat) (pE : Option (Int × Nat)) (m0 z0 : Nat) (FN0 FM0 : Nat → Prop) (j : Nat) (n : Nst) (bl : Bld) (s : Nat × Option Nat) (p : Option (Int × Nat)) (es0 : List Evt) (FN FM : Nat → Prop) : Prop where
  le : j ≤ ts.length
  mach : Mach wr base nb mb nx FN FM n bl
  inv : InvN n s p
  sp : Spans l (ts.drop j) s sE
  wf : WfTo (ts.drop j) p pE
  pb : PB n bl
  ci : CI n
  many : manyLe n (m0 + j)
  most : n.most = n0.most
  size : szB bl ≤ z0 + j
  bl_ : bl = bldA bl0 es0
  all : takeAll n0 ts = ((takeAll n (ts.drop j)).1, es0 ++ (takeAll n (ts.drop j)).2.1, (takeAll n (ts.drop j)).2.2)
  flt : faultAt n0 ts = faultAt n (ts.drop j)
  out : ∀ k, FN k ∨ FM k → FN0 k ∨ FM0 k ∨ W.heap.size < k
  touch : Touch (fun k => FN0 k ∨ FM0 k) W wr
  res : Own wr W.heap.size 29 #[.int .i64 0, .int .i64 0]
def RelPt (l : List UInt8) (W : World) (base nb mb nx : Nat) (n0 : Nst) (bl0 : Bld) (ts : List Tok) (sE : Nat × Option Nat) (pE : Option (Int × Nat)) (m0 z0 : Nat) (FN0 FM0 : Nat → Prop) (vi : Value) (wr : World) : Prop :=
  ∃ (j : Nat) (n : Nst) (bl : Bld) (s : Nat × Option Nat) (p : Option (Int × Nat)) (es0 : List Evt) (FN FM : Nat → Prop), vi = .int .i64 j ∧ AtPt l W wr base nb mb nx n0 bl0 ts sE pE m0 z0 FN0 FM0 j n bl s p es0 FN FM
/-- How the closure ends. -/
def ClEnd (w : World) (base nb mb nx : Nat) (FN FM : Nat → Prop) (n : Nst) (bl : Bld) (ts : List Tok) (kind : Int) (k : Nat) (e : Ending) (w' : World) : Prop :=
  ∃ (kd : Int) (at_ : Nat) (FN' FM' : Nat → Prop), e = .returned (.agg #[.int .i64 kd, .int .i64 at_]) ∧ ((takeAll n ts).2.2 ≠ 0 → kd = (takeAll n ts).2.2 ∧ at_ = faultAt n ts) ∧ ((takeAll n ts).2.2 = 0 → kd = (if kind = 8 ∧ (takeAll n ts).1.may.isNothing = true then 9 else kind) ∧ at_ = k ∧ PB (takeAll n ts).1 (bldA bl (takeAll n ts).2.1) ∧ CI (takeAll n ts).1) ∧
    Mach w' base nb mb nx FN' FM' (takeAll n ts).1 (bldA bl (takeAll n ts).2.1) ∧ (∀ j, FN' j ∨ FM' j → FN j ∨ FM j ∨ w.heap.size ≤ j) ∧ Touch (fun k => FN k ∨ FM k) w w' ∧ szB (bldA bl (takeAll n ts).2.1) ≤ szB bl + ts.length

end Go.Proofs.YthpkcapooeedeaaDoor
