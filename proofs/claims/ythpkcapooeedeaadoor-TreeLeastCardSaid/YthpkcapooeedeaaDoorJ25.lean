/- Package tree: what a Builder stands for, whole. -/
import Derived.Test.YthpkcapooeedeaaDoorJ24
namespace Go.Proofs.YthpkcapooeedeaaDoor
open Go.RowKit
set_option linter.unusedVariables false

/-- Whose blocks are apart. -/
structure FootB (z b : Nat) (vo : Value) (S G F : Nat → Prop) (oA oB : Option Nat) : Prop where
  fb : F b
  fo : ∀ g, vo.ownBlock = some g → F g ∧ g ≠ b
  fS : ∀ k, S k → k < z ∧ F k ∧ k ≠ b ∧ vo.ownBlock ≠ some k
  fG : ∀ k, G k → k < z ∧ F k ∧ k ≠ b ∧ vo.ownBlock ≠ some k ∧ ¬ S k
  fA : ∀ k, oA = some k → F k ∧ k ≠ b ∧ vo.ownBlock ≠ some k
  fB : ∀ k, oB = some k → F k ∧ k ≠ b ∧ vo.ownBlock ≠ some k
theorem FootB.mono {z z' b : Nat} {vo : Value} {S G F H : Nat → Prop} {oA oB : Option Nat} (h : FootB z b vo S G F oA oB) (hz : z ≤ z') (hF : ∀ k, F k → H k) : FootB z' b vo S G H oA oB :=
  ⟨hF _ h.fb, fun g hg => ⟨hF _ (h.fo g hg).1, (h.fo g hg).2⟩, fun k hk => by obtain ⟨a, c, d⟩ := h.fS k hk; exact ⟨by omega, hF _ c, d⟩, fun k hk => by obtain ⟨a, c, d⟩ := h.fG k hk; exact ⟨by omega, hF _ c, d⟩,
   fun k hk => by obtain ⟨a, c⟩ := h.fA k hk; exact ⟨hF _ a, c⟩, fun k hk => by obtain ⟨a, c⟩ := h.fB k hk; exact ⟨hF _ a, c⟩⟩
abbrev oA (x : V6) : Option Nat := (Value.slice x.A x.n x.c).ownBlock
abbrev oB (x : V6) : Option Nat := (Value.slice x.B x.m x.d).ownBlock
/-- A value is open. -/
structure OpenB (w : World) (G S : Nat → Prop) (wb : Nat) (vo : Value) (t : Tree) (s : Stp) (r : List (Tree × Stp)) (x : V6) (xs : List V6) (p : Addr) (ps : List (Option Addr)) : Prop where
  ctx : CtxIs w G wb r s p x ps S
  top : TopIs w G S t x xs
  row : GRow ptrK w 0 vo (ps ++ [some p])
/-- A Builder. -/
def BIs (w : World) (b : Nat) (F : Nat → Prop) (bl : Bld) : Prop := ∃ (wp : Option Addr) (vo : Value), Own w b 41 #[.pointer wp, vo] ∧
  ((bl = ⟨[], none⟩ ∧ wp = none ∧ GRow ptrK w 0 vo [] ∧ FootB w.heap.size b vo (fun _ => False) (fun _ => False) F none none) ∨
   (∃ (t : Tree) (x : V6) (wb : Nat) (G : Nat → Prop), bl = ⟨[], some t⟩ ∧ wp = some ⟨wb, 0, none⟩ ∧ Own w wb 27 (v6Cells x).toArray ∧ VIsG w G t x ∧ GRow ptrK w 0 vo [] ∧ FootB w.heap.size b vo (fun k => k = wb) G F none none) ∨
   (∃ (t : Tree) (s : Stp) (r : List (Tree × Stp)) (x : V6) (xs : List V6) (p : Addr) (ps : List (Option Addr)) (S G : Nat → Prop) (wb : Nat), bl = ⟨(t, s) :: r, none⟩ ∧ wp = some ⟨wb, 0, none⟩ ∧ OpenB w G S wb vo t s r x xs p ps ∧ FootB w.heap.size b vo S G F (oA x) (oB x)))

section
variable {w w' : World} {b : Nat} {F H : Nat → Prop} {bl : Bld}
theorem TopIs.stay {G H S : Nat → Prop} {t : Tree} {x : V6} {xs : List V6} (h : TopIs w G S t x xs) (hG : ∀ k, G k → k < w.heap.size → w'.heap[k]? = w.heap[k]?) (hs : w.heap.size ≤ w'.heap.size) (hm : ∀ k, k < w.heap.size → G k → H k) (hA : ∀ k, oA x = some k → w'.heap[k]? = w.heap[k]? ∧ ¬ H k) (hB : ∀ k, oB x = some k → w'.heap[k]? = w.heap[k]? ∧ ¬ H k) : TopIs w' H S t x xs :=
  ⟨h.kd, h.fr, h.tt, h.tx, h.n, h.m, h.rowA.stay (fun k hk => (hA k hk).1), VLsG.stay hG hs hm _ _ h.items, h.rowB.stay (fun k hk => (hB k hk).1), fun k hk => ⟨(h.offA k hk).1, (hA k hk).2⟩, fun k hk => ⟨(h.offB k hk).1, (hB k hk).2, (h.offB k hk).2.2⟩⟩
theorem BIs.has (h : BIs w b F bl) : F b ∧ b < w.heap.size := by
  obtain ⟨wp, vo, ho, h⟩ := h
  refine ⟨?_, ho.inside⟩
  rcases h with ⟨_, _, _, h⟩ | ⟨_, _, _, _, _, _, _, _, _, h⟩ | ⟨_, _, _, _, _, _, _, _, _, _, _, _, _, h⟩ <;> exact h.fb
theorem BIs.mono (h : BIs w b F bl) (hF : ∀ k, F k → H k) : BIs w b H bl := by
  obtain ⟨wp, vo, ho, h⟩ := h
  refine ⟨wp, vo, ho, ?_⟩
  rcases h with ⟨h1, h2, h3, h⟩ | ⟨t, x, wb, G, h1, h2, h3, h4, h5, h⟩ | ⟨t, s, r, x, xs, p, ps, S, G, wb, h1, h2, h3, h⟩
  · exact .inl ⟨h1, h2, h3, h.mono (Nat.le_refl _) hF⟩
  · exact .inr (.inl ⟨t, x, wb, G, h1, h2, h3, h4, h5, h.mono (Nat.le_refl _) hF⟩)
  · exact .inr (.inr ⟨t, s, r, x, xs, p, ps, S, G, wb, h1, h2, h3, h.mono (Nat.le_refl _) hF⟩)
/-- F cut down to what is there. -/
theorem BIs.cut (h : BIs w b F bl) : BIs w b (fun k => F k ∧ k < w.heap.size) bl := by
  obtain ⟨wp, vo, ho, h⟩ := h
  refine ⟨wp, vo, ho, ?_⟩
  have hb := ho.inside
  rcases h with ⟨h1, h2, h3, h⟩ | ⟨t, x, wb, G, h1, h2, h3, h4, h5, h⟩ | ⟨t, s, r, x, xs, p, ps, S, G, wb, h1, h2, h3, h⟩
  · refine .inl ⟨h1, h2, h3, ⟨⟨h.fb, hb⟩, fun g hg => ⟨⟨(h.fo g hg).1, (h3.low hg).2⟩, (h.fo g hg).2⟩, fun k hk => hk.elim, fun k hk => hk.elim, (fun k hk => by cases hk), (fun k hk => by cases hk)⟩⟩
  · exact .inr (.inl ⟨t, x, wb, G, h1, h2, h3, h4, h5, ⟨⟨h.fb, hb⟩, fun g hg => ⟨⟨(h.fo g hg).1, (h5.low hg).2⟩, (h.fo g hg).2⟩, fun k hk => by obtain ⟨a, c, d⟩ := h.fS k hk; exact ⟨a, ⟨c, a⟩, d⟩, fun k hk => by obtain ⟨a, c, d⟩ := h.fG k hk; exact ⟨a, ⟨c, a⟩, d⟩, (fun k hk => by cases hk), (fun k hk => by cases hk)⟩⟩)
  · exact .inr (.inr ⟨t, s, r, x, xs, p, ps, S, G, wb, h1, h2, h3, ⟨⟨h.fb, hb⟩, fun g hg => ⟨⟨(h.fo g hg).1, (h3.row.low hg).2⟩, (h.fo g hg).2⟩, fun k hk => by obtain ⟨a, c, d⟩ := h.fS k hk; exact ⟨a, ⟨c, a⟩, d⟩, fun k hk => by obtain ⟨a, c, d⟩ := h.fG k hk; exact ⟨a, ⟨c, a⟩, d⟩,
      fun k hk => ⟨⟨(h.fA k hk).1, (h3.top.rowA.low hk).2⟩, (h.fA k hk).2⟩, fun k hk => ⟨⟨(h.fB k hk).1, (h3.top.rowB.low hk).2⟩, (h.fB k hk).2⟩⟩⟩)
theorem BIs.move {T : Nat → Prop} (h : BIs w b F bl) (ht : Touch T w w') (hd : ∀ k, k < w.heap.size → F k → ¬ T k) : BIs w' b F bl := by
  obtain ⟨wp, vo, ho, h⟩ := h
  have keep : ∀ k, k < w.heap.size → F k → w'.heap[k]? = w.heap[k]? := fun k hk hF => ht.block k hk (hd k hk hF)
  have hs := ht.size
  rcases h with ⟨h1, h2, h3, h⟩ | ⟨t, x, wb, G, h1, h2, h3, h4, h5, h⟩ | ⟨t, s, r, x, xs, p, ps, S, G, wb, h1, h2, h3, h⟩
  · refine ⟨wp, vo, (keep b ho.inside h.fb).trans ho, .inl ⟨h1, h2, h3.stay (fun k hk => keep k (h3.low hk).2 (h.fo k hk).1), h.mono hs (fun _ h => h)⟩⟩
  · refine ⟨wp, vo, (keep b ho.inside h.fb).trans ho, .inr (.inl ⟨t, x, wb, G, h1, h2, (keep wb h3.inside (h.fS wb rfl).2.1).trans h3, VIsG.stay (fun k hk hl => keep k hl (h.fG k hk).2.1) hs (fun _ _ h => h) _ _ h4, h5.stay (fun k hk => keep k (h5.low hk).2 (h.fo k hk).1), h.mono hs (fun _ h => h)⟩)⟩
  · refine ⟨wp, vo, (keep b ho.inside h.fb).trans ho, .inr (.inr ⟨t, s, r, x, xs, p, ps, S, G, wb, h1, h2, ⟨?_, ?_, ?_⟩, h.mono hs (fun _ h => h)⟩)⟩
    · exact CtxIs.stay (fun k hk hl => keep k hl (h.fG k hk).2.1) hs (fun _ _ h => h) _ _ _ _ _ _ h3.ctx (fun k hk hl => keep k hl (h.fS k hk).2.1)
    · exact h3.top.stay (fun k hk hl => keep k hl (h.fG k hk).2.1) hs (fun _ _ h => h) (fun k hk => ⟨keep k (h3.top.rowA.low hk).2 (h.fA k hk).1, (h3.top.offA k hk).2⟩) (fun k hk => ⟨keep k (h3.top.rowB.low hk).2 (h.fB k hk).1, (h3.top.offB k hk).2.1⟩)
    · exact h3.row.stay (fun k hk => keep k (h3.row.low hk).2 (h.fo k hk).1)
theorem BIs.start (w : World) : BIs (w.alloc (.cells #[.pointer none, .slice none 0 0] 41)) w.heap.size (fun k => k = w.heap.size) ⟨[], none⟩ :=
  ⟨none, .slice none 0 0, Own.fresh _ _ _, .inl ⟨rfl, rfl, GRow.nil _ _, rfl, (fun g hg => by cases hg), fun k hk => hk.elim, fun k hk => hk.elim, (fun k hk => by cases hk), (fun k hk => by cases hk)⟩⟩
end

/-- The value that has begun. -/
def begunX (k : Int) (f : Nat) : V6 := ⟨k, f, 0, [], none, 0, 0, none, 0, 0⟩
def begunT (k : Int) (f : Nat) : Tree := .mk k f 0 [] [] []
theorem top_begun (w : World) (G S : Nat → Prop) (k : Int) (f : Nat) : TopIs w G S (begunT k f) (begunX k f) [] :=
  ⟨rfl, rfl, rfl, rfl, rfl, rfl, GRow.nil _ _, (by show VLsG w G [] []; unfold VLsG; rfl), GRow.nil _ _, (fun g hg => by cases hg), (fun g hg => by cases hg)⟩

/-- The whole has begun. -/
theorem begin_first {w w' : World} {b wb : Nat} {F : Nat → Prop} {vo' : Value} {k : Int} {f : Nat} {s : Stp} (hb : Own w' b 41 #[.pointer (some ⟨wb, 0, none⟩), vo']) (hw : Own w' wb 27 (v6Cells (begunX k f)).toArray) (hr : GRow ptrK w' 0 vo' [some ⟨wb, 0, none⟩])
    (hF : F b ∧ F wb) (ho : ∀ g, vo'.ownBlock = some g → F g ∧ g ≠ b ∧ g ≠ wb) (hne : wb ≠ b) : BIs w' b F ⟨[(begunT k f, s)], none⟩ := by
  refine ⟨_, _, hb, .inr (.inr ⟨begunT k f, s, [], begunX k f, [], ⟨wb, 0, none⟩, [], fun j => j = wb, fun _ => False, wb, rfl, rfl, ⟨⟨rfl, hw, rfl, rfl⟩, top_begun _ _ _ _ _, hr⟩, ?_⟩)⟩
  refine ⟨hF.1, fun g hg => ⟨(ho g hg).1, (ho g hg).2.1⟩, fun j hj => ?_, fun j hj => hj.elim, (fun j hj => by cases hj), (fun j hj => by cases hj)⟩
  subst hj
  exact ⟨hw.inside, hF.2, hne, fun e => (ho _ e).2.2 rfl⟩

/-- A value begins within one that is open. -/
theorem begin_more {w w1 w' : World} {b wb g c m d : Nat} {F : Nat → Prop} {vo vo' : Value} {B : Option Addr} {k : Int} {f : Nat} {t : Tree} {s e : Stp} {r : List (Tree × Stp)} {x : V6} {xs : List V6} {p : Addr} {ps : List (Option Addr)} {S G : Nat → Prop} {pb po : Nat}
    (hbw : b < w.heap.size) (hO : OpenB w G S wb vo t s r x xs p ps) (hf : FootB w.heap.size b vo S G F (oA x) (oB x)) (hp : p = ⟨pb, po, none⟩) (hJ : Joined w w1 pb po x (begunX k f) xs t.names e g c B m d)
    (hb : Own w' b 41 #[.pointer (some ⟨wb, 0, none⟩), vo']) (hr : GRow ptrK w' 0 vo' (ps ++ [some p] ++ [some ⟨g, xs.length * 6, none⟩])) (hT : Touch (fun j => j = b ∨ vo.ownBlock = some j) w1 w') (ho : ∀ j, vo'.ownBlock = some j → vo.ownBlock = some j ∨ w1.heap.size ≤ j) :
    BIs w' b (fun j => F j ∨ w.heap.size ≤ j) ⟨(begunT k f, e) :: (t, s) :: r, none⟩ := by
  subst hp
  have z1 := hJ.touch.size
  have z2 := hT.size
  obtain ⟨pb', po', ep, hSp, hcells, _⟩ := hO.ctx.cells
  injection ep with ep1 ep2
  subst ep1 ep2
  have hgl := (hJ.rowA.low (g := g) rfl).2
  have hpw : pb < w.heap.size := (hf.fS pb hSp).1
  have gf : g ≠ b ∧ vo.ownBlock ≠ some g ∧ ¬ S g ∧ ¬ G g ∧ (F g ∨ w.heap.size ≤ g) := by
    rcases hJ.oA with h | h
    · have h1 := hf.fA g h
      have h2 := hO.top.offA g h
      exact ⟨h1.2.1, h1.2.2, h2.1, h2.2, .inl h1.1⟩
    · refine ⟨by omega, fun e => ?_, fun e => ?_, fun e => ?_, .inr h⟩
      · have := (hO.row.low e).2; omega
      · have := (hf.fS g e).1; omega
      · have := (hf.fG g e).1; omega
  have bf : ∀ h, (Value.slice B m d).ownBlock = some h → h ≠ b ∧ vo.ownBlock ≠ some h ∧ ¬ S h ∧ ¬ G h ∧ (F h ∨ w.heap.size ≤ h) ∧ h ≠ g ∧ h < w1.heap.size := by
    intro h hh
    obtain ⟨o1, o2, o3⟩ := hJ.oB h hh
    have hlt := (hJ.rowB.low hh).2
    rcases o1 with o1 | o1
    · have h1 := hf.fB h o1
      have h2 := hO.top.offB h o1
      exact ⟨h1.2.1, h1.2.2, h2.1, h2.2.1, .inl h1.1, o3, hlt⟩
    · refine ⟨by omega, fun e => ?_, fun e => ?_, fun e => ?_, .inr o1, o3, hlt⟩
      · have := (hO.row.low e).2; omega
      · have := (hf.fS h e).1; omega
      · have := (hf.fG h e).1; omega
  have last : ∀ k, k < w1.heap.size → k ≠ b → vo.ownBlock ≠ some k → w'.heap[k]? = w1.heap[k]? := fun k hk h1 h2 => hT.block k hk (fun e => e.elim h1 h2)
  have mid : ∀ k, k < w.heap.size → k ≠ pb → oA x ≠ some k → oB x ≠ some k → w1.heap[k]? = w.heap[k]? := fun k hk h1 h2 h3 => hJ.touch.block k hk (fun e => e.elim h1 (fun e => e.elim h2 h3))
  have keepG : ∀ k, G k → k < w.heap.size → w'.heap[k]? = w.heap[k]? := fun k hk hl => by
    obtain ⟨_, _, g3, g4, g5⟩ := hf.fG k hk
    rw [last k (by omega) g3 g4]
    exact mid k hl (fun e => g5 (e ▸ hSp)) (fun e => (hO.top.offA k e).2 hk) (fun e => (hO.top.offB k e).2.1 hk)
  have keepS : ∀ k, S k → k ≠ pb → w'.heap[k]? = w.heap[k]? := fun k hk hne => by
    obtain ⟨g2, _, g3, g4⟩ := hf.fS k hk
    rw [last k (by omega) g3 g4]
    exact mid k g2 hne (fun e => (hO.top.offA k e).1 hk) (fun e => (hO.top.offB k e).1 hk)
  have atp : w'.heap[pb]? = w1.heap[pb]? := by
    obtain ⟨g2, _, g3, g4⟩ := hf.fS pb hSp
    exact last pb (by omega) g3 g4
  have hSG : ∀ k, S k → ¬ G k := fun k hk hg => (hf.fG k hg).2.2.2.2 hk
  have hctx : CtxIs w' G wb r s ⟨pb, po, none⟩ ⟨x.kd, x.fr, x.to, x.tx, some ⟨g, 0, none⟩, xs.length + 1, c, B, m, d⟩ ps S := by
    have move : ∀ (w4 : World) (y : V6), CtxIs w4 G wb r s ⟨pb, po, none⟩ y ps S → w4.heap.size = w.heap.size → (∀ k, k ≠ pb → w4.heap[k]? = w.heap[k]?) → w1.heap[pb]? = w4.heap[pb]? → CtxIs w' G wb r s ⟨pb, po, none⟩ y ps S := fun w4 y h hz hk hp => by
      refine CtxIs.stay (fun k hg hl => ?_) (by omega) (fun _ _ h => h) _ _ _ _ _ _ h (fun k hs hl => ?_)
      · rw [keepG k hg (by omega), hk k (fun e => hSG k (e ▸ hSp) hg)]
      · by_cases e : k = pb
        · subst e; exact atp.trans hp
        · rw [keepS k hs e, hk k e]
    have h4 : CtxIs (w.setCell ⟨pb, po + 4, none⟩ (.slice (some ⟨g, 0, none⟩) (xs.length + 1) c)) G wb r s ⟨pb, po, none⟩ ⟨x.kd, x.fr, x.to, x.tx, some ⟨g, 0, none⟩, xs.length + 1, c, x.B, x.m, x.d⟩ ps S := CtxIs.put (x := x) (j := 4) hO.ctx hSG (by decide) rfl
    have n4 : ∀ k, k ≠ pb → (w.setCell ⟨pb, po + 4, none⟩ (.slice (some ⟨g, 0, none⟩) (xs.length + 1) c)).heap[k]? = w.heap[k]? := fun k hk => Below.heap_setCell _ _ _ _ hk
    have hh := hJ.hb
    cases hn : e.named with
    | true =>
      rw [hn, if_pos rfl] at hh
      refine move ((w.setCell ⟨pb, po + 4, none⟩ (.slice (some ⟨g, 0, none⟩) (xs.length + 1) c)).setCell ⟨pb, po + 5, none⟩ (.slice B m d)) _ ?_ (by rw [set_size, set_size]) (fun k hk => by rw [Below.heap_setCell _ _ _ _ (by exact hk)]; exact n4 k hk) hh
      exact CtxIs.put (j := 5) h4 hSG (by decide) rfl
    | false =>
      rw [hn, if_neg (by decide)] at hh
      obtain ⟨e1, e2, e3⟩ := hJ.old hn
      subst e1 e2 e3
      exact move _ _ h4 (by rw [set_size]) n4 hh
  refine ⟨_, _, hb, .inr (.inr ⟨begunT k f, e, (t, s) :: r, begunX k f, [], ⟨g, xs.length * 6, none⟩, ps ++ [some ⟨pb, po, none⟩], fun j => S j ∨ j = g ∨ (Value.slice B m d).ownBlock = some j, G, wb, rfl, rfl, ⟨?_, top_begun _ _ _ _ _, hr⟩, ?_⟩)⟩
  · refine ⟨⟨x.kd, x.fr, x.to, x.tx, some ⟨g, 0, none⟩, xs.length + 1, c, B, m, d⟩, xs, ⟨pb, po, none⟩, ps, S, g, hO.top.kd, hO.top.fr, hO.top.tt, hO.top.tx, rfl, rfl, rfl, ?_, ?_, ?_, ?_, hctx, rfl, fun _ h => .inl h, .inr (.inl rfl), gf.2.2.1, fun h hh => ⟨.inr (.inr hh), (bf h hh).2.2.1, (bf h hh).2.2.2.2.2.1⟩⟩
    · exact hJ.rowA.stay (fun k hk => by
        have hk := ownBlock_is hk
        subst hk
        exact last _ hgl gf.1 gf.2.1)
    · exact VLsG.stay (fun k hk hl => keepG k hk hl) (by omega) (fun _ _ h => h) _ _ hO.top.items
    · exact hJ.rowB.stay (fun k hk => last k (bf k hk).2.2.2.2.2.2 (bf k hk).1 (bf k hk).2.1)
    · exact hJ.rowB.cap.1.symm
  · have vf : ∀ j, vo'.ownBlock = some j → (F j ∨ w.heap.size ≤ j) ∧ j ≠ b := fun j hj => by
      rcases ho j hj with h | h
      · exact ⟨.inl (hf.fo j h).1, (hf.fo j h).2⟩
      · exact ⟨.inr (by omega), by omega⟩
    have vn : ∀ j, j < w1.heap.size → vo.ownBlock ≠ some j → vo'.ownBlock ≠ some j := fun j hj hn e => by
      rcases ho j e with h | h
      · exact hn h
      · omega
    refine ⟨.inl hf.fb, vf, fun j hj => ?_, fun j hj => ?_, (fun j hj => by cases hj), (fun j hj => by cases hj)⟩
    · rcases hj with hj | hj | hj
      · obtain ⟨a1, a2, a3, a4⟩ := hf.fS j hj
        exact ⟨by omega, .inl a2, a3, vn j (by omega) a4⟩
      · subst hj
        exact ⟨by omega, gf.2.2.2.2, gf.1, vn _ hgl gf.2.1⟩
      · have := bf j hj
        exact ⟨by omega, this.2.2.2.2.1, this.1, vn j this.2.2.2.2.2.2 this.2.1⟩
    · obtain ⟨a1, a2, a3, a4, a5⟩ := hf.fG j hj
      refine ⟨by omega, .inl a2, a3, vn j (by omega) a4, fun h => ?_⟩
      rcases h with h | h | h
      · exact a5 h
      · exact gf.2.2.2.1 (h ▸ hj)
      · exact (bf j h).2.2.2.1 hj

end Go.Proofs.YthpkcapooeedeaaDoor

namespace Go.Proofs.YthpkcapooeedeaaDoor
open Go.RowKit
set_option linter.unusedVariables false

theorem bldE_end (t : Tree) (s : Stp) (r : List (Tree × Stp)) (e : Evt) (h : e.kind ≠ 1) : bldE ⟨(t, s) :: r, none⟩ e = match r with
    | [] => ⟨[], some (.mk e.value t.fr e.to e.text t.items t.names)⟩
    | (u, s') :: r' => ⟨(addT (.mk e.value t.fr e.to e.text t.items t.names) s u, s') :: r', none⟩ := by
  obtain ⟨k1, f1, t1, x1, i1, n1⟩ := t
  unfold bldE
  rw [if_neg h]
  cases r with
  | nil => rfl
  | cons q r => rfl

/-- The cells of a value that has ended. -/
def endX (e : Evt) (x : V6) : V6 := ⟨e.value, x.fr, e.to, e.text, x.A, x.n, x.c, x.B, x.m, x.d⟩
theorem end_one {w w4 w' : World} {b wb : Nat} {F : Nat → Prop} {vo vo' : Value} {t : Tree} {s : Stp} {r : List (Tree × Stp)} {x : V6} {xs : List V6} {p : Addr} {ps : List (Option Addr)} {S G : Nat → Prop} {pb po : Nat} {e : Evt} (he : e.kind ≠ 1)
    (hbw : b < w.heap.size) (hO : OpenB w G S wb vo t s r x xs p ps) (hf : FootB w.heap.size b vo S G F (oA x) (oB x)) (hp : p = ⟨pb, po, none⟩) (h4 : CtxIs w4 G wb r s p (endX e x) ps S) (h4k : ∀ k, k < w.heap.size → k ≠ pb → w4.heap[k]? = w.heap[k]?) (h4s : w.heap.size ≤ w4.heap.size)
    (hb : Own w' b 41 #[.pointer (some ⟨wb, 0, none⟩), vo']) (hr : GRow ptrK w' 0 vo' ps) (hT : Touch (fun j => j = b ∨ vo.ownBlock = some j) w4 w') (ho : ∀ j, vo'.ownBlock = some j → vo.ownBlock = some j) :
    BIs w' b (fun j => F j ∨ w.heap.size ≤ j) (bldE ⟨(t, s) :: r, none⟩ e) := by
  subst hp
  have z2 := hT.size
  obtain ⟨pb', po', ep, hSp, hcells, _⟩ := hO.ctx.cells
  injection ep with ep1 ep2
  subst ep1 ep2
  have last : ∀ k, k < w4.heap.size → k ≠ b → vo.ownBlock ≠ some k → w'.heap[k]? = w4.heap[k]? := fun k hk h1 h2 => hT.block k hk (fun e => e.elim h1 h2)
  have keepG : ∀ k, G k → k < w.heap.size → w'.heap[k]? = w.heap[k]? := fun k hk hl => by
    obtain ⟨_, _, g3, g4, g5⟩ := hf.fG k hk
    rw [last k (by omega) g3 g4]
    exact h4k k hl (fun e => g5 (e ▸ hSp))
  have keepS : ∀ k, S k → w'.heap[k]? = w4.heap[k]? := fun k hk => by
    obtain ⟨g2, _, g3, g4⟩ := hf.fS k hk
    exact last k (by omega) g3 g4
  have keepA : ∀ k, oA x = some k → w'.heap[k]? = w.heap[k]? := fun k hk => by
    obtain ⟨_, g3, g4⟩ := hf.fA k hk
    have hl := (hO.top.rowA.low hk).2
    rw [last k (by omega) g3 g4]
    exact h4k k hl (fun e => (hO.top.offA k hk).1 (e ▸ hSp))
  have keepB : ∀ k, oB x = some k → w'.heap[k]? = w.heap[k]? := fun k hk => by
    obtain ⟨_, g3, g4⟩ := hf.fB k hk
    have hl := (hO.top.rowB.low hk).2
    rw [last k (by omega) g3 g4]
    exact h4k k hl (fun e => (hO.top.offB k hk).1 (e ▸ hSp))
  have keepG4 : ∀ k, G k → k < w4.heap.size → w'.heap[k]? = w4.heap[k]? := fun k hk hl => by
    obtain ⟨_, _, g3, g4, g5⟩ := hf.fG k hk
    exact last k hl g3 g4
  have hsz : w.heap.size ≤ w'.heap.size := by omega
  -- the value that has ended
  have hG' : ∀ k, (G k ∨ oA x = some k ∨ oB x = some k) → k < w'.heap.size ∧ F k ∧ k ≠ b ∧ vo'.ownBlock ≠ some k ∧ ¬ S k := by
    intro k hk
    rcases hk with hk | hk | hk
    · obtain ⟨g1, g2, g3, g4, g5⟩ := hf.fG k hk
      exact ⟨by omega, g2, g3, fun e => g4 (ho k e), g5⟩
    · obtain ⟨g1, g3, g4⟩ := hf.fA k hk
      exact ⟨by have := (hO.top.rowA.low hk).2; omega, g1, g3, fun e => g4 (ho k e), (hO.top.offA k hk).1⟩
    · obtain ⟨g1, g3, g4⟩ := hf.fB k hk
      exact ⟨by have := (hO.top.rowB.low hk).2; omega, g1, g3, fun e => g4 (ho k e), (hO.top.offB k hk).1⟩
  have hv : VIsG w' (fun k => G k ∨ oA x = some k ∨ oB x = some k) (.mk e.value t.fr e.to e.text t.items t.names) (endX e x) := by
    unfold VIsG
    refine ⟨rfl, hO.top.fr, rfl, rfl, hO.top.rowA.cap.2, hO.top.rowB.cap.2, ?_, xs, ?_, ?_⟩
    · exact RdH.of_row (v := .slice none 0 0) (c := x.d) (hO.top.rowB.stay (fun k hk => keepB k hk)) hO.top.m.symm (fun k hk => .inr (.inr hk))
    · exact RdH.of_row (v := .slice none 0 0) (c := x.c) (hO.top.rowA.stay (fun k hk => keepA k hk)) hO.top.n.symm (fun k hk => .inr (.inl hk))
    · exact VLsG.stay (fun k hk hl => keepG k hk hl) hsz (fun k _ h => .inl h) _ _ hO.top.items
  rw [bldE_end t s r e he]
  cases r with
  | nil =>
    obtain ⟨c1, c2, c3, c4⟩ := h4
    have hwb : wb = pb := by injection c1 with e1 _; exact e1.symm
    refine ⟨_, _, hb, .inr (.inl ⟨_, endX e x, wb, _, rfl, rfl, (keepS wb c4).trans c2, hv, by rw [c3] at hr; exact hr, ?_⟩)⟩
    refine ⟨.inl hf.fb, fun g hg => ⟨.inl (hf.fo g (ho g hg)).1, (hf.fo g (ho g hg)).2⟩, fun k hk => ?_, fun k hk => ?_, (fun k hk => by cases hk), (fun k hk => by cases hk)⟩
    · subst hk
      obtain ⟨a1, a2, a3, a4⟩ := hf.fS k c4
      exact ⟨by omega, .inl a2, a3, fun e => a4 (ho k e)⟩
    · obtain ⟨a1, a2, a3, a4, a5⟩ := hG' k hk
      exact ⟨a1, .inl a2, a3, a4, fun e => a5 (e ▸ c4)⟩
  | cons q r =>
    obtain ⟨u, s'⟩ := q
    have h4' := CtxIs.stay (w' := w') (H := fun k => G k ∨ oA x = some k ∨ oB x = some k) keepG4 (by omega) (fun k _ h => .inl h) _ _ _ _ _ _ h4 (fun k hk _ => keepS k hk)
    obtain ⟨X, ys, P, ps', S', g, a1, a2, a3, a4, a5, a6, a7, a8, a9, a10, am, a11, a12, a13, a14, a15, a17⟩ := h4'
    obtain ⟨k1, k2, k3, k4, k5, k6⟩ := addT_kd (.mk e.value t.fr e.to e.text t.items t.names) s u
    refine ⟨_, _, hb, .inr (.inr ⟨_, s', r, X, ys ++ [endX e x], P, ps', S', _, wb, rfl, rfl, ⟨a11, ⟨by rw [k1, a1], by rw [k2, a2], by rw [k3, a3], by rw [k4, a4], by rw [a7]; simp, by rw [k6, am], a8, ?_, by rw [k6]; exact a10, ?_, ?_⟩, by rw [← a12]; exact hr⟩, ?_⟩)⟩
    · rw [k5]
      exact VLsG.snoc a9 hv
    · intro k hk
      rw [a5] at hk
      have hk := ownBlock_is hk
      subst hk
      exact ⟨a15, fun h => (hG' _ h).2.2.2.2 a14⟩
    · intro k hk
      obtain ⟨b1, b2, b3⟩ := a17 k hk
      exact ⟨b2, fun h => (hG' k h).2.2.2.2 b1, fun e => by rw [a5] at e; exact b3 (ownBlock_is e)⟩
    · refine ⟨.inl hf.fb, fun g hg => ⟨.inl (hf.fo g (ho g hg)).1, (hf.fo g (ho g hg)).2⟩, fun k hk => ?_, fun k hk => ?_, fun k hk => ?_, fun k hk => ?_⟩
      · obtain ⟨c1, c2, c3, c4⟩ := hf.fS k (a13 k hk)
        exact ⟨by omega, .inl c2, c3, fun e => c4 (ho k e)⟩
      · obtain ⟨c1, c2, c3, c4, c5⟩ := hG' k hk
        exact ⟨c1, .inl c2, c3, c4, fun e => c5 (a13 k e)⟩
      · have hk' : (Value.slice X.A X.n X.c).ownBlock = some k := hk
        rw [a5] at hk'
        have hk' := ownBlock_is hk'
        subst hk'
        obtain ⟨c1, c2, c3, c4⟩ := hf.fS _ a14
        exact ⟨.inl c2, c3, fun e => c4 (ho _ e)⟩
      · obtain ⟨b1, b2, b3⟩ := a17 k hk
        obtain ⟨c1, c2, c3, c4⟩ := hf.fS k b1
        exact ⟨.inl c2, c3, fun e => c4 (ho k e)⟩

end Go.Proofs.YthpkcapooeedeaaDoor

namespace Go.Proofs.YthpkcapooeedeaaDoor
open Go.RowKit
set_option linter.unusedVariables false

/-- The whole's place, appended. -/
theorem first_one {w w1 w2 w3 wd w9 : World} {b : Nat} {F : Nat → Prop} {vo : Value} {k : Int} {f : Nat} {s : Stp} {T1 : TypeId} {c1 : Array Value} {A9 : Option Addr} {m9 c9 : Nat} (hbw : b < w.heap.size) (hown : Own w b 41 #[.pointer none, vo]) (hrow : GRow ptrK w 0 vo []) (hf : FootB w.heap.size b vo (fun _ => False) (fun _ => False) F none none)
    (e1 : w1 = w.alloc (.cells c1 T1)) (e2 : w2 = w1.alloc (.cells (v6Cells (begunX k f)).toArray 27)) (e3 : w3 = w2.setCell ⟨b, 0, none⟩ (.pointer (some ⟨w.heap.size + 1, 0, none⟩))) (hd : Below w3.heap.size w3 wd) (hr : GRow ptrK w9 0 (.slice A9 m9 c9) ([] ++ [some ⟨w.heap.size + 1, 0, none⟩])) (hg : wd.grownBy w9 vo.ownBlock)
    (ha : (Value.slice A9 m9 c9).ownBlock = vo.ownBlock ∨ (Value.slice A9 m9 c9).ownBlock = some wd.heap.size) :
    w9.cell? ⟨b, 1, none⟩ = some vo ∧ w9.frozen? ⟨b, 1, none⟩ = false ∧ BIs (w9.setCell ⟨b, 1, none⟩ (.slice A9 m9 c9)) b (fun j => F j ∨ w.heap.size ≤ j) ⟨[(begunT k f, s)], none⟩ ∧ Touch F w (w9.setCell ⟨b, 1, none⟩ (.slice A9 m9 c9)) := by
  have s1 : w1.heap.size = w.heap.size + 1 := by subst e1; simp
  have s2 : w2.heap.size = w.heap.size + 2 := by subst e2; simp [s1]
  have s3 : w3.heap.size = w.heap.size + 2 := by rw [e3, set_size, s2]
  have zd := hd.size
  have z9 := hg.size
  have hvb : vo.ownBlock ≠ some b := fun e => (hf.fo b e).2 rfl
  have hvl : ∀ g, vo.ownBlock = some g → g < w.heap.size := fun g hg => (hrow.low hg).2
  have hB2 : Below w.heap.size w w2 := by subst e2 e1; exact below2 _ _ _
  have old : ∀ j, j < w3.heap.size → vo.ownBlock ≠ some j → w9.heap[j]? = w3.heap[j]? := fun j hj hn => (hg.block j (by omega) (fun e => hn e.symm)).trans (hd.block j hj)
  have o3 : Own w3 b 41 #[.pointer (some ⟨w.heap.size + 1, 0, none⟩), vo] := by
    rw [e3]
    have := (hown.stay hB2 hbw).put 0 (.pointer (some ⟨w.heap.size + 1, 0, none⟩))
    simpa using this
  have o9 : Own w9 b 41 #[.pointer (some ⟨w.heap.size + 1, 0, none⟩), vo] := (old b (by omega) hvb).trans o3
  have g3 : Own w3 (w.heap.size + 1) 27 (v6Cells (begunX k f)).toArray := by
    have h : Own w2 w1.heap.size 27 (v6Cells (begunX k f)).toArray := by subst e2; exact Own.fresh _ _ _
    rw [s1] at h
    rw [e3]
    exact Own.past h (p := ⟨b, 0, none⟩) (by show w.heap.size + 1 ≠ b; omega) _
  have hown9 : ∀ g, (Value.slice A9 m9 c9).ownBlock = some g → (F g ∨ w.heap.size ≤ g) ∧ g ≠ b ∧ g ≠ w.heap.size + 1 := fun g hg => by
    rcases ha with e | e
    · have e := e.symm.trans hg
      have := hvl g e
      exact ⟨.inl (hf.fo g e).1, (hf.fo g e).2, by omega⟩
    · rw [e] at hg
      injection hg with hg
      exact ⟨.inr (by omega), by omega, by omega⟩
  have g9 : Own w9 (w.heap.size + 1) 27 (v6Cells (begunX k f)).toArray := (old _ (by omega) (fun e => by have := hvl _ e; omega)).trans g3
  refine ⟨by have := o9.at 1; simpa using this, o9.free 1, ?_, ?_⟩
  · refine begin_first (w := w) (wb := w.heap.size + 1) (vo' := .slice A9 m9 c9) ?_ ?_ ?_ ⟨.inl hf.fb, .inr (by omega)⟩ hown9 (by omega)
    · have := o9.put 1 (.slice A9 m9 c9)
      simpa using this
    · exact Own.past g9 (p := ⟨b, 1, none⟩) (by show w.heap.size + 1 ≠ b; omega) _
    · rw [List.nil_append] at hr
      exact hr.stay (fun g hg => Below.heap_setCell _ _ _ _ (hown9 g hg).2.1)
  · refine Touch.setCell ?_ (p := ⟨b, 1, none⟩) (.inl hf.fb) _
    have t3 : Touch F w w3 := by rw [e3]; exact (Touch.of_new hB2).setCell (p := ⟨b, 0, none⟩) (.inl hf.fb) _
    refine ⟨hg.os.trans (hd.os.trans t3.os), hg.tape.trans (hd.tape.trans t3.tape), hg.output.trans (hd.output.trans t3.output), by omega, fun j hj hn => ?_⟩
    rw [old j (by omega) (fun e => hn (hf.fo j e).1)]
    exact t3.block j hj hn

set_option maxRecDepth 100000 in
set_option maxHeartbeats 4000000 in
theorem begin_walk1 {w : World} {b : Nat} {F : Nat → Prop} (h : BIs w b F ⟨[], none⟩) (e : Evt) :
    Calls Tryd.prog 23 #[.pointer (some ⟨b, 0, none⟩), .agg (evCells e).toArray] w fun e' w' => e' = .returned (.tuple #[]) ∧ BIs w' b (fun j => F j ∨ w.heap.size ≤ j) ⟨[(begunT e.value e.fr, e.step)], none⟩ ∧ Touch F w w' := by
  obtain ⟨wp, vo, hown, h⟩ := h
  obtain ⟨hwp, hrow, hf⟩ : wp = none ∧ GRow ptrK w 0 vo [] ∧ FootB w.heap.size b vo (fun _ => False) (fun _ => False) F none none := by
    rcases h with ⟨_, h2, h3, h4⟩ | ⟨_, _, _, _, h1, _⟩ | ⟨_, _, _, _, _, _, _, _, _, _, h1, _⟩
    · exact ⟨h2, h3, h4⟩
    · cases h1
    · cases h1
  subst hwp
  clear h
  have hbw := hown.inside
  obtain ⟨ek, ev, ef, et, ⟨nm, sn, si⟩, tx⟩ := e
  obtain ⟨w1, hw1⟩ : ∃ w1, w1 = w.alloc (.cells #[.int .i64 ek, .int .i64 ev, .int .i64 ef, .int .i64 et, .bool nm, .string ⟨sn.toArray⟩, .int .i64 si, .string ⟨tx.toArray⟩] 55) := ⟨_, rfl⟩
  obtain ⟨w2, hw2⟩ : ∃ w2, w2 = w1.alloc (.cells #[.int .i64 ev, .int .i64 ef, .int .i64 0, .string ⟨#[]⟩, .slice none 0 0, .slice none 0 0] 27) := ⟨_, rfl⟩
  have s1 : w1.heap.size = w.heap.size + 1 := by subst hw1; simp
  have s2 : w2.heap.size = w.heap.size + 2 := by subst hw2; simp [s1]
  have hB2 : Below w.heap.size w w2 := by subst hw2 hw1; exact below2 _ _ _
  have o2 := hown.stay hB2 hbw
  have c0 := o2.at 0
  have c1 := o2.at 1
  have f0 := o2.free 0
  have f1 := o2.free 1
  simp at c0 c1
  obtain ⟨w3, hw3⟩ : ∃ w3, w3 = w2.setCell ⟨b, 0, none⟩ (.pointer (some ⟨w.heap.size + 1, 0, none⟩)) := ⟨_, rfl⟩
  have o3 := o2.put 0 (.pointer (some ⟨w.heap.size + 1, 0, none⟩))
  rw [← hw3] at o3
  have d0 := o3.at 0
  have d1 := o3.at 1
  have g1 := o3.free 1
  simp at d0 d1
  have s3 : w3.heap.size = w.heap.size + 2 := by rw [hw3, set_size, s2]
  have hbZ : Below w3.heap.size w3 (w3.drew.alloc (.cells #[.pointer (some ⟨w.heap.size + 1, 0, none⟩)] 38)) := ((Below.refl _ _).drew).alloc (Nat.le_refl _) _
  have b1 : (w3.alloc (.cells #[.pointer (some ⟨w.heap.size + 1, 0, none⟩)] 38)).cell? ⟨b, 1, none⟩ = some vo := (((Below.refl w3.heap.size w3).alloc (Nat.le_refl _) _).cell (p := ⟨b, 1, none⟩) (show b < w3.heap.size by omega)).trans d1
  have hrow3 : GRow ptrK w3 0 vo [] := hrow.stay (fun k hk => by
    rw [hw3, Below.heap_setCell _ _ _ _ (by exact (hf.fo k hk).2)]
    exact hB2.block k (hrow.low hk).2)
  have ROW := Lib.hid (hrow3.stay (fun k hk => hbZ.block k (hrow3.low hk).2))
  have NEW := Lib.hid (show RdG ptrK (w3.drew.alloc (.cells #[.pointer (some ⟨w.heap.size + 1, 0, none⟩)] 38)) (some ⟨w3.heap.size, 0, none⟩) 1 [some ⟨w.heap.size + 1, 0, none⟩] from (GRow.made (K := ptrK) (base := 0) (l := [some ⟨w.heap.size + 1, 0, none⟩]) w3.drew #[.pointer (some ⟨w.heap.size + 1, 0, none⟩)] rfl (by simp [maxLen]) (Nat.zero_le _)).rd)
  have HZ := Lib.hid hbZ
  have HW1 := Lib.hid hw1
  have HW2 := Lib.hid hw2
  have HW3 := Lib.hid hw3
  have HOWN := Lib.hid hown
  have HROW := Lib.hid hrow
  have HF := Lib.hid hf
  have HBW := Lib.hid hbw
  obtain ⟨A0, k0, hvo, _⟩ := hrow.form
  show Calls _ _ #[.pointer (some ⟨b, 0, none⟩), .agg #[.int .i64 ek, .int .i64 ev, .int .i64 ef, .int .i64 et, .bool nm, .string ⟨sn.toArray⟩, .int .i64 si, .string ⟨tx.toArray⟩]] _ _
  clear hown hrow hf hB2 o2 o3 s1 s2 s3 hbZ hrow3 hw1 hw2 hw3 hbw
  subst hvo
  go_enter Tryd.func23, Tryd.ntmps23
  go_upto_region 2 with fail
  generalize hw : World.alloc (World.alloc w _) _ = w2'
  have e2 : w2 = w2' := by rw [HW2.out, HW1.out]; exact hw
  subst e2
  clear hw
  go_upto_region 4 with fail
  rw [← HW3.out]
  go_region_law (
    (refine step_row_app (KK := ptrK) rfl (.tmp 23) (.tmp 28) rfl 0 _ [] rfl ROW.out _ 1 1 [some ⟨w.heap.size + 1, 0, none⟩] rfl NEW.out (by simp) (Nat.zero_le _) ?_
     intro v9 w9 row9 grown9 at9
     obtain ⟨A9, c9, rfl, _⟩ := row9.form
     obtain ⟨q1, q2, BI, TO⟩ := first_one (s := ⟨nm, sn, si⟩) (k := ev) (f := ef) HBW.out HOWN.out HROW.out HF.out HW1.out HW2.out HW3.out HZ.out row9 grown9 at9
     have B1 := Lib.hid BI
     have T1 := Lib.hid TO
     clear row9 grown9 at9 BI TO))
  all_goals
    go_wp2
    go_end0
    exact ⟨rfl, B1.out, T1.out⟩

end Go.Proofs.YthpkcapooeedeaaDoor
