/- Package tree: the walk of addItem. -/
import Derived.Test.YthpkcapooeedeaaDoorJ23
namespace Go.Proofs.YthpkcapooeedeaaDoor
open Go.RowKit
set_option linter.unusedVariables false

/-- What addItem leaves. -/
structure Joined (w w' : World) (b o : Nat) (x y : V6) (xs : List V6) (ns : List (List UInt8)) (s : Stp) (g c : Nat) (B : Option Addr) (m d : Nat) : Prop where
  rowA : GRow valK w' 0 (.slice (some ⟨g, 0, none⟩) (xs.length + 1) c) (xs ++ [y])
  rowB : GRow namK w' 0 (.slice B m d) (if s.named then ns ++ [s.name] else ns)
  oA : (Value.slice x.A x.n x.c).ownBlock = some g ∨ w.heap.size ≤ g
  oB : ∀ h, (Value.slice B m d).ownBlock = some h → ((Value.slice x.B x.m x.d).ownBlock = some h ∨ w.heap.size ≤ h) ∧ h ≠ b ∧ h ≠ g
  gb : g ≠ b
  hb : w'.heap[b]? = if s.named then ((w.setCell ⟨b, o + 4, none⟩ (.slice (some ⟨g, 0, none⟩) (xs.length + 1) c)).setCell ⟨b, o + 5, none⟩ (.slice B m d)).heap[b]? else (w.setCell ⟨b, o + 4, none⟩ (.slice (some ⟨g, 0, none⟩) (xs.length + 1) c)).heap[b]?
  old : s.named = false → B = x.B ∧ m = x.m ∧ d = x.d
  touch : Touch (fun k => k = b ∨ (Value.slice x.A x.n x.c).ownBlock = some k ∨ (Value.slice x.B x.m x.d).ownBlock = some k) w w'

/-- A name added, too. -/
theorem joined_one {w wc wd w9 : World} {b o : Nat} {x y : V6} {xs : List V6} {ns : List (List UInt8)} {s : Stp} {g c : Nat} {A9 : Option Addr} {m9 c9 : Nat} (hs : s.named = true) (hbl : b < w.heap.size) (hrow : GRow valK wc 0 (.slice (some ⟨g, 0, none⟩) (xs.length + 1) c) (xs ++ [y])) (hor : (Value.slice x.A x.n x.c).ownBlock = some g ∨ w.heap.size ≤ g) (hgb : g ≠ b)
    (hb : wc.heap[b]? = (w.setCell ⟨b, o + 4, none⟩ (.slice (some ⟨g, 0, none⟩) (xs.length + 1) c)).heap[b]?) (ht : Touch (fun k => k = b ∨ (Value.slice x.A x.n x.c).ownBlock = some k) w wc)
    (hoB : ∀ g, (Value.slice x.B x.m x.d).ownBlock = some g → (g ≠ b ∧ (Value.slice x.A x.n x.c).ownBlock ≠ some g) ∧ g < w.heap.size) (hd : Below wc.heap.size wc wd) (hr : GRow namK w9 0 (.slice A9 m9 c9) (ns ++ [s.name])) (hg : wd.grownBy w9 (Value.slice x.B x.m x.d).ownBlock)
    (ha : (Value.slice A9 m9 c9).ownBlock = (Value.slice x.B x.m x.d).ownBlock ∨ (Value.slice A9 m9 c9).ownBlock = some wd.heap.size) : Joined w (w9.setCell ⟨b, o + 5, none⟩ (.slice A9 m9 c9)) b o x y xs ns s g c A9 m9 c9 := by
  have zc := ht.size
  have zd := hd.size
  have z9 := hg.size
  have hgl := (hrow.low (g := g) rfl).2
  have hBg : ∀ h, (Value.slice x.B x.m x.d).ownBlock = some h → h ≠ g := fun h hh e => by
    subst e
    obtain ⟨⟨_, h2⟩, h3⟩ := hoB _ hh
    rcases hor with e | e
    · exact h2 e
    · omega
  have old : ∀ k, k < wc.heap.size → (Value.slice x.B x.m x.d).ownBlock ≠ some k → w9.heap[k]? = wc.heap[k]? := fun k hk hn => (hg.block k (by omega) (fun e => hn e.symm)).trans (hd.block k hk)
  have h9b : w9.heap[b]? = wc.heap[b]? := old b (by omega) (fun e => (hoB b e).1.1 rfl)
  have own9 : ∀ h, (Value.slice A9 m9 c9).ownBlock = some h → ((Value.slice x.B x.m x.d).ownBlock = some h ∨ w.heap.size ≤ h) ∧ h ≠ b ∧ h ≠ g := fun h hh => by
    rcases ha with e | e
    · have e := e.symm.trans hh
      exact ⟨.inl e, (hoB h e).1.1, hBg h e⟩
    · rw [e] at hh
      injection hh with hh
      exact ⟨.inr (by omega), by omega, by omega⟩
  refine ⟨?_, ?_, hor, own9, hgb, ?_, fun h => (by rw [hs] at h; cases h), ?_⟩
  · refine hrow.stay (fun k hk => ?_)
    have hk := ownBlock_is hk
    subst hk
    rw [Below.heap_setCell _ _ _ _ (by exact hgb)]
    exact old _ hgl (fun e => hBg _ e rfl)
  · rw [hs]
    exact hr.stay (fun k hk => Below.heap_setCell _ _ _ _ (own9 k hk).2.1)
  · rw [if_pos hs]
    show (w9.heap.modify _ _)[b]? = ((w.setCell ⟨b, o + 4, none⟩ (.slice (some ⟨g, 0, none⟩) (xs.length + 1) c)).heap.modify _ _)[b]?
    rw [Array.getElem?_modify, Array.getElem?_modify, h9b, hb]
  · refine Touch.setCell ?_ (p := ⟨b, o + 5, none⟩) (.inl (.inl rfl)) _
    refine ⟨hg.os.trans (hd.os.trans ht.os), hg.tape.trans (hd.tape.trans ht.tape), hg.output.trans (hd.output.trans ht.output), by omega, fun k hk hn => ?_⟩
    rw [old k (by omega) (fun e => hn (.inr (.inr e)))]
    exact ht.block k hk (fun e => hn (e.elim .inl (fun e => .inr (.inl e))))

set_option maxRecDepth 100000 in
set_option maxHeartbeats 4000000 in
theorem addItem_any (w : World) (b o : Nat) (x y : V6) (xs : List V6) (ns : List (List UInt8)) (s : Stp) (hx : CellsAt w ⟨b, o, none⟩ x) (hf : ∀ i, w.frozen? ⟨b, i, none⟩ = false) (hrA : GRow valK w 0 (.slice x.A x.n x.c) xs) (hrB : GRow namK w 0 (.slice x.B x.m x.d) ns)
    (hoA : ∀ g, (Value.slice x.A x.n x.c).ownBlock = some g → g ≠ b) (hoB : ∀ g, (Value.slice x.B x.m x.d).ownBlock = some g → g ≠ b ∧ (Value.slice x.A x.n x.c).ownBlock ≠ some g) (h9 : xs.length ≤ 100000) (h8 : ns.length ≤ 100000) :
    Calls Tryd.prog 38 #[.pointer (some ⟨b, o, none⟩), .agg (stpCells s).toArray, .agg (v6Cells y).toArray] w fun e w' => ∃ g c B m d, e = .returned (.pointer (some ⟨g, xs.length * 6, none⟩)) ∧ Joined w w' b o x y xs ns s g c B m d := by
  obtain ⟨b', o', eb, hbl, _, _, _, _, c4, c5⟩ := hx.six
  injection eb with e1 e2
  subst e1 e2
  have hnA : xs.length = x.n := hrA.cap.1
  have hnB : ns.length = x.m := hrB.cap.1
  obtain ⟨w1, hw1⟩ : ∃ w1, w1 = w.alloc (.cells (stpCells s).toArray 53) := ⟨_, rfl⟩
  have z1 : w1.heap.size = w.heap.size + 1 := by subst hw1; simp
  obtain ⟨w2, hw2⟩ : ∃ w2, w2 = w1.alloc (.cells (v6Cells y).toArray 27) := ⟨_, rfl⟩
  have z2 : w2.heap.size = w.heap.size + 2 := by subst hw2; simp [z1]
  have hB2 : Below w.heap.size w w2 := by subst hw2 hw1; exact below2 _ _ _
  have oS : Own w2 w.heap.size 53 (stpCells s).toArray := by
    have h1 : Own w1 w.heap.size 53 (stpCells s).toArray := by subst hw1; exact Own.fresh _ _ _
    subst hw2; exact h1.over _
  have oY : Own w2 (w.heap.size + 1) 27 (v6Cells y).toArray := by
    have h1 : Own w2 w1.heap.size 27 (v6Cells y).toArray := by subst hw2; exact Own.fresh _ _ _
    rwa [z1] at h1
  have y0 := oY.at 0
  have y1 := oY.at 1
  have y2 := oY.at 2
  have y3 := oY.at 3
  have y4 := oY.at 4
  have y5 := oY.at 5
  simp [v6Cells] at y0 y1 y2 y3 y4 y5
  have k4 : w2.cell? ⟨b, o + 4, none⟩ = some (.slice x.A x.n x.c) := (hB2.cell (p := ⟨b, o + 4, none⟩) hbl).trans c4
  have f4 : w2.frozen? ⟨b, o + 4, none⟩ = false := (World.frozen?_of_block (by exact hB2.block b hbl)).trans (hf _)
  have n1 : (x.n : Int) ≤ 100000 := by omega
  have HOA := Lib.hid (show ∀ g, (Value.slice x.A x.n x.c).ownBlock = some g → g ≠ b ∧ g < w.heap.size from fun g hg => ⟨hoA g hg, (hrA.low hg).2⟩)
  have HRA := Lib.hid hrA
  have HRB := Lib.hid hrB
  have HOB := Lib.hid hoB
  have HF := Lib.hid hf
  have HS := Lib.hid oS
  have HB2 := Lib.hid hB2
  have HN := Lib.hid hnA
  have HM := Lib.hid hnB
  have H9 := Lib.hid h9
  have H8 := Lib.hid h8
  have HBL := Lib.hid hbl
  have C4 := Lib.hid c4
  have C5 := Lib.hid c5
  have Z2 := Lib.hid z2
  have HW := Lib.hid (show w2 = (w.alloc (.cells (stpCells s).toArray 53)).alloc (.cells #[.int .i64 y.kd, .int .i64 y.fr, .int .i64 y.to, .string ⟨y.tx.toArray⟩, .slice y.A y.n y.c, .slice y.B y.m y.d] 27) by rw [hw2, hw1]; rfl)
  obtain ⟨nm, sn, si⟩ := s
  show Calls _ _ #[.pointer (some ⟨b, o, none⟩), .agg #[.bool nm, .string ⟨sn.toArray⟩, .int .i64 si], .agg #[.int .i64 y.kd, .int .i64 y.fr, .int .i64 y.to, .string ⟨y.tx.toArray⟩, .slice y.A y.n y.c, .slice y.B y.m y.d]] _ _
  clear hx hf hrA hrB hoA hoB hB2 oS oY hnA hnB h9 h8 c4 c5 hw1 hw2 z1 z2 hbl
  go_enter Tryd.func38, Tryd.ntmps38
  go_upto_region 1 with fail
  generalize hw : World.alloc (World.alloc w _) _ = w2'
  have e2 : w2 = w2' := HW.out.trans hw
  subst e2
  clear hw
  go_cut [4] from 7 to 17 (fun v wc => v = .pointer (some ⟨w.heap.size, 0, none⟩) ∧ Added w wc b o x y xs w.heap.size (stpCells ⟨nm, sn, si⟩))
  case first =>
    have hbZ : Below w2.heap.size w2 (w2.drew.alloc (.cells #[.int .i64 0, .int .i64 0, .int .i64 0, .string ⟨#[]⟩, .slice none 0 0, .slice none 0 0] 27)) := ((Below.refl _ _).drew).alloc (Nat.le_refl _) _
    have hbl2 : b < w2.heap.size := by have := HBL.out; have := Z2.out; omega
    have hyl2 : w.heap.size + 1 < w2.heap.size := by have := Z2.out; omega
    have hbz : Below w2.heap.size w2 (w2.alloc (.cells #[.int .i64 0, .int .i64 0, .int .i64 0, .string ⟨#[]⟩, .slice none 0 0, .slice none 0 0] 27)) := (Below.refl _ _).alloc (Nat.le_refl _) _
    have a0 : (w2.alloc (.cells #[.int .i64 0, .int .i64 0, .int .i64 0, .string ⟨#[]⟩, .slice none 0 0, .slice none 0 0] 27)).cell? ⟨b, o + 4, none⟩ = some (.slice x.A x.n x.c) := (hbz.cell (p := ⟨b, o + 4, none⟩) hbl2).trans k4
    have a1 : (w2.alloc (.cells #[.int .i64 0, .int .i64 0, .int .i64 0, .string ⟨#[]⟩, .slice none 0 0, .slice none 0 0] 27)).cell? ⟨w.heap.size + 1, 0, none⟩ = some (.int .i64 y.kd) := (hbz.cell (p := ⟨w.heap.size + 1, 0, none⟩) hyl2).trans y0
    have a2 : (w2.alloc (.cells #[.int .i64 0, .int .i64 0, .int .i64 0, .string ⟨#[]⟩, .slice none 0 0, .slice none 0 0] 27)).cell? ⟨w.heap.size + 1, 1, none⟩ = some (.int .i64 y.fr) := (hbz.cell (p := ⟨w.heap.size + 1, 1, none⟩) hyl2).trans y1
    have a3 : (w2.alloc (.cells #[.int .i64 0, .int .i64 0, .int .i64 0, .string ⟨#[]⟩, .slice none 0 0, .slice none 0 0] 27)).cell? ⟨w.heap.size + 1, 2, none⟩ = some (.int .i64 y.to) := (hbz.cell (p := ⟨w.heap.size + 1, 2, none⟩) hyl2).trans y2
    have a4 : (w2.alloc (.cells #[.int .i64 0, .int .i64 0, .int .i64 0, .string ⟨#[]⟩, .slice none 0 0, .slice none 0 0] 27)).cell? ⟨w.heap.size + 1, 3, none⟩ = some (.string ⟨y.tx.toArray⟩) := (hbz.cell (p := ⟨w.heap.size + 1, 3, none⟩) hyl2).trans y3
    have a5 : (w2.alloc (.cells #[.int .i64 0, .int .i64 0, .int .i64 0, .string ⟨#[]⟩, .slice none 0 0, .slice none 0 0] 27)).cell? ⟨w.heap.size + 1, 4, none⟩ = some (.slice y.A y.n y.c) := (hbz.cell (p := ⟨w.heap.size + 1, 4, none⟩) hyl2).trans y4
    have a6 : (w2.alloc (.cells #[.int .i64 0, .int .i64 0, .int .i64 0, .string ⟨#[]⟩, .slice none 0 0, .slice none 0 0] 27)).cell? ⟨w.heap.size + 1, 5, none⟩ = some (.slice y.B y.m y.d) := (hbz.cell (p := ⟨w.heap.size + 1, 5, none⟩) hyl2).trans y5
    have ROW := Lib.hid (HRA.out.stay (w' := w2.drew.alloc (.cells #[.int .i64 0, .int .i64 0, .int .i64 0, .string ⟨#[]⟩, .slice none 0 0, .slice none 0 0] 27)) (fun k hk => ((hbZ.block k (by have := (HRA.out.low hk).2; have := Z2.out; omega)).trans (HB2.out.block k (HRA.out.low hk).2))))
    have NEW := Lib.hid ((GRow.made (K := valK) (base := 0) (l := [zeroX]) w2.drew #[.int .i64 0, .int .i64 0, .int .i64 0, .string ⟨#[]⟩, .slice none 0 0, .slice none 0 0] rfl (by simp [maxLen]) (Nat.zero_le _)).rd)
    have HBZ := Lib.hid hbZ
    have HBL2 := Lib.hid hbl2
    have SB := Lib.hid (show w.heap.size < w2.heap.size by have := Z2.out; omega)
    clear hbZ hbz hbl2 hyl2
    go_region_law (
      (refine step_row_app (KK := valK) rfl (.tmp 10) (.tmp 13) rfl 0 _ xs rfl ROW.out _ 1 1 [zeroX] rfl NEW.out (by have := H9.out; omega) (Nat.zero_le _) ?_
       intro v9 w9 row9 grown9 at9
       obtain ⟨A9, c9, rfl, _⟩ := row9.form
       obtain ⟨g, eA, em, hc9, hgb, hg9, hb9, fz, cb, fb, _, z0, z1, z2, z3, z4, z5, AD1, AD2⟩ := added_one (y := y) (o := o) HBL.out HB2.out SB.out (Nat.le_refl _) HS.out HBZ.out HOA.out row9 grown9 at9
       subst eA
       rw [HN.out] at em hc9 z0 z1 z2 z3 z4 z5 AD1 AD2
       rw [em]
       obtain ⟨n1, hn1⟩ : ∃ n1, n1 = x.n + 1 := ⟨_, rfl⟩
       rw [← hn1] at AD1 AD2 hc9 ⊢
       have q4 := (cb (o + 4)).trans C4.out
       have q5 := (fb (o + 4)).trans (HF.out _)
       have fz0 := fz (x.n * 6)
       have fz1 := fz (x.n * 6 + 1)
       have fz2 := fz (x.n * 6 + 2)
       have fz3 := fz (x.n * 6 + 3)
       have fz4 := fz (x.n * 6 + 4)
       have fz5 := fz (x.n * 6 + 5)
       have i1 : (x.n : Int) < (n1 : Int) := by omega
       have i2 : (0 : Int) ≤ (x.n : Int) := by omega
       have i3 : (n1 : Int) ≤ c9 := by omega
       have i4 : (n1 : Int) ≤ 100001 := by omega
       unfold put6at at AD1 AD2
       have A1 := Lib.hid AD1
       have A2 := Lib.hid AD2
       clear row9 grown9 at9 AD1 AD2 fz cb fb em hc9 hn1))
    all_goals
      go_wp2
      go_meet
      case rel => first
        | (with_reducible exact ⟨rfl, A1.out⟩)
        | (with_reducible exact ⟨rfl, A2.out⟩)
  case rest =>
    obtain ⟨rfl, g, c, hrow, hor, hgb, hgs, hb, ht, hs⟩ := hcut
    have zc := ht.size
    have e4 : wc.cell? ⟨b, o + 4, none⟩ = some (.slice (some ⟨g, 0, none⟩) (xs.length + 1) c) := by
      rw [World.cell?_of_block (w := w.setCell ⟨b, o + 4, none⟩ (.slice (some ⟨g, 0, none⟩) (xs.length + 1) c)) (by exact hb)]
      exact World.cell?_setCell_same _ _ _ C4.out
    have e5 : wc.cell? ⟨b, o + 5, none⟩ = some (.slice x.B x.m x.d) := by
      rw [World.cell?_of_block (w := w.setCell ⟨b, o + 4, none⟩ (.slice (some ⟨g, 0, none⟩) (xs.length + 1) c)) (by exact hb), World.cell?_setCell_other _ _ _ _ (by intro e; injection e with _ e _; omega)]
      exact C5.out
    have fr : ∀ i, wc.frozen? ⟨b, i, none⟩ = false := fun i => by
      rw [World.frozen?_of_block (w := w.setCell ⟨b, o + 4, none⟩ (.slice (some ⟨g, 0, none⟩) (xs.length + 1) c)) (by exact hb), World.frozen?_setCell]
      exact HF.out i
    have fr5 := fr (o + 5)
    have t0 := hs.at 0
    have t1 := hs.at 1
    simp [stpCells] at t0 t1
    obtain ⟨n1, hn1⟩ : ∃ n1, n1 = xs.length + 1 := ⟨_, rfl⟩
    have s1 : (n1 : Int) - 1 = (xs.length : Int) := by omega
    have s2 : (0 : Int) ≤ (xs.length : Int) := by omega
    have s3 : (xs.length : Int) < n1 := by omega
    have s4 : (n1 : Int) ≤ 100001 := by have := H9.out; omega
    have hm1 : (x.m : Int) ≤ 100000 := by have := H8.out; have := HM.out; omega
    have HROW := Lib.hid hrow
    have HOR := Lib.hid hor
    have HGB := Lib.hid hgb
    have HHB := Lib.hid hb
    have HT := Lib.hid ht
    have HN1 := Lib.hid hn1
    have ZC := Lib.hid zc
    rw [← hn1] at e4
    clear hrow hor hgb hgs hb ht hs hn1 fr k4 f4 y0 y1 y2 y3 y4 y5 zc
    cases nm with
    | false =>
      go_wp2
      go_quiet (fail)
      go_wp2
      go_ret
      refine ⟨g, c, x.B, x.m, x.d, rfl, ?_⟩
      have ht := HT.out
      have hBo : ∀ k, (Value.slice x.B x.m x.d).ownBlock = some k → wc.heap[k]? = w.heap[k]? := fun k hk => ht.block k (HRB.out.low hk).2 (fun e => by
        rcases e with e | e
        · exact (HOB.out k hk).1 e
        · exact (HOB.out k hk).2 e)
      exact ⟨HROW.out, HRB.out.stay hBo, HOR.out, fun h hh => ⟨.inl hh, (HOB.out h hh).1, fun e => by
        subst e
        rcases HOR.out with e | e
        · exact (HOB.out _ hh).2 e
        · have := (HRB.out.low hh).2; omega⟩, HGB.out, HHB.out, fun _ => ⟨rfl, rfl, rfl⟩, (ht.mono (fun k _ e => e.elim .inl (fun e => .inr (.inl e)))).drewN _⟩
    | true =>
      have hbZ : Below wc.heap.size wc (wc.drew.alloc (.cells #[.string ⟨sn.toArray⟩] 9)) := ((Below.refl _ _).drew).alloc (Nat.le_refl _) _
      have hBo : ∀ k, (Value.slice x.B x.m x.d).ownBlock = some k → wc.heap[k]? = w.heap[k]? := fun k hk => HT.out.block k (HRB.out.low hk).2 (fun e => by
        rcases e with e | e
        · exact (HOB.out k hk).1 e
        · exact (HOB.out k hk).2 e)
      have ROW := Lib.hid ((HRB.out.stay hBo).stay (w' := wc.drew.alloc (.cells #[.string ⟨sn.toArray⟩] 9)) (fun k hk => hbZ.block k (by have := (HRB.out.low hk).2; have := ZC.out; omega)))
      have NEW := Lib.hid ((GRow.made (K := namK) (base := 0) (l := [sn]) wc.drew #[.string ⟨sn.toArray⟩] rfl (by simp [maxLen]) (Nat.zero_le _)).rd)
      have HBZ := Lib.hid hbZ
      have hbc : b < wc.heap.size := by have := HBL.out; have := ZC.out; omega
      have HBC := Lib.hid hbc
      have a5 : (wc.alloc (.cells #[.string ⟨sn.toArray⟩] 9)).cell? ⟨b, o + 5, none⟩ = some (.slice x.B x.m x.d) := (((Below.refl wc.heap.size wc).alloc (Nat.le_refl _) _).cell (p := ⟨b, o + 5, none⟩) hbc).trans e5
      clear hbZ hBo hbc
      go_upto_region 3 with fail
      go_cut [6] from 20 to 30 (fun v wx => v = .pointer none ∧ ∃ B m d, Joined w wx b o x y xs ns ⟨true, sn, si⟩ g c B m d)
      case first =>
        go_region_law (
          (refine step_row_app (KK := namK) rfl (.tmp 24) (.tmp 27) rfl 0 _ ns rfl ROW.out _ 1 1 [sn] rfl NEW.out (by have := H8.out; omega) (Nat.zero_le _) ?_
           intro v9 w9 row9 grown9 at9
           obtain ⟨A9, c9, rfl, _⟩ := row9.form
           have q5 : w9.cell? ⟨b, o + 5, none⟩ = some (.slice x.B x.m x.d) := (World.cell?_of_block (by exact grown9.block b (Nat.lt_of_lt_of_le HBC.out HBZ.out.size) (fun e => (HOB.out b e.symm).1 rfl))).trans a5
           have f5 : w9.frozen? ⟨b, o + 5, none⟩ = false := (World.frozen?_of_block (by exact (grown9.block b (Nat.lt_of_lt_of_le HBC.out HBZ.out.size) (fun e => (HOB.out b e.symm).1 rfl)).trans (HBZ.out.block b HBC.out))).trans fr5
           have hj := (joined_one (s := ⟨true, sn, si⟩) rfl HBL.out HROW.out HOR.out HGB.out HHB.out HT.out (fun h hh => ⟨HOB.out h hh, (HRB.out.low hh).2⟩) HBZ.out row9 grown9 at9)
           rw [show (ns ++ [sn]).length = ns.length + 1 by simp] at hj
           have J := Lib.hid hj
           clear row9 grown9 at9 hj))
        all_goals
          go_wp2
          go_meet
          case rel => exact ⟨rfl, _, _, _, J.out⟩
      case rest =>
        obtain ⟨rfl, B, m, d, hj⟩ := hcut
        have J := Lib.hid hj
        have e4 : wc.cell? ⟨b, o + 4, none⟩ = some (.slice (some ⟨g, 0, none⟩) n1 c) := by
          rw [World.cell?_of_block (w := (w.setCell ⟨b, o + 4, none⟩ (.slice (some ⟨g, 0, none⟩) (xs.length + 1) c)).setCell ⟨b, o + 5, none⟩ (.slice B m d)) (by exact hj.hb), World.cell?_setCell_other _ _ _ _ (by intro e; injection e with _ e _; omega), HN1.out]
          exact World.cell?_setCell_same _ _ _ C4.out
        clear hj e5
        go_wp2
        go_quiet (fail)
        go_wp2
        go_ret
        have j := J.out
        exact ⟨g, c, B, m, d, rfl, j.rowA.stay (fun _ _ => rfl), j.rowB.stay (fun _ _ => rfl), j.oA, j.oB, j.gb, j.hb, j.old, j.touch.drewN _⟩

end Go.Proofs.YthpkcapooeedeaaDoor
