/- Package quote's Walk: Step, over the state that it stands for. -/
import Derived.Test.YtoahnbjpmbhpfaaDoorQ4U
namespace Go.Proofs.YtoahnbjpmbhpfaaDoor.K4
open Go.RowKit
variable {Rs : Rest}
set_option linter.unusedVariables false

section
variable {w w' : World} {b : Nat} {at_ sg lf num cnt fst : Int} {acc : List UInt8}
theorem QT.inside (h : QT Rs w b at_ sg lf num cnt fst acc) : b < w.heap.size := by
  obtain ⟨last, signs, loose, ps, hq, _⟩ := h
  exact hq.inside
theorem QT.free (h : QT Rs w b at_ sg lf num cnt fst acc) (i : Nat) : w.frozen? ⟨b, i, none⟩ = false := by
  obtain ⟨last, signs, loose, ps, hq, _⟩ := h
  exact hq.free i
theorem QT.c0 (h : QT Rs w b at_ sg lf num cnt fst acc) : w.cell? ⟨b, 4, none⟩ = some (.int .i64 at_) := by
  obtain ⟨last, signs, loose, ps, hq, _⟩ := h
  exact hq.c0
theorem QT.c1 (h : QT Rs w b at_ sg lf num cnt fst acc) : w.cell? ⟨b, 5, none⟩ = some (.int .i32 sg) := by
  obtain ⟨last, signs, loose, ps, hq, _⟩ := h
  exact hq.c1
theorem QT.c2 (h : QT Rs w b at_ sg lf num cnt fst acc) : w.cell? ⟨b, 6, none⟩ = some (.int .i64 lf) := by
  obtain ⟨last, signs, loose, ps, hq, _⟩ := h
  exact hq.c2
theorem QT.c3 (h : QT Rs w b at_ sg lf num cnt fst acc) : w.cell? ⟨b, 7, none⟩ = some (.int .i64 num) := by
  obtain ⟨last, signs, loose, ps, hq, _⟩ := h
  exact hq.c3
theorem QT.c4 (h : QT Rs w b at_ sg lf num cnt fst acc) : w.cell? ⟨b, 8, none⟩ = some (.int .i64 cnt) := by
  obtain ⟨last, signs, loose, ps, hq, _⟩ := h
  exact hq.c4
theorem QT.c5 (h : QT Rs w b at_ sg lf num cnt fst acc) : w.cell? ⟨b, 9, none⟩ = some (.int .i64 fst) := by
  obtain ⟨last, signs, loose, ps, hq, _⟩ := h
  exact hq.c5
theorem QT.put0 (h : QT Rs w b at_ sg lf num cnt fst acc) (x : Int) : QT Rs (w.setCell ⟨b, 4, none⟩ (.int .i64 x)) b x sg lf num cnt fst acc := by
  obtain ⟨last, signs, loose, ps, hq, hc, r⟩ := h
  exact ⟨last, signs, loose, ps, hq.put0 x, hc.stay ((Turned.refl b w).put 4 _), r⟩
theorem QT.put1 (h : QT Rs w b at_ sg lf num cnt fst acc) (x : Int) : QT Rs (w.setCell ⟨b, 5, none⟩ (.int .i32 x)) b at_ x lf num cnt fst acc := by
  obtain ⟨last, signs, loose, ps, hq, hc, r⟩ := h
  exact ⟨last, signs, loose, ps, hq.put1 x, hc.stay ((Turned.refl b w).put 5 _), r⟩
theorem QT.put2 (h : QT Rs w b at_ sg lf num cnt fst acc) (x : Int) : QT Rs (w.setCell ⟨b, 6, none⟩ (.int .i64 x)) b at_ sg x num cnt fst acc := by
  obtain ⟨last, signs, loose, ps, hq, hc, r⟩ := h
  exact ⟨last, signs, loose, ps, hq.put2 x, hc.stay ((Turned.refl b w).put 6 _), r⟩
theorem QT.put3 (h : QT Rs w b at_ sg lf num cnt fst acc) (x : Int) : QT Rs (w.setCell ⟨b, 7, none⟩ (.int .i64 x)) b at_ sg lf x cnt fst acc := by
  obtain ⟨last, signs, loose, ps, hq, hc, r⟩ := h
  exact ⟨last, signs, loose, ps, hq.put3 x, hc.stay ((Turned.refl b w).put 7 _), r⟩
theorem QT.put4 (h : QT Rs w b at_ sg lf num cnt fst acc) (x : Int) : QT Rs (w.setCell ⟨b, 8, none⟩ (.int .i64 x)) b at_ sg lf num x fst acc := by
  obtain ⟨last, signs, loose, ps, hq, hc, r⟩ := h
  exact ⟨last, signs, loose, ps, hq.put4 x, hc.stay ((Turned.refl b w).put 8 _), r⟩
theorem QT.put5 (h : QT Rs w b at_ sg lf num cnt fst acc) (x : Int) : QT Rs (w.setCell ⟨b, 9, none⟩ (.int .i64 x)) b at_ sg lf num cnt x acc := by
  obtain ⟨last, signs, loose, ps, hq, hc, r⟩ := h
  exact ⟨last, signs, loose, ps, hq.put5 x, hc.stay ((Turned.refl b w).put 9 _), r⟩
end

/-- What the cells of a walk say of where it is. -/
def CellsQ : QSt → Int → Int → Int → Int → Int → Int → Prop
  | .plain, a, sg, lf, num, cnt, fst => a = 0 ∧ lf = 0 ∧ num = 0 ∧ cnt = 0 ∧ fst = 0
  | .sign s l p, a, sg, lf, num, cnt, fst => a = 0 ∧ sg = s ∧ lf = l ∧ num = 0 ∧ cnt = 0 ∧ fst = 0 ∧ 0 < l ∧ InvL p s l
  | .esc, a, sg, lf, num, cnt, fst => a = 1 ∧ lf = 0 ∧ num = 0 ∧ cnt = 0 ∧ fst = 0
  | .hex k v, a, sg, lf, num, cnt, fst => a = 2 ∧ lf = 0 ∧ num = v ∧ cnt = k ∧ fst = 0
  | .half h, a, sg, lf, num, cnt, fst => a = 3 ∧ lf = 0 ∧ num = 0 ∧ cnt = 0 ∧ fst = h
  | .hesc h, a, sg, lf, num, cnt, fst => a = 4 ∧ lf = 0 ∧ num = 0 ∧ cnt = 0 ∧ fst = h
  | .hhex h k v, a, sg, lf, num, cnt, fst => a = 2 ∧ lf = 0 ∧ num = v ∧ cnt = k ∧ fst = h
  | .done, a, sg, lf, num, cnt, fst => a = 5 ∧ lf = 0 ∧ num = 0 ∧ cnt = 0 ∧ fst = 0

/-- The walk in block b stands there, and has gathered this text. -/
def IsQ (Rs : Rest) (w : World) (b : Nat) (st : QSt) (acc : List UInt8) : Prop := WQ st ∧ ∃ a sg lf num cnt fst, QT Rs w b a sg lf num cnt fst acc ∧ CellsQ st a sg lf num cnt fst ∧ StU sg lf

/-- The end of a step that goes on. -/
def OnQ (Rs : Rest) (w : World) (b : Nat) (st : QSt) (acc : List UInt8) (n : Int) (e : Ending) (w' : World) : Prop := e = .returned (.int .i64 n) ∧ IsQ Rs w' b st acc ∧ Turned b w w'

theorem isQ_mk {w : World} {b : Nat} {st : QSt} {acc : List UInt8} {a sg lf num cnt fst : Int} (hw : WQ st) (h : QT Rs w b a sg lf num cnt fst acc) (hc : CellsQ st a sg lf num cnt fst) (hs : StU sg lf) : IsQ Rs w b st acc := ⟨hw, a, sg, lf, num, cnt, fst, h, hc, hs⟩

section
variable (w : World) (b : Nat) (at_ sg lf num cnt fst : Int) (acc : List UInt8)
theorem uwithin (h : QT Rs w b at_ sg lf num cnt fst acc) : Calls Tryd.prog 35 #[.pointer (some ⟨b, 5, none⟩)] w fun e w' => e = .returned (.bool (decide (0 < lf))) ∧ w = w' :=
  qwithin_any b sg lf w h.c1 h.c2 (h.free 5) (h.free 6)
theorem usign (h : QT Rs w b at_ sg 0 num cnt fst acc) : Calls Tryd.prog 38 #[.pointer (some ⟨b, 5, none⟩)] w fun e w' => e = .returned (.int .i32 sg) ∧ w = w' := by
  have := qsign_any b sg 0 w h.c1 h.c2 (h.free 5) (h.free 6)
  rw [if_neg (by omega)] at this
  exact this
theorem ustep_yes (c : UInt8) (h : QT Rs w b at_ sg lf num cnt fst acc) (hs : StU sg lf) (hk : okU sg lf c.toNat = true) :
    Calls Tryd.prog 36 #[.pointer (some ⟨b, 5, none⟩), .int .u8 c.toNat] w fun e w' => e = .returned (.bool true) ∧ QT Rs w' b at_ (sgU sg lf c.toNat) (lfU lf c.toNat) num cnt fst acc ∧ Turned b w w' := by
  refine (qstep_yes b c.toNat sg lf w h.c1 h.c2 (h.free 5) (h.free 6) hs (Int.natCast_nonneg _) hk).mono ?_
  rintro e w' ⟨rfl, rfl⟩
  exact ⟨rfl, (h.put1 _).put2 _, ((Turned.refl b w).put 5 _).put 6 _⟩
theorem ustep_no (c : UInt8) (h : QT Rs w b at_ sg lf num cnt fst acc) (hk : okU sg lf c.toNat = false) :
    Calls Tryd.prog 36 #[.pointer (some ⟨b, 5, none⟩), .int .u8 c.toNat] w fun e w' => e = .returned (.bool false) ∧ w = w' :=
  qstep_no b c.toNat sg lf w h.c1 h.c2 (h.free 5) (h.free 6) hk
end

theorem stU_plain : StU 0 0 := stU_zero
/-- A walk between two signs steps whatever the last one was. -/
theorem okU_any (sg sg' : Int) (c : Int) : okU sg 0 c = okU sg' 0 c := by unfold okU; rw [if_pos rfl, if_pos rfl]
theorem sgU_any (sg sg' : Int) (c : Int) : sgU sg 0 c = sgU sg' 0 c := by unfold sgU; rw [if_pos rfl, if_pos rfl]

set_option maxHeartbeats 1000000 in
theorem between_mark (w : World) (b : Nat) (sg num cnt fst : Int) (acc : List UInt8) (h : QT Rs w b 0 sg 0 num cnt fst acc) :
    Calls Tryd.prog 25 #[.pointer (some ⟨b, 4, none⟩), .int .u8 34] w fun e w' => e = .returned (.int .i64 1) ∧ QT Rs w' b 5 sg 0 num cnt fst acc ∧ Turned b w w' := by
  have c0 := h.c0
  have f0 := h.free 4
  have HW := Lib.hid (uwithin w b 0 sg 0 num cnt fst acc h)
  have H := Lib.hid h
  clear h
  go_enter Tryd.func25, Tryd.ntmps25
  go_wp2_with (go_at_call 35; refine HW.out.mono ?_; rintro e w' ⟨rfl, rfl⟩)
  go_ret
  exact ⟨rfl, H.out.put0 5, (Turned.refl b w).put 4 _⟩

set_option maxHeartbeats 1000000 in
theorem between_slash (w : World) (b : Nat) (sg num cnt fst : Int) (acc : List UInt8) (h : QT Rs w b 0 sg 0 num cnt fst acc) :
    Calls Tryd.prog 25 #[.pointer (some ⟨b, 4, none⟩), .int .u8 92] w fun e w' => e = .returned (.int .i64 0) ∧ QT Rs w' b 1 sg 0 num cnt fst acc ∧ Turned b w w' := by
  have c0 := h.c0
  have f0 := h.free 4
  have HW := Lib.hid (uwithin w b 0 sg 0 num cnt fst acc h)
  have H := Lib.hid h
  clear h
  go_enter Tryd.func25, Tryd.ntmps25
  go_wp2_with (go_at_call 35; refine HW.out.mono ?_; rintro e w' ⟨rfl, rfl⟩)
  go_ret
  exact ⟨rfl, H.out.put0 1, (Turned.refl b w).put 4 _⟩

set_option maxHeartbeats 1000000 in
theorem between_low (w : World) (b : Nat) (sg num cnt fst : Int) (acc : List UInt8) (c : Int) (hc : c < 32) (h : QT Rs w b 0 sg 0 num cnt fst acc) :
    Calls Tryd.prog 25 #[.pointer (some ⟨b, 4, none⟩), .int .u8 c] w fun e w' => e = .returned (.int .i64 7) ∧ w = w' := by
  have HW := Lib.hid (uwithin w b 0 sg 0 num cnt fst acc h)
  have g1 : (c == 34) = false := beq_eq_false_iff_ne.2 (by omega)
  have g2 : (c == 92) = false := beq_eq_false_iff_ne.2 (by omega)
  clear h
  go_enter Tryd.func25, Tryd.ntmps25
  go_wp2_with (go_at_call 35; refine HW.out.mono ?_; rintro e w' ⟨rfl, rfl⟩)
  go_ret
  exact ⟨rfl, rfl⟩

/-- A byte that isn't taken for itself: within a sign all are. -/
def Free (lf c : Int) : Prop := 0 < lf ∨ (c ≠ 34 ∧ c ≠ 92 ∧ 32 ≤ c)

set_option maxHeartbeats 1000000 in
theorem between_bad (w : World) (b : Nat) (sg lf num cnt fst : Int) (acc : List UInt8) (c : UInt8) (hf : Free lf c.toNat) (hk : okU sg lf c.toNat = false) (h : QT Rs w b 0 sg lf num cnt fst acc) :
    Calls Tryd.prog 25 #[.pointer (some ⟨b, 4, none⟩), .int .u8 c.toNat] w fun e w' => e = .returned (.int .i64 2) ∧ w = w' := by
  have HW := uwithin w b 0 sg lf num cnt fst acc h
  have HS := Lib.hid (ustep_no w b 0 sg lf num cnt fst acc c h hk)
  clear h hk
  by_cases hl : 0 < lf
  · rw [decide_eq_true hl] at HW
    replace HW := Lib.hid HW
    go_enter Tryd.func25, Tryd.ntmps25
    go_wp2_with (first
      | (go_at_call 35; refine HW.out.mono ?_; rintro e w' ⟨rfl, rfl⟩)
      | (go_at_call 36; refine HS.out.mono ?_; rintro e w' ⟨rfl, rfl⟩))
    go_ret
    exact ⟨rfl, rfl⟩
  · rw [decide_eq_false hl] at HW
    replace HW := Lib.hid HW
    obtain ⟨h1, h2, h3⟩ := hf.resolve_left hl
    have g1 : ((c.toNat : Int) == 34) = false := beq_eq_false_iff_ne.2 h1
    have g2 : ((c.toNat : Int) == 92) = false := beq_eq_false_iff_ne.2 h2
    go_enter Tryd.func25, Tryd.ntmps25
    go_wp2_with (first
      | (go_at_call 35; refine HW.out.mono ?_; rintro e w' ⟨rfl, rfl⟩)
      | (go_at_call 36; refine HS.out.mono ?_; rintro e w' ⟨rfl, rfl⟩))
    go_ret
    exact ⟨rfl, rfl⟩

set_option maxHeartbeats 1000000 in
theorem between_ok (w : World) (b : Nat) (sg lf num cnt fst : Int) (acc : List UInt8) (c : UInt8) (hf : Free lf c.toNat) (hs : StU sg lf) (hk : okU sg lf c.toNat = true) (hsg : lfU lf c.toNat = 0 → Sgn (sgU sg lf c.toNat)) (h : QT Rs w b 0 sg lf num cnt fst acc) :
    Calls Tryd.prog 25 #[.pointer (some ⟨b, 4, none⟩), .int .u8 c.toNat] w fun e w' => e = .returned (.int .i64 0) ∧ QT Rs w' b 0 (sgU sg lf c.toNat) (lfU lf c.toNat) num cnt fst (if lfU lf c.toNat = 0 then acc ++ ofB (sgU sg lf c.toNat) else acc) ∧ Turned b w w' := by
  have HW := uwithin w b 0 sg lf num cnt fst acc h
  have HS := Lib.hid (ustep_yes w b 0 sg lf num cnt fst acc c h hs hk)
  have hst := (stU_step hs (Int.natCast_nonneg _) hk).2
  generalize sgU sg lf c.toNat = x at *
  generalize lfU lf c.toNat = y at *
  have HG := Lib.hid hsg
  have ty : True := trivial
  clear h hk hs hsg
  by_cases hy : y = 0
  · subst hy
    rw [if_pos rfl]
    have hv := HG.out rfl
    by_cases hl : 0 < lf
    · rw [decide_eq_true hl] at HW
      replace HW := Lib.hid HW
      go_enter Tryd.func25, Tryd.ntmps25
      go_wp2_with (first
        | (go_at_call 35; clear ty; refine HW.out.mono ?_; rintro e w' ⟨rfl, rfl⟩)
        | (go_at_call 36; refine HS.out.mono ?_; rintro e w1 ⟨rfl, h1, t1⟩; have H1 := Lib.hid h1; have T1 := Lib.hid t1; clear h1 t1)
        | (go_at_call 35; refine (uwithin _ _ _ _ _ _ _ _ _ H1.out).mono ?_; rintro e w' ⟨rfl, rfl⟩)
        | (go_at_call 38; refine (usign _ _ _ _ _ _ _ _ H1.out).mono ?_; rintro e w' ⟨rfl, rfl⟩)
        | (go_at_call 37; refine (add_any _ _ _ _ _ _ _ _ _ hv _ H1.out).mono ?_; rintro e w2 ⟨rfl, h2, t2⟩))
      go_ret
      exact ⟨rfl, h2, T1.out.trans t2⟩
    · rw [decide_eq_false hl] at HW
      replace HW := Lib.hid HW
      obtain ⟨h1, h2, h3⟩ := hf.resolve_left hl
      have g1 : ((c.toNat : Int) == 34) = false := beq_eq_false_iff_ne.2 h1
      have g2 : ((c.toNat : Int) == 92) = false := beq_eq_false_iff_ne.2 h2
      go_enter Tryd.func25, Tryd.ntmps25
      go_wp2_with (first
        | (go_at_call 35; clear ty; refine HW.out.mono ?_; rintro e w' ⟨rfl, rfl⟩)
        | (go_at_call 36; refine HS.out.mono ?_; rintro e w1 ⟨rfl, h1, t1⟩; have H1 := Lib.hid h1; have T1 := Lib.hid t1; clear h1 t1)
        | (go_at_call 35; refine (uwithin _ _ _ _ _ _ _ _ _ H1.out).mono ?_; rintro e w' ⟨rfl, rfl⟩)
        | (go_at_call 38; refine (usign _ _ _ _ _ _ _ _ H1.out).mono ?_; rintro e w' ⟨rfl, rfl⟩)
        | (go_at_call 37; refine (add_any _ _ _ _ _ _ _ _ _ hv _ H1.out).mono ?_; rintro e w2 ⟨rfl, h2, t2⟩))
      go_ret
      exact ⟨rfl, h2, T1.out.trans t2⟩
  · have hy0 : 0 < y := by omega
    rw [if_neg hy]
    by_cases hl : 0 < lf
    · rw [decide_eq_true hl] at HW
      replace HW := Lib.hid HW
      go_enter Tryd.func25, Tryd.ntmps25
      go_wp2_with (first
        | (go_at_call 35; clear ty; refine HW.out.mono ?_; rintro e w' ⟨rfl, rfl⟩)
        | (go_at_call 36; refine HS.out.mono ?_; rintro e w1 ⟨rfl, h1, t1⟩; have H1 := Lib.hid h1; have T1 := Lib.hid t1; clear h1 t1)
        | (go_at_call 35; refine (uwithin _ _ _ _ _ _ _ _ _ H1.out).mono ?_; rintro e w' ⟨rfl, rfl⟩))
      go_ret
      exact ⟨rfl, H1.out, T1.out⟩
    · rw [decide_eq_false hl] at HW
      replace HW := Lib.hid HW
      obtain ⟨h1, h2, h3⟩ := hf.resolve_left hl
      have g1 : ((c.toNat : Int) == 34) = false := beq_eq_false_iff_ne.2 h1
      have g2 : ((c.toNat : Int) == 92) = false := beq_eq_false_iff_ne.2 h2
      go_enter Tryd.func25, Tryd.ntmps25
      go_wp2_with (first
        | (go_at_call 35; clear ty; refine HW.out.mono ?_; rintro e w' ⟨rfl, rfl⟩)
        | (go_at_call 36; refine HS.out.mono ?_; rintro e w1 ⟨rfl, h1, t1⟩; have H1 := Lib.hid h1; have T1 := Lib.hid t1; clear h1 t1)
        | (go_at_call 35; refine (uwithin _ _ _ _ _ _ _ _ _ H1.out).mono ?_; rintro e w' ⟨rfl, rfl⟩))
      go_ret
      exact ⟨rfl, H1.out, T1.out⟩

end Go.Proofs.YtoahnbjpmbhpfaaDoor.K4
