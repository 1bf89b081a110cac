/- Package quote's Walk: its block, the pieces that it put away, and what its methods do. -/
import Derived.Test.YtoahnbjpmbhpfaaDoorFoot
import Derived.Test.YtoahnbjpmbhpfaaDoorShelf
import Derived.StillTailTactics
import Derived.RegionTactic
import Derived.Deep.DeepMust
import Derived.Outline
import Derived.Lib.OwnBridge
import Derived.Deep.LoopGhost
namespace Go.Proofs.YtoahnbjpmbhpfaaDoor.K4
open Go.RowKit
set_option linter.unusedVariables false

/-- What lies around the walk in its block. -/
structure Rest where
  t : TypeId
  pre : List Value
  post : List Value
  F : Nat → Prop
  N : Nat
  up : ∀ k, N ≤ k → F k

section
variable {w : World} {b p : Nat} {t : TypeId} {pre l post : List Value}
theorem part_at (h : Own w b t (pre ++ l ++ post).toArray) (hp : pre.length = p) (i : Nat) (hi : i < l.length) : w.cell? ⟨b, p + i, none⟩ = l[i]? := by
  rw [h.at]
  simp [List.getElem?_append, hp, hi]
theorem part_put (h : Own w b t (pre ++ l ++ post).toArray) (hp : pre.length = p) (i : Nat) (hi : i < l.length) (u : Value) : Own (w.setCell ⟨b, p + i, none⟩ u) b t (pre ++ l.set i u ++ post).toArray := by
  have := h.put (p + i) u
  simpa [List.set_append, hp, hi] using this
end

variable {Rs : Rest}
/-- The cells of a walk. -/
def QL (at_ sg lf num cnt fst : Int) (last : Option Addr) (signs : List Int) (loose : Nat) : List Value :=
  .int .i64 at_ :: .int .i32 sg :: .int .i64 lf :: .int .i64 num :: .int .i64 cnt :: .int .i64 fst :: .pointer last :: (signs.map (Value.int .i32) ++ [.int .i64 loose])
/-- The walk in block b. -/
def QW (Rs : Rest) (w : World) (b : Nat) (at_ sg lf num cnt fst : Int) (last : Option Addr) (signs : List Int) (loose : Nat) : Prop :=
  signs.length = 64 ∧ Rs.pre.length = 4 ∧ Own w b Rs.t (Rs.pre ++ QL at_ sg lf num cnt fst last signs loose ++ Rs.post).toArray

section
variable {w w' : World} {b : Nat} {at_ sg lf num cnt fst : Int} {last : Option Addr} {signs : List Int} {loose : Nat}
theorem QL_len (h : signs.length = 64) : (QL at_ sg lf num cnt fst last signs loose).length = 72 := by simp [QL, h]
theorem QW.inside (h : QW Rs w b at_ sg lf num cnt fst last signs loose) : b < w.heap.size := h.2.2.inside
theorem QW.free (h : QW Rs w b at_ sg lf num cnt fst last signs loose) (i : Nat) : w.frozen? ⟨b, i, none⟩ = false := h.2.2.free i
theorem QW.stay (h : QW Rs w b at_ sg lf num cnt fst last signs loose) (hk : w'.heap[b]? = w.heap[b]?) : QW Rs w' b at_ sg lf num cnt fst last signs loose := ⟨h.1, h.2.1, hk.trans h.2.2⟩
theorem QW.cell (h : QW Rs w b at_ sg lf num cnt fst last signs loose) (i : Nat) (hi : i < 72) : w.cell? ⟨b, 4 + i, none⟩ = (QL at_ sg lf num cnt fst last signs loose)[i]? := part_at h.2.2 h.2.1 i (by rw [QL_len h.1]; exact hi)
theorem QW.cput (h : QW Rs w b at_ sg lf num cnt fst last signs loose) (i : Nat) (hi : i < 72) (u : Value) {a' s' l' n' c' f' : Int} {la' : Option Addr} {si' : List Int} {lo' : Nat} (hs : si'.length = 64)
    (e : (QL at_ sg lf num cnt fst last signs loose).set i u = QL a' s' l' n' c' f' la' si' lo') : QW Rs (w.setCell ⟨b, 4 + i, none⟩ u) b a' s' l' n' c' f' la' si' lo' :=
  ⟨hs, h.2.1, e ▸ part_put h.2.2 h.2.1 i (by rw [QL_len h.1]; exact hi) u⟩
theorem QW.c0 (h : QW Rs w b at_ sg lf num cnt fst last signs loose) : w.cell? ⟨b, 4, none⟩ = some (.int .i64 at_) := h.cell 0 (by decide)
theorem QW.c1 (h : QW Rs w b at_ sg lf num cnt fst last signs loose) : w.cell? ⟨b, 5, none⟩ = some (.int .i32 sg) := h.cell 1 (by decide)
theorem QW.c2 (h : QW Rs w b at_ sg lf num cnt fst last signs loose) : w.cell? ⟨b, 6, none⟩ = some (.int .i64 lf) := h.cell 2 (by decide)
theorem QW.c3 (h : QW Rs w b at_ sg lf num cnt fst last signs loose) : w.cell? ⟨b, 7, none⟩ = some (.int .i64 num) := h.cell 3 (by decide)
theorem QW.c4 (h : QW Rs w b at_ sg lf num cnt fst last signs loose) : w.cell? ⟨b, 8, none⟩ = some (.int .i64 cnt) := h.cell 4 (by decide)
theorem QW.c5 (h : QW Rs w b at_ sg lf num cnt fst last signs loose) : w.cell? ⟨b, 9, none⟩ = some (.int .i64 fst) := h.cell 5 (by decide)
theorem QW.c6 (h : QW Rs w b at_ sg lf num cnt fst last signs loose) : w.cell? ⟨b, 10, none⟩ = some (.pointer last) := h.cell 6 (by decide)
theorem QW.sign (h : QW Rs w b at_ sg lf num cnt fst last signs loose) (j : Nat) (hj : j < 64) : w.cell? ⟨b, 11 + j, none⟩ = some (.int .i32 (signs.getD j 0)) := by
  have hl := h.1
  have := h.cell (j + 7) (by omega)
  rw [show 4 + (j + 7) = 11 + j by omega] at this
  rw [this]
  simp [QL, List.getElem?_append, hl, hj]
theorem QW.c71 (h : QW Rs w b at_ sg lf num cnt fst last signs loose) : w.cell? ⟨b, 75, none⟩ = some (.int .i64 loose) := by
  have hl := h.1
  refine (h.cell 71 (by decide)).trans ?_
  simp [QL, hl]
theorem QW.put0 (h : QW Rs w b at_ sg lf num cnt fst last signs loose) (x : Int) : QW Rs (w.setCell ⟨b, 4, none⟩ (.int .i64 x)) b x sg lf num cnt fst last signs loose := h.cput 0 (by decide) _ h.1 rfl
theorem QW.put1 (h : QW Rs w b at_ sg lf num cnt fst last signs loose) (x : Int) : QW Rs (w.setCell ⟨b, 5, none⟩ (.int .i32 x)) b at_ x lf num cnt fst last signs loose := h.cput 1 (by decide) _ h.1 rfl
theorem QW.put2 (h : QW Rs w b at_ sg lf num cnt fst last signs loose) (x : Int) : QW Rs (w.setCell ⟨b, 6, none⟩ (.int .i64 x)) b at_ sg x num cnt fst last signs loose := h.cput 2 (by decide) _ h.1 rfl
theorem QW.put3 (h : QW Rs w b at_ sg lf num cnt fst last signs loose) (x : Int) : QW Rs (w.setCell ⟨b, 7, none⟩ (.int .i64 x)) b at_ sg lf x cnt fst last signs loose := h.cput 3 (by decide) _ h.1 rfl
theorem QW.put4 (h : QW Rs w b at_ sg lf num cnt fst last signs loose) (x : Int) : QW Rs (w.setCell ⟨b, 8, none⟩ (.int .i64 x)) b at_ sg lf num x fst last signs loose := h.cput 4 (by decide) _ h.1 rfl
theorem QW.put5 (h : QW Rs w b at_ sg lf num cnt fst last signs loose) (x : Int) : QW Rs (w.setCell ⟨b, 9, none⟩ (.int .i64 x)) b at_ sg lf num cnt x last signs loose := h.cput 5 (by decide) _ h.1 rfl
theorem QW.put6 (h : QW Rs w b at_ sg lf num cnt fst last signs loose) (x : Option Addr) : QW Rs (w.setCell ⟨b, 10, none⟩ (.pointer x)) b at_ sg lf num cnt fst x signs loose := h.cput 6 (by decide) _ h.1 rfl
theorem QW.put71 (h : QW Rs w b at_ sg lf num cnt fst last signs loose) (x : Nat) : QW Rs (w.setCell ⟨b, 75, none⟩ (.int .i64 x)) b at_ sg lf num cnt fst last signs x := by
  have hl := h.1
  exact h.cput 71 (by decide) _ h.1 (by simp [QL, hl])
theorem QW.putS (h : QW Rs w b at_ sg lf num cnt fst last signs loose) (j : Nat) (hj : j < 64) (x : Int) : QW Rs (w.setCell ⟨b, 11 + j, none⟩ (.int .i32 x)) b at_ sg lf num cnt fst last (signs.set j x) loose := by
  have hl := h.1
  have := h.cput (j + 7) (by omega) (.int .i32 x) (a' := at_) (s' := sg) (l' := lf) (n' := num) (c' := cnt) (f' := fst) (la' := last) (si' := signs.set j x) (lo' := loose) (by simpa using hl) (by simp [QL, hl, hj])
  rw [show 4 + (j + 7) = 11 + j by omega] at this
  exact this
end

/-- The pieces that were put away, the last one first: none of their blocks is the walk's. -/
def Chain (Rs : Rest) (w : World) (b : Nat) : Option Addr → List ByteArray → Prop
  | v, [] => v = none ∧ Rs.N ≤ w.heap.size
  | v, p :: t => ∃ (k : Nat) (nx : Option Addr), v = some ⟨k, 0, none⟩ ∧ k ≠ b ∧ Rs.F k ∧ Own w k 60 #[.pointer nx, .string p] ∧ Chain Rs w b nx t
theorem Chain.stay {w w' : World} {b : Nat} (ht : Turned b w w') : ∀ {ps : List ByteArray} {v : Option Addr}, Chain Rs w b v ps → Chain Rs w' b v ps
  | [], _, h => ⟨h.1, Nat.le_trans h.2 ht.2.2.2.1⟩
  | p :: t, v, ⟨k, nx, hv, hk, hF, ho, hc⟩ => ⟨k, nx, hv, hk, hF, (ht.2.2.2.2 k ho.inside hk).trans ho, hc.stay ht⟩
theorem Chain.low {w : World} {b : Nat} : ∀ {ps : List ByteArray} {v : Option Addr}, Chain Rs w b v ps → Rs.N ≤ w.heap.size
  | [], _, h => h.2
  | p :: t, v, ⟨k, nx, hv, hk, hF, ho, hc⟩ => hc.low
/-- The pieces in another world, told by another set. -/
theorem Chain.move {Rs' : Rest} {w w' : World} {b b' : Nat} (hN : Rs'.N ≤ w'.heap.size) (hs : ∀ k, k < w.heap.size → k ≠ b → Rs.F k → k ≠ b' ∧ Rs'.F k ∧ w'.heap[k]? = w.heap[k]?) : ∀ {ps : List ByteArray} {v : Option Addr}, Chain Rs w b v ps → Chain Rs' w' b' v ps
  | [], _, h => ⟨h.1, hN⟩
  | p :: t, v, ⟨k, nx, hv, hk, hF, ho, hc⟩ => by
    obtain ⟨h1, h2, h3⟩ := hs k ho.inside hk hF
    exact ⟨k, nx, hv, h1, h2, h3.trans ho, hc.move hN hs⟩

/-- The text of the pieces. -/
def flatP : List ByteArray → List UInt8
  | [] => []
  | p :: t => flatP t ++ p.data.toList

/-- The walk in block b, and the text that it stands for. -/
def QT (Rs : Rest) (w : World) (b : Nat) (at_ sg lf num cnt fst : Int) (acc : List UInt8) : Prop :=
  ∃ (last : Option Addr) (signs : List Int) (loose : Nat) (ps : List ByteArray), QW Rs w b at_ sg lf num cnt fst last signs loose ∧ Chain Rs w b last ps ∧ loose ≤ 64 ∧ (∀ v ∈ signs.take loose, Sgn v) ∧ (∀ p ∈ ps, 1 ≤ p.size) ∧ acc = flatP ps ++ encs (signs.take loose)

/-- The end of a method that writes the walk's block. -/
def QEnd (Rs : Rest) (w : World) (b : Nat) (at_ sg lf num cnt fst : Int) (acc : List UInt8) (v : Value) (e : Ending) (w' : World) : Prop :=
  e = .returned v ∧ QT Rs w' b at_ sg lf num cnt fst acc ∧ Turned b w w'

theorem take_snoc_set (l : List Int) (k : Nat) (x : Int) (h : k < l.length) : (l.set k x).take (k + 1) = l.take k ++ [x] := by
  rw [List.take_succ_eq_append_getElem (by simpa using h), List.take_set, List.set_eq_of_length_le (by simp; omega)]
  simp

set_option maxHeartbeats 2000000 in
set_option maxRecDepth 100000 in
theorem add_room (b : Nat) (at_ sg lf num cnt fst : Int) (last : Option Addr) (signs : List Int) (loose : Nat) (v : Int) (w : World) (h : QW Rs w b at_ sg lf num cnt fst last signs loose) (hl : loose < 64) :
    Calls Tryd.prog 37 #[.pointer (some ⟨b, 4, none⟩), .int .i32 v] w fun e w' => e = .returned (.tuple #[]) ∧ QW Rs w' b at_ sg lf num cnt fst last (signs.set loose v) (loose + 1) ∧ Turned b w w' := by
  have c71 := h.c71
  have f71 := h.free 75
  have cs := h.sign loose hl
  have fs := h.free (11 + loose)
  have gl : ((loose : Int) == 64) = false := beq_eq_false_iff_ne.2 (by omega)
  have hl1 : (loose : Int) < 64 := by omega
  have hl0 : (0 : Int) ≤ loose := by omega
  have H := Lib.hid h
  clear h
  go_enter Tryd.func37, Tryd.ntmps37
  go_wp2
  go_still_tail 9, (by kernel_rfl)
  change wpList _ _ _ _ _ w.drew
  go_wp2
  go_end0
  refine ⟨rfl, ?_, ?_⟩
  · exact ((H.out.putS loose hl v).put71 (loose + 1)).stay rfl
  · exact ((Turned.refl b w).put (11 + loose) _).put 75 _

theorem conv_runes (w : World) (b : Nat) (at_ sg lf num cnt fst : Int) (last : Option Addr) (signs : List Int) (loose n : Nat) (h : QW Rs w b at_ sg lf num cnt fst last signs loose) (hn : n ≤ 64) (hv : ∀ v ∈ signs.take n, Sgn v) :
    (convert 57 9 (.slice (some ⟨b, 11, none⟩) n 64)).run Tryd.prog w = .ok (.string ⟨(encs (signs.take n)).toArray⟩) w := by
  have hl := h.1
  have := run_convert_runes (P := Tryd.prog) w 57 9 21 ⟨b, 11, none⟩ n 64 signs (by omega) Tryd.underlying57 Tryd.underlying21 Tryd.underlying9 (fun j hj => by
    rw [add_none]
    exact h.sign j (by omega))
  rw [this, runesBytes_encs _ hv]

set_option maxHeartbeats 2000000 in
set_option maxRecDepth 100000 in
theorem add_full (b : Nat) (at_ sg lf num cnt fst : Int) (last : Option Addr) (signs : List Int) (v : Int) (w : World) (h : QW Rs w b at_ sg lf num cnt fst last signs 64) (hs : ∀ v ∈ signs, Sgn v) :
    Calls Tryd.prog 37 #[.pointer (some ⟨b, 4, none⟩), .int .i32 v] w fun e w' => e = .returned (.tuple #[]) ∧ ∃ k, w.heap.size ≤ k ∧ QW Rs w' b at_ sg lf num cnt fst (some ⟨k, 0, none⟩) (signs.set 0 v) 1 ∧ Own w' k 60 #[.pointer last, .string ⟨(encs signs).toArray⟩] ∧ Turned b w w' := by
  have c71 := h.c71
  have f71 := h.free 75
  have c6 := h.c6
  have f6 := h.free 10
  have f7 := h.free 11
  have hin := h.inside
  have hl := h.1
  have hc := conv_runes w.drew b at_ sg lf num cnt fst last signs 64 64 (h.stay rfl) (Nat.le_refl _) (by rw [List.take_of_length_le (by omega)]; exact hs)
  rw [List.take_of_length_le (by omega)] at hc
  have H := Lib.hid h
  clear h hs
  go_enter Tryd.func37, Tryd.ntmps37
  go_wp2
  go_region
  generalize hw2 : World.drew (World.alloc _ _) = w2
  have H2 : QW Rs w2 b at_ sg lf num cnt fst (some ⟨w.heap.size, 0, none⟩) signs 64 ∧ Own w2 w.heap.size 60 #[.pointer last, .string ⟨(encs signs).toArray⟩] ∧ Turned b w w2 := by
    subst hw2
    refine ⟨?_, ?_, ?_⟩
    · exact ((H.out.put6 (some ⟨w.heap.size, 0, none⟩))).stay (by
        show (Array.push _ _)[b]? = _
        exact Below.heap_alloc (w.setCell ⟨b, 10, none⟩ _) _ b (by simpa [World.setCell] using hin))
    · have := Own.fresh (w.setCell ⟨b, 10, none⟩ (.pointer (some ⟨w.heap.size, 0, none⟩))) 60 #[.pointer last, .string ⟨(encs signs).toArray⟩]
      rw [show (w.setCell ⟨b, 10, none⟩ (.pointer (some ⟨w.heap.size, 0, none⟩))).heap.size = w.heap.size by simp [World.setCell]] at this
      exact this
    · have ht : Turned b w (w.setCell ⟨b, 10, none⟩ (.pointer (some ⟨w.heap.size, 0, none⟩))) := (Turned.refl b w).put 10 _
      exact ht.trans (Turned.of_below (((Below.refl _ _).alloc (Nat.le_refl _) _).drew) rfl)
  have HH := Lib.hid H2.2
  obtain ⟨H2, _⟩ := H2
  clear hw2 hc c71 f71 c6 f6 f7 hin
  have c71 := H2.c71
  have f71 := H2.free 75
  have c7 := H2.sign 0 (by omega)
  have f7 := H2.free 11
  simp only [Nat.add_zero] at c7
  have HQ := Lib.hid H2
  clear H2
  go_wp2
  generalize hw3 : w2.setCell ⟨b, 75, none⟩ (.int .i64 0) = w3
  have H3 : QW Rs w3 b at_ sg lf num cnt fst (some ⟨w.heap.size, 0, none⟩) signs 0 ∧ Turned b w2 w3 := by
    subst hw3
    exact ⟨HQ.out.put71 0, (Turned.refl b w2).put 75 _⟩
  clear hw3 c71 f71 c7 f7
  have T3 := Lib.hid H3.2
  obtain ⟨H3, _⟩ := H3
  have c71 := H3.c71
  have f71 := H3.free 75
  have c7 := H3.sign 0 (by omega)
  have f7 := H3.free 11
  simp only [Nat.add_zero] at c7
  have HQ3 := Lib.hid H3
  clear H3
  go_still_tail 9, (by kernel_rfl)
  change wpList _ _ _ _ _ w3.drew
  go_wp2
  go_end0
  have hne : b ≠ w.heap.size := by have := H.out.inside; omega
  refine ⟨rfl, w.heap.size, Nat.le_refl _, ?_, ?_, ?_⟩
  · exact (((HQ3.out.putS 0 (by omega) v).put71 1)).stay rfl
  · have h3 : Turned b w2 (((w3.setCell ⟨b, 11, none⟩ (.int .i32 v)).setCell ⟨b, 75, none⟩ (.int .i64 1))) := (T3.out.put 11 _).put 75 _
    exact (h3.2.2.2.2 w.heap.size HH.out.1.inside (fun e => hne e.symm)).trans HH.out.1
  · exact HH.out.2.trans ((T3.out.put 11 _).put 75 _)

theorem QT.turned {w w' : World} {b : Nat} {at_ sg lf num cnt fst : Int} {acc : List UInt8} (h : QT Rs w b at_ sg lf num cnt fst acc) (hk : w'.heap[b]? = w.heap[b]?) (ht : Turned b w w') : QT Rs w' b at_ sg lf num cnt fst acc := by
  obtain ⟨last, signs, loose, ps, hq, hc, r⟩ := h
  exact ⟨last, signs, loose, ps, hq.stay hk, hc.stay ht, r⟩
theorem QT.stay {w w' : World} {b B : Nat} {at_ sg lf num cnt fst : Int} {acc : List UInt8} (h : QT Rs w b at_ sg lf num cnt fst acc) (hb : Below B w w') (hB : w.heap.size ≤ B) : QT Rs w' b at_ sg lf num cnt fst acc := by
  have hin : b < w.heap.size := by obtain ⟨last, signs, loose, ps, hq, _⟩ := h; exact hq.inside
  exact h.turned (hb.block b (by omega)) ⟨hb.os, hb.tape, hb.output, hb.size, fun k hk _ => hb.block k (by omega)⟩

theorem add_any (b : Nat) (at_ sg lf num cnt fst : Int) (acc : List UInt8) (v : Int) (hv : Sgn v) (w : World) (h : QT Rs w b at_ sg lf num cnt fst acc) :
    Calls Tryd.prog 37 #[.pointer (some ⟨b, 4, none⟩), .int .i32 v] w (QEnd Rs w b at_ sg lf num cnt fst (acc ++ ofB v) (.tuple #[])) := by
  obtain ⟨last, signs, loose, ps, hq, hc, hl, hs, hp, rfl⟩ := h
  have hl64 := hq.1
  by_cases hlt : loose < 64
  · refine (add_room b at_ sg lf num cnt fst last signs loose v w hq hlt).mono ?_
    rintro e w' ⟨rfl, hq', ht⟩
    have e := take_snoc_set signs loose v (by omega)
    refine ⟨rfl, ⟨last, _, _, ps, hq', hc.stay ht, by omega, ?_, hp, ?_⟩, ht⟩
    · rw [e]
      intro x hx
      rcases List.mem_append.1 hx with hx | hx
      · exact hs x hx
      · simp at hx; subst hx; exact hv
    · rw [e, encs_snoc, List.append_assoc]
  · obtain rfl : loose = 64 := by omega
    have ht64 : signs.take 64 = signs := List.take_of_length_le (by omega)
    rw [ht64] at hs ⊢
    refine (add_full b at_ sg lf num cnt fst last signs v w hq hs).mono ?_
    rintro e w' ⟨rfl, k, hk, hq', ho, ht⟩
    have hin := hq.inside
    refine ⟨rfl, ⟨some ⟨k, 0, none⟩, _, 1, ⟨(encs signs).toArray⟩ :: ps, hq', ⟨k, last, rfl, by omega, Rs.up k (by have := hc.low; omega), ho, hc.stay ht⟩, by omega, ?_, ?_, ?_⟩, ht⟩
    · have e := take_snoc_set signs 0 v (by omega)
      rw [e]
      intro x hx
      simp at hx
      subst hx
      exact hv
    · intro p hpm
      rcases List.mem_cons.1 hpm with rfl | hpm
      · have := (encs_len signs).1
        show 1 ≤ (encs signs).toArray.size
        simp
        omega
      · exact hp p hpm
    · have e := take_snoc_set signs 0 v (by omega)
      rw [e]
      simp [flatP, encs]

theorem str_info : (Tryd.prog.info? 9).map (fun i => (i.zero, i.size, i.bytes)) = some (some (.string ByteArray.empty), 1, 16) := by kernel_rfl

/-- Where Text's loop is. -/
def RelText (Rs : Rest) (W : World) (b : Nat) (all : List ByteArray) (k : Nat) (t p : Value) (wr : World) : Prop :=
  ∃ (done rest : List ByteArray) (l : Option Addr), wr.ownsRow W.heap.size 9 1 t done.length (done.map Value.string) ∧ 0 < done.length ∧ p = .pointer l ∧ Chain Rs W b l rest ∧ Below W.heap.size W wr ∧ done ++ rest = all ∧ rest.length = k

theorem flatP_rev (l : List ByteArray) : flatP l = (l.reverse.map (·.data.toList)).flatten := by
  induction l with
  | nil => rfl
  | cons p t ih => simp [flatP, ih]
theorem flatP_len (l : List ByteArray) (h : ∀ p ∈ l, 1 ≤ p.size) : l.length ≤ (flatP l).length := by
  induction l with
  | nil => simp [flatP]
  | cons p t ih =>
    have h1 := ih (fun q hq => h q (by simp [hq]))
    have h2 := h p (by simp)
    have h3 : p.data.toList.length = p.size := rfl
    simp [flatP] at h3 ⊢
    omega

theorem ret_s {a b : List UInt8} (h : a = b) : Ending.returned (.string ⟨a.toArray⟩) = .returned (.string ⟨b.toArray⟩) := by rw [h]
theorem rev_any (g cap base : Nat) (l : List ByteArray) (w : World) (h : w.ownsRow base 9 1 (.slice (some ⟨g, 0, none⟩) l.length cap) l.length (l.map Value.string)) (hl : l.length ≤ 140737488355328) :
    Calls Tryd.prog 29 #[.slice (some ⟨g, 0, none⟩) l.length cap] w fun e w' => e = .returned (.tuple #[]) ∧ w'.ownsRow base 9 1 (.slice (some ⟨g, 0, none⟩) l.length cap) l.length (l.reverse.map Value.string) ∧ ∀ (B : Nat) (w0 : World), B ≤ g → Below B w0 w → Below B w0 w' := by
  have e : l.map Value.string = (l.map (·.data.toList)).map encStr := (Lib.map_encStr l).symm
  rw [e] at h
  obtain ⟨g', cap', hv, _, _, _, _, hzl, hH⟩ := Lib.holds_of_ownsRow h (by intro e; cases e)
  injection hv with h1 _ h3
  injection h1 with h1
  injection h1 with h1
  subst h1 h3
  have hr := Tryd.slices_Reverse_string g 0 cap (l.map (·.data.toList)) w hH (by simp; omega)
  rw [List.length_map] at hr
  refine hr.mono ?_
  rintro e w' ⟨rfl, q, rfl⟩
  refine ⟨rfl, ?_, fun B w0 hB hb => Lib.below_putRow hb hB⟩
  have := Lib.ownsRow_putRow (q := q) (k := l.length) h (ys := (l.map (·.data.toList)).reverse) (by simp) (Nat.le_refl _)
  have e2 : (l.map (·.data.toList)).reverse.map encStr = l.reverse.map Value.string := by rw [← List.map_reverse, Lib.map_encStr]
  rw [List.take_of_length_le (by simp), e2] at this
  exact this

theorem join_flat (xs : List (List UInt8)) : Lib.join xs [] = xs.flatten := by
  unfold Lib.join
  induction xs with
  | nil => rfl
  | cons x t ih =>
    cases t with
    | nil => simp [List.intercalate]
    | cons y t =>
      have e : List.intercalate [] (x :: y :: t) = x ++ List.intercalate [] (y :: t) := by simp [List.intercalate, List.intersperse]
      rw [e, ih]
      simp

theorem joinNone_any (g cap base : Nat) (l : List ByteArray) (w : World) (h : w.ownsRow base 9 1 (.slice (some ⟨g, 0, none⟩) l.length cap) l.length (l.map Value.string)) (hl : ((l.map (·.data.toList)).flatten).length ≤ 140737488355328) (hn : l.length ≤ 140737488355328) :
    Calls Tryd.prog 30 #[.slice (some ⟨g, 0, none⟩) l.length cap, .string ⟨#[]⟩] w fun e w' => e = .returned (.string ⟨((l.map (·.data.toList)).flatten).toArray⟩) ∧ Below w.heap.size w w' := by
  have hc := h.cells (g := g) rfl
  rcases h.2 with ⟨e0, _⟩ | ⟨g', cap', cur, hv, hb, hg, hn1, hm, hs, ht⟩
  · cases e0
  injection hv with h1 _ h3
  injection h1 with h1
  injection h1 with h1
  subst h1 h3
  have hj := Tryd.strings_Join g 0 cap l ⟨#[]⟩ w (fun j x hx => by
    have := hc j (.string x) (by rw [List.getElem?_map, hx]; rfl)
    rw [add_none] at this
    exact this) (Array.getElem?_eq_some_iff.1 hg).1 hn hn1 (by rw [show (ByteArray.mk #[]).data.toList = [] from rfl, join_flat]; exact hl)
  rw [show (ByteArray.mk #[]).data.toList = [] from rfl, join_flat] at hj
  exact hj

set_option maxHeartbeats 2000000 in
set_option maxRecDepth 100000 in
theorem text_any (b : Nat) (at_ sg lf num cnt fst : Int) (acc : List UInt8) (W : World) (h : QT Rs W b at_ sg lf num cnt fst acc) (hacc : acc.length ≤ 1000000000000) :
    Calls Tryd.prog 20 #[.pointer (some ⟨b, 4, none⟩)] W fun e w' => e = .returned (.string ⟨acc.toArray⟩) ∧ Below W.heap.size W w' := by
  obtain ⟨last, signs, loose, ps, hq, hc, hl, hs, hp, rfl⟩ := h
  have hl64 := hq.1
  have c71 := hq.c71
  have c6 := hq.c6
  have hin := hq.inside
  have hcv := conv_runes W.drew b at_ sg lf num cnt fst last signs loose loose (hq.stay rfl) hl hs
  generalize hx : encs (signs.take loose) = x at *
  have hl1 : (loose : Int) ≤ 64 := by omega
  have hl0 : (0 : Int) ≤ loose := by omega
  have HC := Lib.hid hc
  have HP := Lib.hid hp
  have HA := Lib.hid hacc
  clear hc hp hacc hs hx hq hl64
  go_enter Tryd.func20, Tryd.ntmps20
  go_wp2
  go_region
  obtain ⟨i0, hi, hz0, hz1, hz2⟩ := info_parts str_info
  go_wp2
  go_loopg [3, 4] ps.length (fun k t p wr => RelText Rs W b (⟨x.toArray⟩ :: ps) k t p wr)
  case atStart =>
    refine ⟨[⟨x.toArray⟩], ps, last, ?_, by simp, rfl, HC.out, (below1 W _).drew, rfl, rfl⟩
    refine ⟨rfl, .inr ⟨W.heap.size, 1, #[.string ⟨x.toArray⟩], rfl, Nat.le_refl _, ?_, by simp, by simp [maxLen], rfl, rfl⟩⟩
    exact Own.fresh W 9 #[.string ⟨x.toArray⟩]
  case round =>
    obtain ⟨done, rest, l, hown, hd, rfl, hch, hbel, hall, hk⟩ := hrel
    cases rest with
    | cons q rest =>
      obtain ⟨g, nx, rfl, hgb, _, ho, hch⟩ := hch
      have ho1 := ho.stay hbel ho.inside
      have hgin := ho.inside
      have d0 := ho1.at 0
      have d1 := ho1.at 1
      simp at d0 d1
      have HO := Lib.hid ho
      have HD := Lib.hid hch
      have HALL := Lib.hid hall
      have HB := Lib.hid hbel
      have hsz := hbel.size
      have hdl : done.length ≤ 1000000000001 := by
        have h1 := flatP_len ps HP.out
        have h2 := HA.out
        have h3 := congrArg List.length hall
        simp at h2 h3
        omega
      clear ho ho1 hch hall hbel
      go_wp2_with (at_builtin; refine wpList_append_own _ rfl _ _ 58 rfl W.heap.size 9 i0 (.string ByteArray.empty) 1 16 Tryd.underlying58 hi hz0 hz1 hz2 rfl (by decide) _ _ _ rfl (hown.alloc _) ⟨wr.heap.size, 0, none⟩ 1 1 [.string q] rfl rfl ?c1 ?c2 ?c3 ?c4 ?c5 ?_)
      case c1 =>
        intro j u hj
        match j, hj with
        | 0, hj => simp at hj; subst hj; simp [Addr.add]
        | (j + 1), hj => simp at hj
      case c2 => intro u hu; simp at hu; subst hu; rfl
      case c3 => unfold maxLen; omega
      case c4 => omega
      case c5 => simp; omega
      intro v' w2 hown' hgrow _
      have hb2 : Below W.heap.size W w2 := (HB.out.alloc hsz _).grown hgrow (by simp; omega) (fun k hk => (hown.lt k hk).1)
      have ho2 := HO.out.stay hb2 hgin
      have d0 := ho2.at 0
      have d1 := ho2.at 1
      simp at d0 d1
      have HR := Lib.hid (show RelText Rs W b (⟨x.toArray⟩ :: ps) rest.length v' (.pointer nx) w2 from ⟨done ++ [q], rest, nx, by simpa using hown', by simp, rfl, HD.out, hb2, by rw [List.append_assoc]; exact HALL.out, rfl⟩)
      clear hb2 ho2 hown' hgrow hown
      go_wp2
      go_roundg rest.length
      case measure => simp at hk; omega
      case rel => exact HR.out
    | nil =>
      have hl0 : l = none := hch.1
      subst hl0
      rw [List.append_nil] at hall
      have hfl : ((done.reverse.map (·.data.toList)).flatten) = flatP ps ++ x := by
        rw [← flatP_rev, hall]
        rfl
      have hdl : done.length ≤ 1000000000001 := by
        have h1 := flatP_len ps HP.out
        have h2 := HA.out
        have h3 := congrArg List.length hall
        simp at h2 h3
        omega
      have HFL := Lib.hid hfl
      rw [← hfl] at HA
      rcases hown.2 with ⟨_, h0⟩ | ⟨g, cap, cur, rfl, _⟩
      · omega
      have hgB := (hown.lt g rfl).1
      have HR := Lib.hid (rev_any g cap W.heap.size done wr hown (by omega))
      have HB := Lib.hid hbel
      clear hown hall hfl hch hbel hcv
      go_wp2_with (first
        | (go_at_call 29; refine HR.out.mono ?_; rintro e w2 ⟨rfl, hown2, hb2⟩; have HB2 := Lib.hid (hb2 W.heap.size W hgB HB.out); have HJ := joinNone_any g cap W.heap.size done.reverse w2 (by rw [List.length_reverse]; exact hown2) (by have := HA.out; omega) (by simp; omega); rw [List.length_reverse] at HJ; replace HJ := Lib.hid HJ; clear hown2 hb2)
        | (go_at_call 30; refine HJ.out.mono ?_; rintro e w3 ⟨rfl, hb3⟩))
      go_ret
      exact ⟨ret_s (by rw [← HFL.out, List.map_reverse]), HB2.out.trans (hb3.mono HB2.out.size)⟩

end Go.Proofs.YtoahnbjpmbhpfaaDoor.K4
