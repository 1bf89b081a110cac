/- Acts that came in as an argument. -/
import Derived.Test.YtfkbmecmancgpaaPck18
import Derived.ProofKit
import Derived.OpenShut
import Derived.ShutString
import Derived.ChangeOld
import Derived.Deep.Slices
import Derived.Lib.SmallJoins
import Derived.SizedLaws
import Derived.Deep.Grids
namespace Go.Proofs.Ytfkbmecmancgpaa
open Go.ChangeShapes Go.WideShapes Go.ChangeAt Go.RowKit Go.Deep
set_option linter.unusedVariables false
set_option linter.unusedSimpArgs false

theorem af_list5 {α : Type} {l : List α} (h : l.length = 5) : ∃ c0 c1 c2 c3 c4, l = [c0, c1, c2, c3, c4] := by
  match l, h with
  | [c0, c1, c2, c3, c4], _ => exact ⟨c0, c1, c2, c3, c4, rfl⟩
theorem af_act_cells : Try.prog.cellsOf 33 = 5 := by kernel_rfl
theorem af_ints_cells : Try.prog.cellsOf 27 = 1 := by kernel_rfl
theorem af_int_cells : Try.prog.cellsOf 3 = 1 := by kernel_rfl
theorem af_bool_cells : Try.prog.cellsOf 4 = 1 := by kernel_rfl
theorem addf_succ (ad : Addr) (m : Nat) : ad.add (m + 1) = ⟨ad.block, ad.off + (m + 1), none⟩ := by unfold Addr.add; simp
theorem addf_zero (ad : Addr) : ad.add 0 = ad := by unfold Addr.add; simp

/-- A slice of numbers, opened. -/
theorem open_nums {H : Type} {enc : TypeId × Value → H} {W : World} {base : Nat} {sp : Nat → Bool} {held : Bool} {n : Nat} {A : Option Addr} {len cap : Nat} {x : DataW H × List MemPlace} (hf : DataW.trod enc Try.prog W base sp held n 27 [.slice A len cap] = some x) :
    ∃ l : List Int, Rd W W.heap.size A len (l.map (Value.int .i64)) ∧ (∀ z ∈ l, (Lit.int .i64 z).wf = true) ∧ len ≤ cap ∧ cap ≤ maxLen := by
  rcases open_ints Try.underlying27 Try.underlying3 (by kernel_rfl) hf with ⟨hcs, _⟩ | ⟨a, l, c, zs, hcs, _, hl, hm, hz, _, hcell, hwz⟩
  · simp at hcs
    obtain ⟨rfl, rfl, rfl⟩ := hcs
    exact ⟨[], Rd.zero _ _ _, (fun z h => by cases h), Nat.le_refl _, by unfold maxLen; omega⟩
  · simp at hcs
    obtain ⟨rfl, rfl, rfl⟩ := hcs
    have hlz : len ≤ zs.length := by
      rw [hz]
      split <;> omega
    refine ⟨zs.take len, ⟨by simp; omega, fun hn => ⟨a, rfl, ?_, fun j u hu => ?_⟩⟩, fun z h => hwz z (List.mem_of_mem_take h), hl, hm⟩
    · have := cell_inside (hcell 0 (by omega))
      rwa [add_block] at this
    · rw [List.getElem?_map, List.getElem?_take] at hu
      split at hu
      · rename_i hj
        have hj' : j < zs.length := by omega
        rw [hcell j hj']
        rw [List.getElem?_eq_getElem hj'] at hu
        simpa [hj'] using hu
      · cases hu

theorem open_act {H : Type} {enc : TypeId × Value → H} {W : World} {base : Nat} {sp : Nat → Bool} {held : Bool} {n : Nat} {cs : List Value} {x : DataW H × List MemPlace} (hlen : cs.length = 5) (hf : DataW.trod enc Try.prog W base sp held n 33 cs = some x) :
    ∃ a : ActV, cs = [.int .i64 a.kind, .int .i64 a.x, .int .i64 a.y, .slice a.A a.n a.c, .bool a.yes] ∧ ActOk W a := by
  obtain ⟨c0, c1, c2, c3, c4, rfl⟩ := af_list5 hlen
  obtain ⟨xs, m, _, hxx, _, hl, hf⟩ := DataW.trod_struct Try.underlying33 hf
  obtain ⟨y0, y1, y2, y3, y4, rfl⟩ := af_list5 hl
  have f0 := hf 0 _ rfl
  have f1 := hf 1 _ rfl
  have f2 := hf 2 _ rfl
  have f3 := hf 3 _ rfl
  have f4 := hf 4 _ rfl
  simp [Value.cells, af_int_cells, af_ints_cells, af_bool_cells] at f0 f1 f2 f3 f4
  obtain ⟨a0, e0, w0⟩ := DataW.trod_int Try.underlying3 f0
  obtain ⟨a1, e1, w1⟩ := DataW.trod_int Try.underlying3 f1
  obtain ⟨a2, e2, w2⟩ := DataW.trod_int Try.underlying3 f2
  obtain ⟨a4, e4, _⟩ := DataW.trod_bool Try.underlying4 f4
  simp at e0 e1 e2 e4
  subst e0 e1 e2 e4
  obtain ⟨B, k, c, rfl⟩ : ∃ B k c, c3 = .slice B k c := by
    rcases open_slice Try.underlying27 f3 with ⟨hcs, _⟩ | ⟨a, len', cap', m, n', D, Pl, hcs, _⟩
    · simp at hcs; exact ⟨none, 0, 0, hcs⟩
    · simp at hcs; exact ⟨some a, len', cap', hcs⟩
  obtain ⟨l, h1, h2, h3, h4⟩ := open_nums f3
  exact ⟨⟨a0, a1, a2, B, k, c, l, a4⟩, rfl, ⟨h1, w1.2, w2.2, w0.2, h2, h3, h4⟩⟩

/-- A slice of acts, opened. -/
theorem open_acts {H : Type} {enc : TypeId × Value → H} {W : World} {base : Nat} {sp : Nat → Bool} {held : Bool} {A : Option Addr} {len cap n : Nat} {x : DataW H × List MemPlace}
    (hf : DataW.trod enc Try.prog W base sp held n 22 [.slice A len cap] = some x) : ∃ acts : List ActV, acts.length = len ∧ ActsAt W A acts := by
  rcases open_slice Try.underlying22 hf with ⟨hcs, e⟩ | ⟨a, len', cap', m, n', D, Pl, hcs, hb, hl, hm, hmm, hx, hall⟩
  · simp at hcs
    obtain ⟨rfl, rfl, rfl⟩ := hcs
    exact ⟨[], rfl, fun h => absurd h (by simp), fun a h => by cases h⟩
  · simp at hcs
    obtain ⟨rfl, rfl, rfl⟩ := hcs
    have hlm : len ≤ m := by rw [hmm]; split <;> omega
    have hst : ∀ i, i < len → ∃ y : ActV, ActAt W (a.add (i * 5)) y ∧ ActOk W y := by
      intro i hi
      obtain ⟨cs', hc, ht⟩ := hall i (by omega)
      rw [af_act_cells] at hc
      obtain ⟨_, hlen, hat⟩ := World.cells?_some hc
      obtain ⟨s, rfl, hz⟩ := open_act hlen ht
      have h0 := hat 0 (by omega)
      have h1 := hat 1 (by omega)
      have h2 := hat 2 (by omega)
      have h3 := hat 3 (by omega)
      have h4 := hat 4 (by omega)
      rw [addf_zero] at h0
      rw [addf_succ] at h1 h2 h3 h4
      exact ⟨s, ⟨h0, h1, h2, h3, h4⟩, hz⟩
    obtain ⟨f, hfn⟩ := @choose_lt _ ⟨(⟨0, 0, 0, none, 0, 0, [], false⟩ : ActV)⟩ _ _ hst
    refine ⟨(List.range len).map f, by simp, ⟨fun h0 => ⟨a, rfl, ?_, fun i h => ?_⟩, fun y hy => ?_⟩⟩
    · have h0' : 0 < len := by simpa using h0
      have h1 := (hfn 0 h0').1.1
      rw [Nat.zero_mul, addf_zero] at h1
      exact cell_inside h1
    · have hi : i < len := by simpa using h
      simp only [List.getElem_map, List.getElem_range]
      exact (hfn i hi).1
    · obtain ⟨i, hi, rfl⟩ := List.mem_map.1 hy
      exact (hfn i (by simpa using hi)).2

/-- Bools that came in. -/
def IsBools (w : World) (A : Option Addr) (len cap : Nat) (l : List Bool) : Prop :=
  (A = none ∧ len = 0 ∧ cap = 0 ∧ l = []) ∨
  ∃ ad : Addr, A = some ad ∧ len ≤ cap ∧ l.length = len ∧ ∀ i, i < len → w.cell? (ad.add i) = some (.bool (l.getD i false))
theorem IsBools.rd {w : World} {A : Option Addr} {len cap : Nat} {l : List Bool} (h : IsBools w A len cap l) : Rd w w.heap.size A len (l.map Value.bool) := by
  rcases h with ⟨rfl, rfl, rfl, rfl⟩ | ⟨ad, rfl, hl, hz, hc⟩
  · exact Rd.zero _ _ _
  · refine ⟨by simpa using hz, fun hn => ⟨ad, rfl, ?_, fun j u hu => ?_⟩⟩
    · have := cell_inside (hc 0 hn)
      rwa [add_block] at this
    · have hj : j < l.length := by simpa using (List.getElem?_eq_some_iff.1 hu).1
      rw [List.getElem?_map, List.getElem?_eq_getElem hj] at hu
      rw [hc j (by omega)]
      simpa [hj] using hu
end Go.Proofs.Ytfkbmecmancgpaa
