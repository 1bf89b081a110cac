/- Layer 13: what package path is proved to do, all together; what the rows' lists give; the three walks. -/
import Derived.Test.YtgcknlfpedanpaaDoorJ21
import Derived.Lib.LaidTab
import Derived.SizedLaws
import Derived.Test.YtgcknlfpedanpaaDoorRows
import Derived.Test.YtgcknlfpedanpaaDoorJ03
import Derived.Test.YtgcknlfpedanpaaDoorJ07
import Derived.Test.YtgcknlfpedanpaaDoorJ08
import Derived.Test.YtgcknlfpedanpaaDoorJ09
import Derived.Test.YtgcknlfpedanpaaDoorJ12
import Derived.Test.YtgcknlfpedanpaaDoorJ13
import Derived.Test.YtgcknlfpedanpaaDoorJ15
import Derived.Test.YtgcknlfpedanpaaDoorJ17
import Derived.Test.YtgcknlfpedanpaaDoorJ18
import Derived.Test.YtgcknlfpedanpaaDoorJ20
import Derived.ProofKit
import Derived.OpenShut
import Derived.ShutString
import Derived.ChangeOld
import Derived.Deep.Slices
import Derived.Lib.SmallJoins
namespace Go.Proofs.YtgcknlfpedanpaaDoor
open Go.RowKit Go.ChangeShapes
set_option linter.unusedVariables false

theorem pathC_pow : PathC Pow13 where
  stay := fun w w' h hb => h.stay hb
  right := right13p_any
  put := fun l A n c w h hx hw => put13p_any l A n c w h hx (by omega)
  name := fun s w hs => name_any s w (by omega)
theorem pathC_tab : PathC Tab13 where
  stay := fun w w' h hb => h.stay hb
  right := right13p_any
  put := fun l A n c w h hx hw => put13p_any l A n c w h.1 hx (by omega)
  name := fun s w hs => name_any s w (by omega)
theorem parC_tab : ParC Tab13 where
  parse := fun s w h hs => parse13p_any s w h hs

theorem laidOut13 : laidOutB Tryd.prog = true := by kernel_rfl
theorem pow_of {W : World} {laid : List (String × DataW Unit)} (hn : (laid.all fun x => x.2.handleName?.isNone) = true) (h : laidMetH Tryd.prog laid W) (hm : ("internal/strconv.uint64pow10", Rows.laid_internal_strconv_uint64pow10) ∈ laid) : Pow13 W := by
  obtain ⟨t, ho⟩ := laid_own laidOut13 hn h hm (l := Lib.pow10Tab.map fun z => Value.int .u64 z) (by kernel_rfl) (by simp [Lib.pow10Tab]) pow_global
  unfold Pow13 Lib.TabIs World.var?
  rw [pow_global]
  unfold Own at ho
  simp [ho]
theorem trod_iface_is {H : Type} {enc : TypeId × Value → H} {P : Program} {w : World} {base fuel : Nat} {sp : Nat → Bool} {t : TypeId} {ms : Array (String × TypeId)} {cs : List Value} {nm : String} {d : DataW H} {p : List MemPlace}
    (hi : P.underlying t = some (.interface ms)) (h : DataW.trod enc P w base sp false fuel t cs = some (.iface nm d, p)) : ∃ u v, cs = [.iface u v] := by
  cases fuel with
  | zero => simp [DataW.trod] at h
  | succ n =>
    unfold DataW.trod at h
    rw [hi] at h
    split at h
    all_goals first
      | exact ⟨_, _, rfl⟩
      | (exfalso; cases h; done)
      | (exfalso; simp_all; done)
theorem laidVars_iface {P : Program} {W : World} {name nm : String} {d : DataW Unit} {g : Nat} {ti : TypeId} {ms : Array (String × TypeId)} (hg : P.globalNamed name = some g) (ht : (P.globals[g]?).map (·.type) = some ti) (hi : P.underlying ti = some (.interface ms)) :
    ∀ {laid : List (String × DataW Unit)} {ps : List MemPlace}, DataW.LaidVars P W laid ps → (name, .iface nm d) ∈ laid → ∃ t p, W.var? P name = some #[.iface t p]
  | [], _, _, hm => by cases hm
  | (n, e) :: r, ps, ⟨g', t, cs, fuel, p, q, h1, h2, h3, h4, h5, h6⟩, hm => by
    rcases List.mem_cons.1 hm with h | h
    · obtain ⟨rfl, rfl⟩ := Prod.mk.inj h
      obtain rfl := Option.some.inj (hg.symm.trans h1)
      obtain rfl := Option.some.inj (ht.symm.trans h2)
      obtain ⟨u, v, hc⟩ := trod_iface_is hi h4
      refine ⟨u, v, ?_⟩
      rw [h3]
      congr 1
      exact Array.toList_inj.1 hc
    · exact laidVars_iface hg ht hi h5 h
theorem err_type2 : (Tryd.prog.globals[2]?).map (·.type) = some 43 := by kernel_rfl
theorem err_type3 : (Tryd.prog.globals[3]?).map (·.type) = some 43 := by kernel_rfl
theorem err_of {W : World} {laid : List (String × DataW Unit)} (hn : (laid.all fun x => x.2.handleName?.isNone) = true) (h : laidMetH Tryd.prog laid W) (h1 : ("strconv.ErrSyntax", Rows.laid_strconv_ErrSyntax) ∈ laid) (h2 : ("strconv.ErrRange", Rows.laid_strconv_ErrRange) ∈ laid) : Err13 W := by
  have h' : laidMet Tryd.prog laid W := by
    unfold laidMetH at h
    have : (laid.filter fun x => x.2.handleName?.isSome) = [] := by
      rw [List.filter_eq_nil_iff]
      intro x hx
      have := List.all_eq_true.1 hn x hx
      simpa using this
    rw [this] at h
    exact h
  obtain ⟨ps, hv, _, _⟩ := h'
  exact ⟨laidVars_iface syn_global err_type2 Tryd.underlying43 hv h1, laidVars_iface rng_global err_type3 Tryd.underlying43 hv h2⟩
theorem tab_of_puts {W : World} (h : laidMetH Tryd.prog Rows.pathPutsRow.laid W) : Pow13 W := pow_of (by kernel_rfl) h (.tail _ (.tail _ (.head _)))
theorem tab_of_parses {W : World} (h : laidMetH Tryd.prog Rows.pathParsesRow.laid W) : Tab13 W :=
  ⟨pow_of (by kernel_rfl) h (.tail _ (.tail _ (.head _))), err_of (by kernel_rfl) h (.tail _ (.tail _ (.tail _ (.tail _ (.head _))))) (.tail _ (.tail _ (.tail _ (.head _))))⟩
theorem tab_of_back {W : World} (h : laidMetH Tryd.prog Rows.pathBackRow.laid W) : Tab13 W :=
  ⟨pow_of (by kernel_rfl) h (.tail _ (.tail _ (.head _))), err_of (by kernel_rfl) h (.tail _ (.tail _ (.tail _ (.tail _ (.head _))))) (.tail _ (.tail _ (.tail _ (.head _))))⟩

theorem pathParses_walk (s : ByteArray) (W : World) (hT : Tab13 W) (hs : s.size ≤ maxLen) :
    Calls Tryd.prog 4 #[.string s] W fun e w' => e = .returned (.bool true) ∧ Below W.heap.size W w' := pathParses_core pathC_tab parC_tab s W hT hs
theorem pathPuts_walk (A : Option Addr) (n c : Nat) (l : List Pst) (s : ByteArray) (W : World) (hT : Pow13 W) (hx : RdP W A n l ∧ ∀ x ∈ l, x.name.length ≤ 140737488351232) (hs : s.size ≤ maxLen) :
    Calls Tryd.prog 3 #[.slice A n c, .string s] W fun e w' => e = .returned (.bool true) ∧ Below W.heap.size W w' := pathPuts_core pathC_pow l A n c s W hT hx.1 hx.2 hs
theorem pathBack_walk (A : Option Addr) (n c : Nat) (l : List Pst) (B : Option Addr) (n' c' : Nat) (m : List Pst) (s : ByteArray) (W : World) (hT : Tab13 W) (hx : RdP W A n l ∧ ∀ x ∈ l, x.name.length ≤ 140737488351232) (hy : RdP W B n' m ∧ ∀ x ∈ m, x.name.length ≤ 140737488351232) (hs : s.size ≤ maxLen) :
    Calls Tryd.prog 5 #[.slice A n c, .slice B n' c', .string s] W fun e w' => e = .returned (.bool true) ∧ Below W.heap.size W w' := pathBack_core pathC_tab parC_tab l m A B n n' c c' s W hT hx.1 hy.1 hx.2 hy.2 hs

end Go.Proofs.YtgcknlfpedanpaaDoor

namespace Go.Proofs.YtgcknlfpedanpaaDoor
open Go.ChangeShapes Go.WideShapes Go.ChangeAt Go.RowKit Go.Deep
set_option linter.unusedVariables false
set_option linter.unusedSimpArgs false

theorem list3 {α : Type} {l : List α} (h : l.length = 3) : ∃ c0 c1 c2, l = [c0, c1, c2] := by
  match l, h with
  | [c0, c1, c2], _ => exact ⟨c0, c1, c2, rfl⟩
theorem stp_cells : Tryd.prog.cellsOf 26 = 3 := by kernel_rfl
theorem stp_int_cells : Tryd.prog.cellsOf 3 = 1 := by kernel_rfl
theorem stp_str_cells : Tryd.prog.cellsOf 9 = 1 := by kernel_rfl
theorem stp_bool_cells : Tryd.prog.cellsOf 4 = 1 := by kernel_rfl

theorem weights_in {H : Type} {P : Program} {e : TypeId} : ∀ {l : List (DataW H)} {d : DataW H}, d ∈ l → ∀ n ∈ d.weights P e, n ∈ DataW.weightsAll P e l
  | [], _, h, _, _ => by cases h
  | x :: r, d, h, n, hn => by
    rw [DataW.weightsAll, List.mem_append]
    rcases List.mem_cons.1 h with rfl | h
    · exact .inl hn
    · exact .inr (weights_in h n hn)
theorem open_step {H : Type} {enc : TypeId × Value → H} {W : World} {base : Nat} {sp : Nat → Bool} {held : Bool} {n : Nat} {cs : List Value} {x : DataW H × List MemPlace} (hlen : cs.length = 3) (hf : DataW.trod enc Tryd.prog W base sp held n 26 cs = some x) :
    ∃ s : Pst, cs = [.bool s.named, .string ⟨s.name.toArray⟩, .int .i64 s.index] ∧ s.name.length ≤ maxLen ∧ s.name.length ∈ x.1.weights Tryd.prog 26 := by
  obtain ⟨c0, c1, c2, rfl⟩ := list3 hlen
  obtain ⟨xs, m, _, hxx, _, hl, hf⟩ := DataW.trod_struct Tryd.underlying26 hf
  obtain ⟨y0, y1, y2, rfl⟩ := list3 hl
  have f0 := hf 0 _ rfl
  have f1 := hf 1 _ rfl
  have f2 := hf 2 _ rfl
  simp [Value.cells, stp_int_cells, stp_str_cells, stp_bool_cells] at f0 f1 f2
  obtain ⟨a0, e0, _⟩ := DataW.trod_bool Tryd.underlying4 f0
  obtain ⟨a1, e1, z1, hz⟩ := DataW.trod_string Tryd.underlying9 f1
  obtain ⟨a2, e2, _⟩ := DataW.trod_int Tryd.underlying3 f2
  simp at e0 e1 e2
  subst e0 e1 e2
  refine ⟨⟨a0, a1.data.toList, a2⟩, rfl, hz, ?_⟩
  rw [hxx]
  show a1.data.toList.length ∈ DataW.weights Tryd.prog 26 (.agg [y0.1, y1.1, y2.1])
  rw [DataW.weights, Tryd.underlying26, z1]
  exact DataW.weights_mem_each (j := 1) (t := 9) (d := .lit (.string a1.data.toList)) rfl rfl _ (by simp [DataW.weights])

/-- A slice of steps, opened. -/
theorem open_steps {H : Type} {enc : TypeId × Value → H} {W : World} {base : Nat} {sp : Nat → Bool} {held : Bool} {A : Option Addr} {len cap : Nat} {d : DataW H} {ps : List MemPlace}
    (hd : DataW.Trod enc Tryd.prog W base sp held 22 (.slice A len cap) d ps) : ∃ l, RdP W A len l ∧ ∀ s ∈ l, s.name.length ≤ maxLen ∧ s.name.length ∈ d.weights Tryd.prog 22 := by
  obtain ⟨fuel, hf⟩ := hd
  rcases open_slice Tryd.underlying22 hf with ⟨hcs, _⟩ | ⟨a, len', cap', m, n, D, Pl, hcs, hb, hl, hm, hmm, hx, hall⟩
  · simp [Value.cells] at hcs
    obtain ⟨rfl, rfl, rfl⟩ := hcs
    exact ⟨[], ⟨rfl, fun h => absurd h (by omega)⟩, fun s h => by cases h⟩
  · simp [Value.cells] at hcs
    obtain ⟨rfl, rfl, rfl⟩ := hcs
    have hlm : len ≤ m := by rw [hmm]; split <;> omega
    have hst : ∀ i, i < len → ∃ s : Pst, (W.cell? (a.add (i * 3)) = some (.bool s.named) ∧ W.cell? ⟨(a.add (i * 3)).block, (a.add (i * 3)).off + 1, none⟩ = some (.string ⟨s.name.toArray⟩) ∧ W.cell? ⟨(a.add (i * 3)).block, (a.add (i * 3)).off + 2, none⟩ = some (.int .i64 s.index)) ∧ s.name.length ≤ maxLen ∧ s.name.length ∈ d.weights Tryd.prog 22 := by
      intro i hi
      obtain ⟨cs', hc, ht⟩ := hall i (by omega)
      rw [stp_cells] at hc
      obtain ⟨_, hlen, hat⟩ := World.cells?_some hc
      obtain ⟨s, rfl, hz, hk⟩ := open_step hlen ht
      have hd : s.name.length ∈ d.weights Tryd.prog 22 := by
        have e : d = .slice ((List.range len).map D) ((List.range (m - len)).map fun j => D (len + j)) := congrArg Prod.fst hx
        rw [e, DataW.weights, Tryd.underlying22]
        exact List.mem_cons_of_mem _ (List.mem_append_left _ (weights_in (e := 26) (d := D i) (List.mem_map.2 ⟨i, List.mem_range.2 hi, rfl⟩) _ hk))
      have h0 := hat 0 (by omega)
      have h1 := hat 1 (by omega)
      have h2 := hat 2 (by omega)
      rw [addP_zero] at h0
      rw [addP_succ] at h1 h2
      exact ⟨s, ⟨h0, h1, h2⟩, hz, hd⟩
    obtain ⟨f, hfn⟩ := @choose_lt _ ⟨(⟨false, [], 0⟩ : Pst)⟩ _ _ hst
    refine ⟨(List.range len).map f, ⟨by simp, fun h0 => ⟨a, rfl, ?_, fun i s hs => ?_⟩⟩, fun s hs => ?_⟩
    · have h1 := (hfn 0 h0).1.1
      rw [Nat.zero_mul, addP_zero] at h1
      exact cell_inside h1
    · have hi : i < len := by
        have := (List.getElem?_eq_some_iff.1 hs).1
        simpa using this
      have e : s = f i := by
        rw [List.getElem?_map, List.getElem?_range hi] at hs
        exact (Option.some.inj hs).symm
      rw [e]
      exact (hfn i hi).1
    · obtain ⟨i, hi, rfl⟩ := List.mem_map.1 hs
      exact (hfn i (List.mem_range.1 hi)).2

/-- The form's own reach, of a name within an argument. -/
theorem name_reach {H : Type} {ts : List TypeId} {ds : List (DataW H)} (h : (DataW.weightsEach Tryd.prog ts ds).all (· ≤ reachBytes) = true) {j : Nat} {t : TypeId} {d : DataW H} (ht : ts[j]? = some t) (hd : ds[j]? = some d) {n : Nat} (hn : n ∈ d.weights Tryd.prog t) : n ≤ 140737488351232 :=
  of_decide_eq_true (List.all_eq_true.1 h _ (DataW.weights_mem_each ht hd n hn))

end Go.Proofs.YtgcknlfpedanpaaDoor
