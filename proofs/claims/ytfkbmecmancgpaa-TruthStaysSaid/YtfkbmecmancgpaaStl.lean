/- A book: delete and store in its map at an operation; settle. -/
import Derived.Test.YtfkbmecmancgpaaHear
import Derived.Deep.LoopGhost
namespace Go.Proofs.Ytfkbmecmancgpaa
open Go.RowKit
set_option linter.unusedVariables false
set_option linter.unusedSimpArgs false

theorem wpList_del_opm (w : World) {ops : Array Oper} {rest : List Oper} {o : Oper} {a : Act} {Q : Exit → Act → World → Prop} (hg : o.guard = none) (m x : Operand)
    (hop : o.op = Op.call { callee := Callee.builtin Builtin.delete, args := #[m, x], argTypes := #[42, 3] })
    (b n : Nat) (f : Nat → Option Nat) (hm : a.eval m = .map (some b)) (hown : Opm w b n f) (y : Nat) (hx : a.eval x = .int .i64 y) (hy : y ≤ 1000000)
    (hK : ∀ w', Opm w' b n (fun z => if z = y then none else f z) → w.grownBy w' (some b) → wpList Try.prog ops Q rest (a.put o.dst (.tuple #[])) w') : wpList Try.prog ops Q (o :: rest) a w := by
  refine wpList_plain hg fun K' hK' => ?_
  obtain ⟨w', hrun, r1, r2⟩ := opm_del hown hy o.type
  unfold Oper.wp execOp
  simp only [hop, resolve, invoke, builtin, Sem.run_bind, Sem.run_pure, Result.andThen_ok, List.map_toArray, List.map_cons, List.map_nil, hm, hx, hrun]
  exact hK' _ _ (hK w' r1 r2)
theorem wpList_put_opm (w : World) {ops : Array Oper} {rest : List Oper} {o : Oper} {a : Act} {Q : Exit → Act → World → Prop} (hg : o.guard = none) (m x v : Operand)
    (hop : o.op = Op.mapUpdate 42 m x v)
    (b n : Nat) (f : Nat → Option Nat) (hm : a.eval m = .map (some b)) (hown : Opm w b n f) (y p : Nat) (hx : a.eval x = .int .i64 y) (hv : a.eval v = .pointer (some ⟨p, 0, none⟩)) (hy : y ≤ 1000000) (hn : n ≤ 1000000)
    (hK : ∀ w', Opm w' b (n + 1) (fun z => if z = y then some p else f z) → w.grownBy w' (some b) → wpList Try.prog ops Q rest (a.put o.dst undef) w') : wpList Try.prog ops Q (o :: rest) a w := by
  refine wpList_plain hg fun K' hK' => ?_
  obtain ⟨w', hrun, r1, r2⟩ := opm_put (p := p) hown hy hn
  unfold Oper.wp
  simp [execOp, hop, hm, hx, hv, hrun, Result.andThen]
  exact hK' _ _ (hK w' r1 r2)

theorem touch_grown {w w' : World} {row : Option Nat} (h : w.grownBy w' row) : Touch (fun k => row = some k) w w' :=
  ⟨h.os, h.tape, h.output, h.size, fun k hk hn => h.block k hk (fun e => hn e.symm)⟩

theorem int_info : (Try.prog.info? 3).map (fun i => (i.zero, i.size, i.bytes)) = some (some (.int .i64 0), 1, 8) := by kernel_rfl
theorem nums_one (l : List Nat) : ∀ u ∈ nums l, u.oneCell' = true := by
  intro u hu
  obtain ⟨n, _, rfl⟩ := List.mem_map.1 hu
  rfl
theorem nums_len (l : List Nat) : (nums l).length = l.length := List.length_map _
theorem nums_app (l m : List Nat) : nums (l ++ m) = nums l ++ nums m := List.map_append

section
variable {w w' : World} {b : Nat} {tag : Nat → Nat} {s : St18} {vv : Value} {mb : Nat} {pb : Nat → Nat} {uv : Nat → Value}

/-- A thing is struck from the map. -/
theorem BkR.strike (h : BkR w b tag s vv mb pb uv) (x : Nat) (hm : Opm w' mb s.vals.length (fun z => if z = x then none else (s.opn z).map fun _ => pb z)) (hg : w.grownBy w' (some mb)) :
    BkR w' b tag (s.setOpn x none) vv mb pb uv ∧ Touch (fun k => tag k = 3) w w' := by
  have ht := touch_grown hg
  have hT := h.tmap
  have ne : ∀ k, tag k ≠ 3 → ¬ (some mb = some k) := by
    intro k hk e
    injection e with e
    exact hk (e ▸ hT)
  have hx : ∀ y t, (s.setOpn x none).opn y = some t → s.opn y = some t := by
    intro y t hy
    rw [opn_setOpn] at hy
    by_cases e : y = x
    · rw [if_pos e] at hy; cases hy
    · rw [if_neg e] at hy; exact hy
  refine ⟨?_, ht.mono (fun k _ e => by injection e with e; rw [← e]; exact hT)⟩
  exact {
    book := ht.own h.book (ne _ (by rw [h.tbook]; omega))
    tbook := h.tbook
    row := ht.row h.row (fun g hg => ne _ (by rw [h.trow g hg]; omega))
    trow := h.trow
    map := by
      have : (fun y => ((s.setOpn x none).opn y).map fun _ => pb y) = (fun z => if z = x then none else (s.opn z).map fun _ => pb z) := by
        funext y
        rw [opn_setOpn]
        by_cases e : y = x
        · rw [if_pos e, if_pos e]; rfl
        · rw [if_neg e, if_neg e]
      show Opm w' mb s.vals.length (fun y => ((s.setOpn x none).opn y).map fun _ => pb y)
      rw [this]
      exact hm
    tmap := h.tmap
    cell := fun y t hy => ht.own (h.cell y t (hx y t hy)) (ne _ (by rw [h.tcell y t (hx y t hy)]; omega))
    tcell := fun y t hy => h.tcell y t (hx y t hy)
    urow := fun y t hy => ht.row (h.urow y t (hx y t hy)) (fun g hg => ne _ (by rw [h.turow y t (hx y t hy) g hg]; omega))
    turow := fun y t hy => h.turow y t (hx y t hy)
    live := fun k hk => Nat.lt_of_lt_of_le (h.live k hk) ht.size }
end

/-- How many are open. -/
def opnN (s : St18) (n : Nat) : Nat := (List.range n).countP (fun y => (s.opn y).isSome)
theorem opnN_same {s s' : St18} {n : Nat} (h : ∀ y, (s'.opn y).isSome = (s.opn y).isSome) : opnN s' n = opnN s n := by
  unfold opnN
  apply List.countP_congr
  intro y _
  rw [h y]
theorem countP_less {f g : Nat → Bool} {x : Nat} : ∀ {l : List Nat}, x ∈ l → f x = true → g x = false → (∀ y, y ≠ x → g y = f y) → l.countP g < l.countP f
  | [], hx, _, _, _ => by cases hx
  | y :: l, hx, hf, hg, h => by
    have hle : ∀ l : List Nat, l.countP g ≤ l.countP f := by
      intro l
      apply List.countP_mono_left
      intro z _ hz
      by_cases e : z = x
      · rw [e] at hz; rw [hg] at hz; cases hz
      · rw [h z e] at hz; exact hz
    simp only [List.countP_cons]
    by_cases e : y = x
    · subst e
      have := hle l
      simp [hf, hg]
      omega
    · have hx' : x ∈ l := by
        rcases List.mem_cons.1 hx with hh | hh
        · exact absurd hh.symm e
        · exact hh
      have := countP_less hx' hf hg h
      rw [h y e]
      omega
theorem opnN_less {s : St18} {n x : Nat} (hx : x < n) (ho : (s.opn x).isSome = true) : opnN (s.setOpn x none) n < opnN s n := by
  unfold opnN
  refine countP_less (x := x) (List.mem_range.2 hx) ho ?_ ?_
  · rw [opn_setOpn, if_pos rfl]; rfl
  · intro y hy
    rw [opn_setOpn, if_neg hy]

/-- What has become of a book, one of whose variables was set. -/
structure Went18 (nd : Nat → Nd18) (s0 s : St18) (x0 v0 : Nat) : Prop where
  ext : Ext18 s0.val s.val
  set : s.val x0 = v0
  var : ∀ y, nd y = .var → y ≠ x0 → s.val y = s0.val y
theorem Went18.on {nd : Nat → Nd18} {s0 s s' : St18} {x0 v0 : Nat} (h : Went18 nd s0 s x0 v0) (hv : v0 ≠ 0) (he : Ext18 s.val s'.val) (hvar : ∀ y, nd y = .var → s'.val y = s.val y) : Went18 nd s0 s' x0 v0 :=
  ⟨h.ext.trans he, by rw [he x0 (by rw [h.set]; exact hv), h.set], fun y hy hne => (hvar y hy).trans (h.var y hy hne)⟩

def RelO (nd : Nat → Nd18) (n : Nat) (s0 : St18) (x0 v0 : Nat) (W : World) (b : Nat) (tag : Nat → Nat) (k : Nat) (v6 : Value) (wr : World) : Prop :=
  ∃ K s, Bk wr b tag s ∧ Mid18 nd n s K none ∧ Went18 nd s0 s x0 v0 ∧ Touch (fun k => tag k ≠ 0) W wr ∧ wr.ownsRow W.heap.size 3 1 v6 K.length (nums K) ∧ opnN s n = k

/-- While x tells those who hang on it: the j-th is next. -/
def RelI (nd : Nat → Nd18) (n : Nat) (s0 : St18) (x0 v0 : Nat) (W : World) (b : Nat) (tag : Nat → Nat) (k x : Nat) (us : List Nat) (g c : Nat) (A : Option Addr) (v6 v50 : Value) (wr : World) : Prop :=
  ∃ (j : Nat) (K : List Nat) (s : St18), v50 = .int .i64 j ∧ j ≤ us.length ∧ Bk wr b tag s ∧ Mid18 nd n s K (some (x, us.drop j)) ∧ Went18 nd s0 s x0 v0 ∧ Touch (fun k => tag k ≠ 0) W wr ∧ wr.ownsRow W.heap.size 3 1 v6 K.length (nums K) ∧ opnN s n = k ∧
    wr.ownsRow 0 3 1 (.slice A us.length c) us.length (nums us)

theorem row_form {w : World} {base c : Nat} {e : TypeId} {A : Option Addr} {n : Nat} {xs : List Value} (h : w.ownsRow base e 1 (.slice A n c) n xs) (hn : 0 < n) : ∃ g, A = some ⟨g, 0, none⟩ ∧ base ≤ g ∧ g < w.heap.size := by
  rcases h.2 with ⟨_, h0⟩ | ⟨g, cap, cur, hv, hb, hg, _⟩
  · omega
  · injection hv with hv _ _
    exact ⟨g, hv, hb, (Array.getElem?_eq_some_iff.1 hg).1⟩
/-- All but the last one. -/
theorem row_pop {w : World} {base g c k : Nat} {e : TypeId} {xs : List Value} {v : Value} (h : w.ownsRow base e 1 (.slice (some ⟨g, 0, none⟩) (k + 1) c) (k + 1) (xs ++ [v])) (hk : xs.length = k) : w.ownsRow base e 1 (.slice (some ⟨g, 0, none⟩) k c) k xs := by
  refine ⟨by simp [hk], ?_⟩
  rcases h.2 with ⟨h', _⟩ | ⟨g', cap, cur, hv, hb, hg, hn, hm, hs, ht⟩
  · simp at h'
  · simp only [Value.slice.injEq, Option.some.injEq, Addr.mk.injEq, and_true, true_and] at hv
    obtain ⟨rfl, rfl⟩ := hv
    refine .inr ⟨g, c, cur, rfl, hb, hg, by omega, hm, hs, ?_⟩
    have := congrArg (List.take k) ht
    rw [List.take_take, List.take_left' hk] at this
    simpa [Nat.min_eq_left (Nat.le_succ k)] using this

end Go.Proofs.Ytfkbmecmancgpaa
