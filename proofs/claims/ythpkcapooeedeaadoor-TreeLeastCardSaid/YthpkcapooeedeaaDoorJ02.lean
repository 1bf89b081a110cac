/- Slices whose elements take one cell: what they read as, appending onto a row of the call's own, and bytes as strings. -/
import Derived.Test.YthpkcapooeedeaaDoorJ01
import Derived.Maps.AppendAt
import Derived.Deep.AppendLies
import Derived.RegionTactic
import Derived.OwnWalk
import Derived.Laws.BytesArg
import Derived.Laws.CopyOwn
import Derived.Outline
import Derived.Lib.AppendStr
namespace Go.Proofs.YthpkcapooeedeaaDoor
open Go.RowKit

/-- The slice's n elements are these values; its cells lie in a block below B. -/
def Rd (w : World) (B : Nat) (A : Option Addr) (n : Nat) (xs : List Value) : Prop :=
  xs.length = n ∧ (0 < n → ∃ ad : Addr, A = some ad ∧ ad.block < B ∧ ∀ j u, xs[j]? = some u → w.cell? (ad.add j) = some u)

/-- A slice of numbers that came in. -/
def IsRow (k : IntKind) (w : World) (A : Option Addr) (len cap : Nat) (zs : List Int) : Prop :=
  (A = none ∧ len = 0 ∧ cap = 0 ∧ zs = []) ∨
  ∃ ad : Addr, A = some ad ∧ len ≤ cap ∧ cap ≤ maxLen ∧ zs.length = cap ∧ (∀ i, i < zs.length → w.cell? (ad.add i) = some (.int k (zs.getD i 0))) ∧ ∀ n ∈ zs, (Lit.int k n).wf = true

section
variable {w w' : World} {B : Nat} {A : Option Addr} {n : Nat} {xs : List Value}

theorem add_none (b o j : Nat) : (⟨b, o, none⟩ : Addr).add j = ⟨b, o + j, none⟩ := by
  unfold Addr.add
  split
  · subst_vars; rfl
  · rfl
theorem add_block (a : Addr) (j : Nat) : (a.add j).block = a.block := by unfold Addr.add; split <;> rfl
theorem cell_inside {p : Addr} {v : Value} (h : w.cell? p = some v) : p.block < w.heap.size := by
  by_cases hp : p.block < w.heap.size
  · exact hp
  · unfold World.cell? at h
    rw [Array.getElem?_eq_none (by omega)] at h
    simp at h

theorem Rd.zero (w : World) (B : Nat) (A : Option Addr) : Rd w B A 0 [] := ⟨rfl, fun h => absurd h (by omega)⟩
theorem Rd.stay (h : Rd w B A n xs) (hb : Below B w w') : Rd w' B A n xs :=
  ⟨h.1, fun hn => by
    obtain ⟨ad, e, hlt, hc⟩ := h.2 hn
    exact ⟨ad, e, hlt, fun j u hu => (hb.cell (p := ad.add j) (by rw [add_block]; exact hlt)).trans (hc j u hu)⟩⟩
theorem Rd.more {B' : Nat} (h : Rd w B A n xs) (hB : B ≤ B') : Rd w B' A n xs :=
  ⟨h.1, fun hn => by
    obtain ⟨ad, e, hlt, hc⟩ := h.2 hn
    exact ⟨ad, e, by omega, hc⟩⟩
theorem Rd.of_cells {b : Nat} {t : TypeId} {cs : Array Value} (h : Own w b t cs) (off m : Nat) (hm : off + m ≤ cs.size) : Rd w (b + 1) (some ⟨b, off, none⟩) m ((cs.toList.drop off).take m) := by
  refine ⟨by simp; omega, fun _ => ⟨_, rfl, Nat.lt_succ_self _, fun j u hu => ?_⟩⟩
  rw [add_none, h.at]
  rw [List.getElem?_take] at hu
  split at hu
  · rw [List.getElem?_drop] at hu
    simpa using hu
  · cases hu
theorem Rd.of_owned {base : Nat} {e : TypeId} {c : Nat} (h : w.ownsRow base e 1 (.slice A n c) n xs) : Rd w w.heap.size A n xs := by
  refine ⟨by simpa using h.1, fun hn => ?_⟩
  rcases h.2 with ⟨_, h0⟩ | ⟨g, cap, cur, hv, hb, hg, _⟩
  · omega
  · injection hv with hA _ _
    subst hA
    exact ⟨_, rfl, (Array.getElem?_eq_some_iff.1 hg).1, h.cells (g := g) rfl⟩
theorem Rd.of_row {k : IntKind} {len cap : Nat} {zs : List Int} (h : IsRow k w A len cap zs) : Rd w w.heap.size A len ((zs.take len).map (Value.int k)) := by
  rcases h with ⟨rfl, rfl, rfl, rfl⟩ | ⟨ad, rfl, hl, hm, hz, hc, _⟩
  · exact Rd.zero _ _ _
  · refine ⟨by simp; omega, fun hn => ⟨ad, rfl, ?_, fun j u hu => ?_⟩⟩
    · have := cell_inside (hc 0 (by omega))
      rwa [add_block] at this
    · rw [List.getElem?_map, List.getElem?_take] at hu
      split at hu
      · rename_i hj
        have hj' : j < zs.length := by omega
        rw [hc j hj']
        rw [List.getElem?_eq_getElem hj'] at hu
        simpa [hj'] using hu
      · cases hu
theorem IsRow.len_le {k : IntKind} {len cap : Nat} {zs : List Int} (h : IsRow k w A len cap zs) : len ≤ zs.length := by
  rcases h with ⟨_, rfl, _, _⟩ | ⟨_, _, hl, _, hz, _⟩ <;> omega
theorem IsRow.wf {k : IntKind} {len cap : Nat} {zs : List Int} (h : IsRow k w A len cap zs) : ∀ n ∈ zs, (Lit.int k n).wf = true := by
  rcases h with ⟨_, _, _, rfl⟩ | ⟨_, _, _, _, _, _, h⟩
  · intro n hn; cases hn
  · exact h
end

section
variable {P : Program}

theorem run_append_rd (w : World) (base : Nat) (t ty e : TypeId) (i : TypeInfo) (z : Value) (bytes : Nat) (ht : P.underlying t = some (.slice e)) (hi : P.info? e = some i) (hz : i.zero = some z)
    (hsize : i.size = 1) (hby : i.bytes = bytes) (hzs : z.cells.size = 1)
    (v : Value) (n : Nat) (xs : List Value) (hown : w.ownsRow base e 1 v n xs)
    (B : Nat) (A : Option Addr) (m c : Nat) (news : List Value) (hr : Rd w B A m news) (h1 : ∀ u ∈ news, u.oneCell' = true)
    (h63 : n + m ≤ maxLen) (hbytes : (n + m) * bytes ≤ 140737488355328) (hbase : base ≤ w.heap.size) :
    ∃ v' w', (Builtin.append_ #[t, t] ty #[v, .slice A m c]).run P w = .ok v' w' ∧ w'.ownsRow base e 1 v' (n + m) (xs ++ news) ∧ w.grownBy w' v.ownBlock ∧
      (v' = .slice none 0 0 ↔ v = .slice none 0 0 ∧ m = 0) ∧ (v'.ownBlock = v.ownBlock ∨ v'.ownBlock = some w.heap.size) := by
  cases A with
  | none =>
    have hm : m = 0 := by
      by_cases h : 0 < m
      · obtain ⟨ad, e, _⟩ := hr.2 h
        cases e
      · omega
    subst hm
    obtain rfl : news = [] := List.eq_nil_of_length_eq_zero hr.1
    refine ⟨v, w, ?_, by simpa using hown, ⟨rfl, rfl, rfl, Nat.le_refl _, fun _ _ _ => rfl⟩, by simp, .inl rfl⟩
    rcases hown.2 with ⟨rfl, rfl⟩ | ⟨g, cap, cur, rfl, _, _, hnc, _⟩
    · simp [Builtin.append_, run_underlying ht, sizeOf, typeInfo, hi, Builtin.lenOf, Builtin.firstCells]
    · simp [Builtin.append_, run_underlying ht, sizeOf, typeInfo, hi, Builtin.lenOf, Builtin.firstCells, hnc, storeCells]
  | some ad =>
    have hc : ∀ j u, news[j]? = some u → w.cell? (ad.add j) = some u := by
      intro j u hu
      have hm : 0 < m := by
        have := hr.1
        have := (List.getElem?_eq_some_iff.1 hu).1
        omega
      obtain ⟨ad', e, _, h⟩ := hr.2 hm
      injection e with e
      subst e
      exact h j u hu
    exact run_append_own_at (P := P) w base t ty e i z 1 bytes ht hi hz hsize hby hzs (by omega) v n xs hown ad m c news (by simpa using hr.1) hc h1 h63 hbytes hbase

theorem wp_append_rd (w : World) {o : Oper} {a : Act} {K : Act → World → Prop} {Q : Exit → Act → World → Prop} (s x : Operand) (t : TypeId)
    (ho : o.op = .call { callee := .builtin .append, args := #[s, x], argTypes := #[t, t] })
    (base : Nat) (e : TypeId) (i : TypeInfo) (z : Value) (bytes : Nat) (ht : P.underlying t = some (.slice e)) (hi : P.info? e = some i) (hz : i.zero = some z)
    (hsize : i.size = 1) (hby : i.bytes = bytes) (hzs : z.cells.size = 1)
    (v : Value) (n : Nat) (xs : List Value) (hs : a.eval s = v) (hown : w.ownsRow base e 1 v n xs)
    (B : Nat) (A : Option Addr) (m c : Nat) (news : List Value) (hx : a.eval x = .slice A m c) (hr : Rd w B A m news) (h1 : ∀ u ∈ news, u.oneCell' = true)
    (h63 : n + m ≤ maxLen) (hbytes : (n + m) * bytes ≤ 140737488355328) (hbase : base ≤ w.heap.size)
    (h : ∀ v' w', w'.ownsRow base e 1 v' (n + m) (xs ++ news) → w.grownBy w' v.ownBlock → (v' = .slice none 0 0 ↔ v = .slice none 0 0 ∧ m = 0) → (v'.ownBlock = v.ownBlock ∨ v'.ownBlock = some w.heap.size) → K (a.put o.dst v') w') : o.wp P a w K Q := by
  obtain ⟨v', w', hrun, h2, h3, h4, h5⟩ := run_append_rd (P := P) w base t o.type e i z bytes ht hi hz hsize hby hzs v n xs hown B A m c news hr h1 h63 hbytes hbase
  unfold Oper.wp execOp
  simp only [ho, resolve, invoke, builtin, Sem.run_bind, Sem.run_pure, Result.andThen_ok, List.map_toArray, List.map_cons, List.map_nil, hs, hx, hrun]
  exact h v' w' h2 h3 h4 h5

theorem wpList_append_rd (w : World) {ops : Array Oper} {rest : List Oper} {o : Oper} {a : Act} {Q : Exit → Act → World → Prop} (hgd : o.guard = none) (s x : Operand) (t : TypeId)
    (ho : o.op = .call { callee := .builtin .append, args := #[s, x], argTypes := #[t, t] })
    (base : Nat) (e : TypeId) (i : TypeInfo) (z : Value) (bytes : Nat) (ht : P.underlying t = some (.slice e)) (hi : P.info? e = some i) (hz : i.zero = some z)
    (hsize : i.size = 1) (hby : i.bytes = bytes) (hzs : z.cells.size = 1)
    (v : Value) (n : Nat) (xs : List Value) (hs : a.eval s = v) (hown : w.ownsRow base e 1 v n xs)
    (B : Nat) (A : Option Addr) (m c : Nat) (news : List Value) (hx : a.eval x = .slice A m c) (hr : Rd w B A m news) (h1 : ∀ u ∈ news, u.oneCell' = true)
    (h63 : n + m ≤ maxLen) (hbytes : (n + m) * bytes ≤ 140737488355328) (hbase : base ≤ w.heap.size)
    (h : ∀ v' w', w'.ownsRow base e 1 v' (n + m) (xs ++ news) → w.grownBy w' v.ownBlock → (v' = .slice none 0 0 ↔ v = .slice none 0 0 ∧ m = 0) → (v'.ownBlock = v.ownBlock ∨ v'.ownBlock = some w.heap.size) → wpList P ops Q rest (a.put o.dst v') w') : wpList P ops Q (o :: rest) a w :=
  wpList_plain hgd fun _ hK => wp_append_rd w s x t ho base e i z bytes ht hi hz hsize hby hzs v n xs hs hown B A m c news hx hr h1 h63 hbytes hbase fun v' w' h2 h3 h4 h5 => hK _ _ (h v' w' h2 h3 h4 h5)
end

theorem ints_one (k : IntKind) (l : List Int) : ∀ u ∈ l.map (Value.int k), u.oneCell' = true := by
  intro u hu
  obtain ⟨n, _, rfl⟩ := List.mem_map.1 hu
  rfl

theorem byte_info : (Tryd.prog.info? 5).map (fun i => (i.zero, i.size, i.bytes)) = some (some (.int .u8 0), 1, 1) := by kernel_rfl

/-- Bytes that a slice holds, as a string. -/
theorem conv_rd {w : World} {B b off n c : Nat} {xs : List Int} (h : Rd w B (some ⟨b, off, none⟩) n (xs.map (Value.int .u8))) :
    (convert 22 9 (.slice (some ⟨b, off, none⟩) n c)).run Tryd.prog w = .ok (.string (strOfNums xs)) w := by
  have hl : xs.length = n := by simpa using h.1
  refine run_convert_bytes_arg _ _ _ Tryd.underlying22 Tryd.underlying5 b off n c xs hl (fun i hi => ?_) _ Tryd.underlying9
  obtain ⟨ad, e, _, hc⟩ := h.2 (by omega)
  injection e with e
  subst e
  have := hc i (.int .u8 (xs.getD i 0)) (by simp [hl, hi])
  rwa [add_none] at this

theorem ownBlock_is {g o n c g' : Nat} (h : (Value.slice (some ⟨g, o, none⟩) n c).ownBlock = some g') : g' = g := by
  simp [Value.ownBlock] at h
  exact h.symm

theorem own_form {w : World} {base : Nat} {e : TypeId} {v : Value} {n : Nat} {xs : List Value} (h : w.ownsRow base e 1 v n xs) (hne : v ≠ .slice none 0 0) :
    ∃ g c : Nat, v = .slice (some ⟨g, 0, none⟩) n c ∧ base ≤ g ∧ g < w.heap.size ∧ n ≤ c ∧ c ≤ maxLen := by
  rcases h.2 with ⟨hv, _⟩ | ⟨g, c, cur, hv, hb, hg, hn, hm, _⟩
  · exact absurd hv hne
  · exact ⟨g, c, hv, hb, (Array.getElem?_eq_some_iff.1 hg).1, hn, hm⟩

theorem own_stay {w w' : World} {base B : Nat} {e : TypeId} {v : Value} {n : Nat} {xs : List Value} (h : w.ownsRow base e 1 v n xs) (hb : Below B w w') (hB : ∀ g, v.ownBlock = some g → g < B) : w'.ownsRow base e 1 v n xs := by
  refine ⟨h.1, ?_⟩
  rcases h.2 with hn | ⟨g, c, cur, rfl, hbg, hg, rest⟩
  · exact .inl hn
  · exact .inr ⟨g, c, cur, rfl, hbg, (hb.block g (hB g rfl)).trans hg, rest⟩

theorem Rd.of_list {w : World} {b : Nat} {t : TypeId} {l : List Value} {k : Nat} (h : Own w b t l.toArray) (hk : l.length = k) : Rd w (b + 1) (some ⟨b, 0, none⟩) k l := by
  have := Rd.of_cells h 0 k (by simp [hk])
  simpa [List.take_of_length_le (Nat.le_of_eq hk)] using this

theorem Rd.of_tail {w : World} {b : Nat} {t : TypeId} {l m : List Value} {j k : Nat} (h : Own w b t (l ++ m).toArray) (hj : l.length = j) (hk : m.length = k) : Rd w (b + 1) (some ⟨b, j, none⟩) k m := by
  subst hj
  have := Rd.of_cells h l.length k (by simp [hk])
  simpa [List.take_of_length_le (Nat.le_of_eq hk)] using this

theorem below_grown {B : Nat} {a w w' : World} {v : Value} (h : Below B a w) (hg : w.grownBy w' v.ownBlock) (hB : B ≤ w.heap.size) (hv : ∀ g, v.ownBlock = some g → B ≤ g) : Below B a w' := h.grown hg hB hv

theorem made_one (v : Value) (n : Nat) : madeCells #[v] n = (List.replicate n v).toArray := by
  apply Array.ext
  · simp [madeCells]
  · intro i h1 h2
    simp [madeCells, Nat.mod_one]

theorem set_tail (xs ys : List Value) (i j : Nat) (v : Value) (h : i = xs.length + j) : ((xs ++ ys).toArray).setIfInBounds i v = (xs ++ ys.set j v).toArray := by
  subst h
  rw [List.setIfInBounds_toArray, List.set_append_right _ _ (by omega)]
  simp

theorem run_copy_rd {P : Program} {w : World} {g o : Nat} {t elem dT ty : TypeId} {cur : List Value} (hown : Own w g t cur.toArray) (dLen dCap sLen sCap B : Nat) (A : Option Addr) (xs : List Value)
    (hu : P.underlying dT = some (.slice elem)) (hs : (P.info? elem).map (·.size) = some 1)
    (hr : Rd w B A sLen xs) (h1 : ∀ u ∈ xs, u.oneCell' = true) (hn : sLen ≤ dLen) (hfit : o + sLen ≤ cur.length) :
    ∃ w', (Builtin.copy_ #[dT, dT] ty #[.slice (some ⟨g, o, none⟩) dLen dCap, .slice A sLen sCap]).run P w = .ok (.int .i64 sLen) w' ∧
      Own w' g t (cur.take o ++ xs ++ cur.drop (o + sLen)).toArray ∧ Turned g w w' := by
  by_cases h0 : 0 < sLen
  · obtain ⟨ad, rfl, _, hc⟩ := hr.2 h0
    have hl : xs.length = sLen := hr.1
    have := run_copy_row (P := P) w dT dT ty elem g o dLen dCap ad sLen sCap cur.toArray t xs hu hs hown (by rw [hl]; exact (Nat.min_eq_left hn).symm) hc (by simpa [hl] using hfit) h1
    rw [hl] at this
    exact ⟨_, this, setRow_heap w g _ _ t _ hown, rfl, rfl, rfl, by simp [World.setRow], fun k _ hk => setRow_other w g k _ hk⟩
  · obtain rfl : sLen = 0 := by omega
    obtain rfl : xs = [] := List.eq_nil_of_length_eq_zero hr.1
    exact ⟨w, run_copy_none (P := P) w dT dT ty elem _ _ dLen dCap 0 sCap hu hs (Nat.min_eq_left hn), by simpa using hown, Turned.refl _ _⟩

end Go.Proofs.YthpkcapooeedeaaDoor

namespace Go.Proofs.YthpkcapooeedeaaDoor
open Go.RowKit

theorem conv_one (W : World) (x : Int) :
    (convert 22 9 (.slice (some ⟨W.heap.size, 0, none⟩) 1 1)).run Tryd.prog (W.alloc (.cells #[.int .u8 x] 5)) = .ok (.string (strOfNums [x])) (W.alloc (.cells #[.int .u8 x] 5)) := by
  exact run_convert_bytes_arg _ _ _ Tryd.underlying22 Tryd.underlying5 W.heap.size 0 1 1 [x] rfl (fun i hi => by
    obtain rfl : i = 0 := by omega
    simp) _ Tryd.underlying9
theorem conv_one' (W : World) (o : Obj) (x : Int) :
    (convert 22 9 (.slice (some ⟨W.heap.size + 1, 0, none⟩) 1 1)).run Tryd.prog ((W.alloc o).alloc (.cells #[.int .u8 x] 5)) = .ok (.string (strOfNums [x])) ((W.alloc o).alloc (.cells #[.int .u8 x] 5)) := by
  have := conv_one (W.alloc o) x
  simpa using this

def sizeOfV : Value → Nat | .string b => b.size | _ => 0
def RelPad (s : ByteArray) (n : Nat) (W wr : World) (lo tp : Value) : Prop :=
  ∃ (k : Nat) (x y : ByteArray), lo = .string x ∧ tp = .string y ∧ x.size = s.size + k ∧ y.size = s.size + k ∧ s.size + k ≤ n ∧
    x.data.toList = s.data.toList ++ List.replicate k 128 ∧ y.data.toList = s.data.toList ++ List.replicate k 191 ∧ Below W.heap.size W wr

theorem least_cell (w : World) (n : Nat) (hn : n = 1 ∨ n = 2 ∨ n = 3 ∨ n = 4) :
    (w.alloc (.cells #[.int .i64 0, .int .i64 0, .int .i64 128, .int .i64 2048, .int .i64 65536] 3)).cell? ⟨w.heap.size, n, none⟩ = some (.int .i64 (leastR n)) := by
  rw [(Own.fresh w 3 _).at n]
  rcases hn with rfl | rfl | rfl | rfl <;> rfl

theorem ret_three {k : IntKind} {x y : Bool} {z : Int} {t : Bool × Bool × Int} (h : (x, y, z) = t) :
    Ending.returned (.tuple #[.bool x, .bool y, .int k z]) = .returned (.tuple #[.bool t.1, .bool t.2.1, .int k t.2.2]) := by subst h; rfl

theorem cons_of (s : ByteArray) (h : 0 < s.size) : ∃ t, s.data.toList = s[0] :: t := by
  have hl : 0 < s.data.toList.length := h
  cases hc : s.data.toList with
  | nil => rw [hc] at hl; simp at hl
  | cons a t =>
    refine ⟨t, ?_⟩
    have : s.data.toList[0] = a := by simp [hc]
    have e : s[0] = a := this
    rw [e]

theorem padR_of (s : ByteArray) (n : Nat) (c : UInt8) : s.data.toList ++ List.replicate (n - s.size) c = padR s.data.toList n c := rfl

theorem begR_cons (c : UInt8) (t : List UInt8) : begR (c :: t) =
    if sizeR c.toNat = 0 ∨ sizeR c.toNat < (c :: t).length then (false, false, 0) else
    if contR t then endR (c :: t).length (sizeR c.toNat).toNat (numR (padR (c :: t) (sizeR c.toNat).toNat 128)) (numR (padR (c :: t) (sizeR c.toNat).toNat 191)) else (false, false, 0) := rfl

theorem begR_end (s : ByteArray) (n : Nat) (h1 : 0 < s.size) (h4 : s.size ≤ n) (hr : sizeR s[0].toNat = n) (hc : ContTo s s.size) :
    begR s.data.toList = endR s.size n (numR (padR s.data.toList n 128)) (numR (padR s.data.toList n 191)) := by
  obtain ⟨t, ht⟩ := cons_of s h1
  have hs : s.size = s.data.toList.length := rfl
  unfold ContTo at hc
  rw [List.take_of_length_le (by rw [hs]; omega)] at hc
  rw [hs] at h4 h1 ⊢
  rw [ht] at hc h4 h1 ⊢
  simp only [List.drop_one, List.tail_cons] at hc
  rw [begR_cons]
  rw [if_neg (by rw [hr]; omega), if_pos hc, hr]
  rfl

theorem begR_not (s : ByteArray) (n k : Nat) (h1 : 0 < s.size) (h4 : s.size ≤ n) (hr : sizeR s[0].toNat = n) (hc : contR ((s.data.toList.take (k + 1)).drop 1) = false) :
    begR s.data.toList = (false, false, 0) := by
  obtain ⟨t, ht⟩ := cons_of s h1
  have hs : s.size = s.data.toList.length := rfl
  have hc' := cont_no _ _ hc
  rw [hs] at h4 h1
  rw [ht] at hc' h4 h1 ⊢
  simp only [List.drop_one, List.tail_cons] at hc'
  rw [begR_cons]
  rw [if_neg (by rw [hr]; omega), if_neg (by rw [hc']; simp)]

end Go.Proofs.YthpkcapooeedeaaDoor

namespace Go.Proofs.YthpkcapooeedeaaDoor
open Go.RowKit

theorem part_snoc (s : ByteArray) (j k : Nat) (hjk : j ≤ k) (hk : k < s.size) : (s.extract j (k + 1)).data.toList = (s.data.toList.take k).drop j ++ [s[k]] := by
  have hl : k < s.data.toList.length := hk
  rw [ByteArray.data_extract, Array.toList_extract, List.extract_eq_take_drop]
  rw [show s[k] = s.data.toList[k] from rfl, ← List.drop_append_of_le_length (by simp; omega), ← List.take_succ_eq_append_getElem hl, List.drop_take]

/-- Where Bad's loop is: the last sign's end, and the state. -/
def RelRBad (s : ByteArray) (W wr : World) (fr i : Value) : Prop :=
  ∃ (j k : Nat) (sg lf : Int), j ≤ k ∧ k ≤ s.size ∧ (j = k ↔ lf = 0) ∧ fr = .int .i64 j ∧ i = .int .i64 k ∧ StU sg lf ∧ InvL ((s.data.toList.take k).drop j) sg lf ∧ Below W.heap.size W wr ∧ badU s.data.toList = runU sg lf (s.data.toList.drop k) k

end Go.Proofs.YthpkcapooeedeaaDoor

namespace Go.Proofs.YthpkcapooeedeaaDoor
open Go.RowKit

theorem below1 (w : World) (a : Obj) : Below w.heap.size w (w.alloc a) := (Below.refl w.heap.size w).alloc (Nat.le_refl _) a
theorem below2 (w : World) (a b : Obj) : Below w.heap.size w ((w.alloc a).alloc b) :=
  have h := (Below.refl w.heap.size w).alloc (Nat.le_refl _) a
  h.alloc h.size b
theorem below_drewN {B : Nat} {a w : World} (h : Below B a w) (n : Nat) : Below B a (w.drewN n) := ⟨h.os, h.tape, h.output, h.size, h.block⟩

/-- Bytes as cells. -/
def byteCells (l : List UInt8) : List Value := l.map fun c => Value.int .u8 c.toNat

theorem byteCells_nums (l : List UInt8) : byteCells l = (nums l).map (Value.int .u8) := by simp [byteCells, nums]
theorem byteCells_length (l : List UInt8) : (byteCells l).length = l.length := by simp [byteCells]
theorem byteCells_append (l m : List UInt8) : byteCells (l ++ m) = byteCells l ++ byteCells m := by simp [byteCells]
theorem byteCells_one (l : List UInt8) : ∀ u ∈ byteCells l, u.oneCell' = true := by rw [byteCells_nums]; exact ints_one _ _
theorem strOf_nums (l : List UInt8) : strOfNums (nums l) = ⟨l.toArray⟩ := by
  have e : (strOfNums (nums l)).data.toList = l := by
    rw [strOfNums_data]
    unfold nums
    rw [List.map_map]
    conv => rhs; rw [← List.map_id l]
    exact List.map_congr_left fun c _ => by simp
  generalize strOfNums (nums l) = s at *
  cases s with | mk x =>
  have e : x.toList = l := e
  rw [← e]

/-- Bytes that came in. -/
theorem IsRow.bytes {w : World} {A : Option Addr} {len cap : Nat} {zs : List Int} (h : IsRow .u8 w A len cap zs) : ∃ l : List UInt8, Rd w w.heap.size A len (byteCells l) := by
  refine ⟨(zs.take len).map fun z => UInt8.ofNat z.toNat, ?_⟩
  have e : byteCells ((zs.take len).map fun z => UInt8.ofNat z.toNat) = (zs.take len).map (Value.int .u8) := by
    unfold byteCells
    rw [List.map_map]
    refine List.map_congr_left fun z hz => ?_
    have hw := h.wf z (List.mem_of_mem_take hz)
    simp [Lit.wf, IntKind.min, IntKind.max, IntKind.signed, IntKind.bits] at hw
    simp
    omega
  rw [e]
  exact Rd.of_row h

/-- v is a slice of the call's own (its block is none below base) that holds l. -/
def Buf (w : World) (base : Nat) (v : Value) (l : List UInt8) : Prop :=
  ∃ g c : Nat, v = .slice (some ⟨g, 0, none⟩) l.length c ∧ w.ownsRow base 5 1 v l.length (byteCells l)

section
variable {w w' : World} {base : Nat} {v : Value} {l : List UInt8}
theorem Buf.form (h : Buf w base v l) : ∃ g c : Nat, v = .slice (some ⟨g, 0, none⟩) l.length c ∧ base ≤ g ∧ g < w.heap.size := by
  obtain ⟨g, c, rfl, ho⟩ := h
  obtain ⟨g', c', e, h1, h2, _⟩ := own_form ho (by intro e; cases e)
  injection e with e1 _ _
  injection e1 with e1
  injection e1 with e1
  exact ⟨g, c, rfl, by omega, by omega⟩
theorem Buf.stay (h : Buf w base v l) {B : Nat} (hb : Below B w w') (hB : w.heap.size ≤ B) : Buf w' base v l := by
  obtain ⟨g0, c0, e, _, hlt⟩ := h.form
  obtain ⟨g, c, rfl, ho⟩ := h
  refine ⟨g, c, rfl, own_stay ho hb fun k hk => ?_⟩
  injection e with e1 _ _
  injection e1 with e1
  injection e1 with e1
  rw [ownBlock_is hk]
  omega
theorem Buf.rd (h : Buf w base v l) {g c n : Nat} (hv : v = .slice (some ⟨g, 0, none⟩) n c) : Rd w w.heap.size (some ⟨g, 0, none⟩) l.length (byteCells l) := by
  obtain ⟨g', c', rfl, ho⟩ := h
  injection hv with e1 e2 e3
  injection e1 with e1
  injection e1 with e1
  subst e1
  exact Rd.of_owned ho
/-- The buffer as a string. -/
theorem Buf.conv (h : Buf w base v l) : (convert 22 9 v).run Tryd.prog w = .ok (.string ⟨l.toArray⟩) w := by
  obtain ⟨g, c, rfl, ho⟩ := h
  have := Rd.of_owned ho
  rw [byteCells_nums] at this
  rw [conv_rd this, strOf_nums]
/-- A slice that was just made of constants is one. -/
theorem Buf.made (w : World) (cs : Array Value) (l : List UInt8) (hc : cs = (byteCells l).toArray) (hl : l.length ≤ maxLen) (hb : base ≤ w.heap.size) : Buf (w.alloc (.cells cs 5)) base (.slice (some ⟨w.heap.size, 0, none⟩) l.length l.length) l := by
  subst hc
  refine ⟨_, _, rfl, ⟨by simp [byteCells_length], .inr ⟨w.heap.size, l.length, _, rfl, hb, heap_alloc_new w _, Nat.le_refl _, hl, by simp [byteCells_length], ?_⟩⟩⟩
  simp [List.take_of_length_le, byteCells_length]
end

section
variable {ops : Array Oper} {rest : List Oper} {o : Oper} {a : Act} {Q : Exit → Act → World → Prop}

/-- Appending bytes that lie in a slice. -/
theorem buf_append (w : World) (hgd : o.guard = none) (s x : Operand) (ho : o.op = .call { callee := .builtin .append, args := #[s, x], argTypes := #[22, 22] })
    (base : Nat) (v : Value) (l : List UInt8) (hs : a.eval s = v) (hown : Buf w base v l) (B : Nat) (A : Option Addr) (m c : Nat) (news : List UInt8) (hx : a.eval x = .slice A m c) (hr : Rd w B A m (byteCells news))
    (h63 : l.length + m ≤ 140737488355328 - 4096) (hbase : base ≤ w.heap.size)
    (h : ∀ v' w', Buf w' base v' (l ++ news) → Below base w w' → wpList Tryd.prog ops Q rest (a.put o.dst v') w') : wpList Tryd.prog ops Q (o :: rest) a w := by
  obtain ⟨i0, hi, hz0, hz1, hz2⟩ := info_parts byte_info
  have hm : news.length = m := by have := hr.1; rwa [byteCells_length] at this
  obtain ⟨g0, c0, ev, hg0, _⟩ := hown.form
  obtain ⟨g, c', rfl, hown⟩ := hown
  refine wpList_append_rd w hgd s x _ ho base 5 i0 _ 1 Tryd.underlying22 hi hz0 hz1 hz2 rfl _ l.length (byteCells l) hs hown B A m c (byteCells news) hx hr (byteCells_one _) (by unfold maxLen; omega) (by omega) hbase ?_
  intro v' w' h2 hg hnil hat
  have hne : v' ≠ .slice none 0 0 := fun e => by have := hnil.1 e; simp at this
  obtain ⟨g2, c2, e2, _⟩ := own_form h2 hne
  refine h v' w' ⟨g2, c2, by rw [e2, List.length_append, hm], ?_⟩ ((Below.refl base w).grown hg hbase fun k hk => ?_)
  · rw [List.length_append, hm, byteCells_append]
    exact h2
  · injection ev with e1 _ _
    injection e1 with e1
    injection e1 with e1
    rw [ownBlock_is hk]
    omega

/-- Appending a string's bytes. -/
theorem buf_append_str (w : World) (hgd : o.guard = none) (s x : Operand) (ho : o.op = .call { callee := .builtin .append, args := #[s, x], argTypes := #[22, 9] })
    (base : Nat) (v : Value) (l : List UInt8) (hs : a.eval s = v) (hown : Buf w base v l) (t : ByteArray) (hx : a.eval x = .string t)
    (h63 : l.length + t.size ≤ 140737488355328 - 4096) (hbase : base ≤ w.heap.size)
    (h : ∀ v' w', Buf w' base v' (l ++ t.data.toList) → Below base w w' → wpList Tryd.prog ops Q rest (a.put o.dst v') w') : wpList Tryd.prog ops Q (o :: rest) a w := by
  obtain ⟨i0, hi, hz0, hz1, hz2⟩ := info_parts byte_info
  obtain ⟨g0, c0, ev, hg0, _⟩ := hown.form
  obtain ⟨g, c', rfl, hown⟩ := hown
  refine Lib.wpList_append_own_string (w := w) hgd s x _ _ ho base 5 i0 Tryd.underlying22 Tryd.underlying9 hi hz0 hz1 hz2 _ l.length (byteCells l) hs hown t hx (by unfold maxLen; omega) (by omega) hbase ?_
  intro v' w' h2 hg hnil
  have hne : v' ≠ .slice none 0 0 := fun e => by have := hnil.1 e; simp at this
  obtain ⟨g2, c2, e2, _⟩ := own_form h2 hne
  have ht : t.data.toList.length = t.size := rfl
  refine h v' w' ⟨g2, c2, by rw [e2, List.length_append, ht], ?_⟩ ((Below.refl base w).grown hg hbase fun k hk => ?_)
  · rw [List.length_append, ht, byteCells_append]
    exact h2
  · injection ev with e1 _ _
    injection e1 with e1
    injection e1 with e1
    rw [ownBlock_is hk]
    omega
end

end Go.Proofs.YthpkcapooeedeaaDoor

namespace Go.Proofs.YthpkcapooeedeaaDoor

/-- Where a digit leads. -/
def dgI (a c : Int) : Int :=
  if a = 0 ∨ a = 1 then (if c = 48 then 2 else 3) else if a = 3 then 3 else if a = 4 ∨ a = 5 then 5 else if a = 6 ∨ a = 7 ∨ a = 8 then 8 else 0
/-- Where a sign leads. -/
def sgI (a c : Int) : Int := if a = 6 then 7 else if a = 0 ∧ c = 45 then 1 else 0
/-- Where a byte leads; 0: nowhere. -/
def nxI (a c : Int) : Int :=
  if c = 43 ∨ c = 45 then sgI a c else if c = 46 ∧ (a = 2 ∨ a = 3) then 4 else
  if (c = 101 ∨ c = 69) ∧ (a = 2 ∨ a = 3 ∨ a = 5) then 6 else if isDigitI c then dgI a c else 0
def whI (a : Int) : Bool := decide (a = 2 ∨ a = 3 ∨ a = 5 ∨ a = 8)
def stickI (c : Int) : Bool := isDigitI c || isAlphaI c || decide (c = 46) || decide (c = 43) || decide (c = 45)
/-- What a byte does. -/
def anI (a c : Int) : Int := if nxI a c ≠ 0 then 0 else if whI a && !stickI c then 1 else 2
def StA (a : Int) : Prop := 0 ≤ a ∧ a ≤ 8

theorem stA_cases {a : Int} (h : StA a) : a = 0 ∨ a = 1 ∨ a = 2 ∨ a = 3 ∨ a = 4 ∨ a = 5 ∨ a = 6 ∨ a = 7 ∨ a = 8 := by unfold StA at h; omega
theorem stA_next (a c : Int) : StA (nxI a c) := by
  unfold nxI sgI dgI StA
  (repeat' split) <;> omega

/-- Is a numeral whole behind these bytes, from a place on? -/
def acc (a : Int) : List UInt8 → Bool
  | [] => whI a
  | c :: t => if nxI a c.toNat = 0 then false else acc (nxI a c.toNat) t

/-- How many digits it begins with. -/
def digL : List UInt8 → Nat
  | [] => 0
  | c :: t => if isDigitI c.toNat then digL t + 1 else 0
def hdIs (l : List UInt8) (c : Int) : Bool := match l with | [] => false | x :: _ => decide ((x.toNat : Int) = c)
/-- The parts: behind e, behind a fraction, behind the whole number, behind the sign. -/
def expR (l : List UInt8) : Bool := decide (0 < l.length ∧ digL l = l.length)
def signR (l : List UInt8) : Bool := if hdIs l 43 || hdIs l 45 then expR (l.drop 1) else expR l
def tailR (l : List UInt8) : Bool := if l.length = 0 then true else if hdIs l 101 || hdIs l 69 then signR (l.drop 1) else false
def fracR (l : List UInt8) : Bool := if digL l = 0 then false else tailR (l.drop (digL l))
def pointR (l : List UInt8) : Bool := if hdIs l 46 then fracR (l.drop 1) else tailR l
def intR (l : List UInt8) : Bool := if digL l = 0 ∨ 1 < digL l ∧ hdIs l 48 = true then false else pointR (l.drop (digL l))
def isR (l : List UInt8) : Bool := if hdIs l 45 then intR (l.drop 1) else intR l

theorem acc_cons (a : Int) (c : UInt8) (t : List UInt8) : acc a (c :: t) = if nxI a c.toNat = 0 then false else acc (nxI a c.toNat) t := rfl
theorem digL_cons (c : UInt8) (t : List UInt8) : digL (c :: t) = if isDigitI c.toNat then digL t + 1 else 0 := rfl
theorem digL_le (l : List UInt8) : digL l ≤ l.length := by
  induction l with
  | nil => exact Nat.le_refl _
  | cons c t ih => rw [digL_cons]; split <;> simp <;> omega
theorem hd_cons (x : UInt8) (t : List UInt8) (c : Int) : hdIs (x :: t) c = decide ((x.toNat : Int) = c) := rfl
theorem hd_nil (c : Int) : hdIs [] c = false := rfl

theorem dig_iff (c : Int) : isDigitI c = true ↔ 48 ≤ c ∧ c ≤ 57 := by simp [isDigitI]

theorem nx_dig {a c : Int} (h : isDigitI c = true) : nxI a c = dgI a c := by
  rw [dig_iff] at h
  unfold nxI
  rw [if_neg (by omega), if_neg (by omega), if_neg (by omega), if_pos ((dig_iff c).2 h)]

theorem acc8 (l : List UInt8) : acc 8 l = decide (digL l = l.length) := by
  induction l with
  | nil => rfl
  | cons c t ih =>
    rw [acc_cons, digL_cons]
    by_cases hd : isDigitI c.toNat = true
    · rw [nx_dig hd, show dgI 8 c.toNat = 8 from rfl, if_neg (by decide), ih, if_pos hd]
      simp
    · rw [if_neg hd, show nxI 8 c.toNat = 0 by unfold nxI sgI; simp only [hd]; (repeat' split) <;> simp_all, if_pos rfl]
      simp

theorem acc7 (l : List UInt8) : acc 7 l = expR l := by
  cases l with
  | nil => rfl
  | cons c t =>
    unfold expR
    rw [acc_cons, digL_cons]
    by_cases hd : isDigitI c.toNat = true
    · rw [nx_dig hd, show dgI 7 c.toNat = 8 from rfl, if_neg (by decide), acc8, if_pos hd]
      simp
    · rw [if_neg hd, show nxI 7 c.toNat = 0 by unfold nxI sgI; simp only [hd]; (repeat' split) <;> simp_all, if_pos rfl]
      simp

theorem acc6 (l : List UInt8) : acc 6 l = signR l := by
  unfold signR
  cases l with
  | nil => rfl
  | cons c t =>
    rw [acc_cons, hd_cons, hd_cons]
    by_cases hs : (c.toNat : Int) = 43 ∨ (c.toNat : Int) = 45
    · rw [show nxI 6 c.toNat = 7 by unfold nxI; rw [if_pos hs]; rfl, if_neg (by decide), acc7, if_pos (by simpa using hs)]
      rfl
    · have hr : ¬ (decide ((c.toNat : Int) = 43) || decide ((c.toNat : Int) = 45)) = true := by simpa using hs
      by_cases hd : isDigitI c.toNat = true
      · rw [if_neg hr, nx_dig hd, show dgI 6 c.toNat = 8 from rfl, if_neg (by decide), acc8]
        unfold expR
        rw [digL_cons, if_pos hd]
        simp
      · rw [if_neg hr, show nxI 6 c.toNat = 0 by unfold nxI; simp only [hd, hs]; simp, if_pos rfl]
        unfold expR
        rw [digL_cons, if_neg hd]
        simp

theorem drop_dig (c : UInt8) (t : List UInt8) (h : isDigitI c.toNat = true) : (c :: t).drop (digL (c :: t)) = t.drop (digL t) := by
  rw [digL_cons, if_pos h]; rfl
theorem drop_nodig (c : UInt8) (t : List UInt8) (h : ¬ isDigitI c.toNat = true) : (c :: t).drop (digL (c :: t)) = c :: t := by
  rw [digL_cons, if_neg h]; rfl

/-- Behind a whole number or a fraction, where no digit follows. -/
theorem acc_e (a : Int) (ha : a = 2 ∨ a = 3 ∨ a = 5) (c : UInt8) (t : List UInt8) (h : ¬ isDigitI c.toNat = true) (hp : (c.toNat : Int) = 46 → a = 5) : acc a (c :: t) = tailR (c :: t) := by
  unfold tailR
  rw [acc_cons, hd_cons, hd_cons, if_neg (show ¬ (c :: t).length = 0 by simp)]
  by_cases he : (c.toNat : Int) = 101 ∨ (c.toNat : Int) = 69
  · rw [show nxI a c.toNat = 6 by unfold nxI; rw [if_neg (by omega), if_neg (by omega), if_pos (by omega)], if_neg (by decide), acc6, if_pos (by simpa using he)]
    rfl
  · rw [show nxI a c.toNat = 0 by unfold nxI sgI; (repeat' split) <;> first | omega | simp_all, if_pos rfl, if_neg (by simpa using he)]

theorem acc5 (l : List UInt8) : acc 5 l = tailR (l.drop (digL l)) := by
  induction l with
  | nil => rfl
  | cons c t ih =>
    by_cases hd : isDigitI c.toNat = true
    · rw [acc_cons, nx_dig hd, show dgI 5 c.toNat = 5 from rfl, if_neg (by decide), ih, drop_dig c t hd]
    · rw [drop_nodig c t hd, acc_e 5 (by omega) c t hd (fun _ => rfl)]

theorem acc4 (l : List UInt8) : acc 4 l = fracR l := by
  unfold fracR
  cases l with
  | nil => rfl
  | cons c t =>
    by_cases hd : isDigitI c.toNat = true
    · rw [acc_cons, nx_dig hd, show dgI 4 c.toNat = 5 from rfl, if_neg (by decide), acc5, drop_dig c t hd, if_neg (by rw [digL_cons, if_pos hd]; omega)]
    · rw [if_pos (by rw [digL_cons, if_neg hd]), acc_cons, show nxI 4 c.toNat = 0 by unfold nxI sgI; simp only [hd]; (repeat' split) <;> simp_all, if_pos rfl]

theorem acc_p (a : Int) (ha : a = 2 ∨ a = 3) (c : UInt8) (t : List UInt8) (h : ¬ isDigitI c.toNat = true) : acc a (c :: t) = pointR (c :: t) := by
  unfold pointR
  rw [hd_cons]
  by_cases hp : (c.toNat : Int) = 46
  · rw [acc_cons, show nxI a c.toNat = 4 by unfold nxI; rw [if_neg (by omega), if_pos ⟨hp, ha⟩], if_neg (by decide), acc4, if_pos (by simpa using hp)]
    rfl
  · rw [if_neg (by simpa using hp)]
    exact acc_e a (by omega) c t h (fun e => absurd e hp)

theorem acc3 (l : List UInt8) : acc 3 l = pointR (l.drop (digL l)) := by
  induction l with
  | nil => rfl
  | cons c t ih =>
    by_cases hd : isDigitI c.toNat = true
    · rw [acc_cons, nx_dig hd, show dgI 3 c.toNat = 3 from rfl, if_neg (by decide), ih, drop_dig c t hd]
    · rw [drop_nodig c t hd, acc_p 3 (by omega) c t hd]

theorem acc2 (l : List UInt8) : acc 2 l = if digL l = 0 then pointR l else false := by
  cases l with
  | nil => rfl
  | cons c t =>
    by_cases hd : isDigitI c.toNat = true
    · rw [acc_cons, nx_dig hd, show dgI 2 c.toNat = 0 from rfl, if_pos rfl, if_neg (by rw [digL_cons, if_pos hd]; omega)]
    · rw [if_pos (by rw [digL_cons, if_neg hd]), acc_p 2 (by omega) c t hd]

theorem acc01 (a : Int) (ha : a = 0 ∨ a = 1) (l : List UInt8) (hm : a = 0 → hdIs l 45 = false) : acc a l = intR l := by
  unfold intR
  cases l with
  | nil => rcases ha with rfl | rfl <;> rfl
  | cons c t =>
    rw [acc_cons, hd_cons]
    by_cases hd : isDigitI c.toNat = true
    · have hdd : dgI a c.toNat = if (c.toNat : Int) = 48 then 2 else 3 := by unfold dgI; rw [if_pos ha]
      rw [nx_dig hd, hdd, drop_dig c t hd, digL_cons, if_pos hd]
      by_cases h0 : (c.toNat : Int) = 48
      · rw [if_pos h0, if_neg (by decide), acc2]
        by_cases hz : digL t = 0
        · rw [if_pos hz, if_neg (by rw [hz]; simp), hz]
          rfl
        · rw [if_neg hz, if_pos (by simp [h0]; omega)]
      · rw [if_neg h0, if_neg (by decide), acc3, if_neg (by simp [h0])]
    · rw [digL_cons, if_neg hd, if_pos (Or.inl rfl), show nxI a c.toNat = 0 by
        unfold nxI sgI
        have hm' : a = 0 → ¬ (c.toNat : Int) = 45 := fun e => by have := hm e; rw [hd_cons] at this; simpa using this
        (repeat' split) <;> first | omega | simp_all, if_pos rfl]

theorem acc0 (l : List UInt8) : acc 0 l = isR l := by
  unfold isR
  by_cases hm : hdIs l 45 = true
  · cases l with
    | nil => cases hm
    | cons c t =>
      rw [if_pos hm]
      rw [hd_cons] at hm
      have hc : (c.toNat : Int) = 45 := of_decide_eq_true hm
      rw [acc_cons, hc, show nxI 0 45 = 1 from rfl, if_neg (by decide), acc01 1 (Or.inr rfl) t (fun e => by omega)]
      rfl
  · rw [if_neg hm, acc01 0 (Or.inl rfl) l (fun _ => by simpa using hm)]

/-- The place behind these bytes is a: none of them led nowhere. -/
def At (a : Int) (l : List UInt8) : Prop := StA a ∧ ∀ r, acc 0 (l ++ r) = acc a r
theorem at_nil : At 0 [] := ⟨by unfold StA; omega, fun r => rfl⟩
theorem at_step {a : Int} {l : List UInt8} (h : At a l) (c : UInt8) (hc : nxI a c.toNat ≠ 0) : At (nxI a c.toNat) (l ++ [c]) :=
  ⟨stA_next _ _, fun r => by rw [List.append_assoc, h.2]; show acc a (c :: r) = _; rw [acc_cons, if_neg hc]⟩
theorem at_is {a : Int} {l : List UInt8} (h : At a l) : isR l = whI a := by
  have := h.2 []
  rw [List.append_nil] at this
  rw [← acc0, this]; rfl
theorem at_dead {a : Int} {l : List UInt8} (h : At a l) (c : UInt8) (hc : nxI a c.toNat = 0) (r : List UInt8) : isR (l ++ c :: r) = false := by
  rw [← acc0, h.2, acc_cons, if_pos hc]

theorem wh_one (a : Int) (h : StA a) : (whI a || acc a [49]) = true := by
  rcases stA_cases h with rfl | rfl | rfl | rfl | rfl | rfl | rfl | rfl | rfl <;> decide +kernel

/-- What the document's Step answers, by the place. -/
theorem at_goes {a : Int} {l : List UInt8} (h : At a l) (c : UInt8) : (isR (l ++ [c]) || isR (l ++ [c] ++ [49])) = decide (nxI a c.toNat ≠ 0) := by
  by_cases hc : nxI a c.toNat = 0
  · rw [at_dead h c hc [], show l ++ [c] ++ [49] = l ++ c :: [49] by simp, at_dead h c hc [49]]
    simp [hc]
  · have h' := at_step h c hc
    rw [at_is h', ← acc0, h'.2, wh_one _ h'.1]
    simp [hc]

end Go.Proofs.YthpkcapooeedeaaDoor

namespace Go.Proofs.YthpkcapooeedeaaDoor
open Go.RowKit

set_option maxHeartbeats 1000000 in
theorem whole_in (a : Int) (ha : StA a) (w : World) :
    Calls Tryd.prog 43 #[.int .i64 a] w fun e w' => e = .returned (.bool (whI a)) ∧ w = w' := by
  rcases stA_cases ha with rfl | rfl | rfl | rfl | rfl | rfl | rfl | rfl | rfl
  all_goals
    go_enter Tryd.func43, Tryd.ntmps43
    go_wp2
    go_ret
    exact ⟨rfl, rfl⟩

set_option maxHeartbeats 1000000 in
theorem bdigit_in (a c : Int) (ha : StA a) (w : World) :
    Calls Tryd.prog 91 #[.int .i64 a, .int .u8 c] w fun e w' => e = .returned (.int .i64 (dgI a c)) ∧ w = w' := by
  rcases stA_cases ha with rfl | rfl | rfl | rfl | rfl | rfl | rfl | rfl | rfl
  all_goals
    by_cases h0 : c = 48
    · subst h0
      go_enter Tryd.func91, Tryd.ntmps91
      go_wp2
      go_ret
      exact ⟨rfl, rfl⟩
    · have h0' : (c == 48) = false := beq_eq_false_iff_ne.2 h0
      go_enter Tryd.func91, Tryd.ntmps91
      go_wp2
      go_ret
      exact ⟨ret_i (by simp [dgI, h0]), rfl⟩

set_option maxHeartbeats 1000000 in
theorem bsign_in (a c : Int) (ha : StA a) (hc : c = 43 ∨ c = 45) (w : World) :
    Calls Tryd.prog 90 #[.int .i64 a, .int .u8 c] w fun e w' => e = .returned (.int .i64 (sgI a c)) ∧ w = w' := by
  rcases stA_cases ha with rfl | rfl | rfl | rfl | rfl | rfl | rfl | rfl | rfl <;> rcases hc with rfl | rfl
  all_goals
    go_enter Tryd.func90, Tryd.ntmps90
    go_wp2
    go_ret
    exact ⟨rfl, rfl⟩

set_option maxHeartbeats 4000000 in
theorem behind_in (a c : Int) (ha : StA a) (w : World) :
    Calls Tryd.prog 75 #[.int .i64 a, .int .u8 c] w fun e w' => e = .returned (.int .i64 (nxI a c)) ∧ w = w' := by
  have HD := Lib.hid (bdigit_in a c ha)
  have HW := Lib.hid (whole_in a ha)
  by_cases h43 : c = 43
  · subst h43
    have HS := Lib.hid (bsign_in a 43 ha (Or.inl rfl))
    go_enter Tryd.func75, Tryd.ntmps75
    go_wp2_with (go_at_call 90; refine (HS.out _).mono ?_; rintro e w' ⟨rfl, rfl⟩)
    go_ret
    exact ⟨rfl, rfl⟩
  by_cases h45 : c = 45
  · subst h45
    have HS := Lib.hid (bsign_in a 45 ha (Or.inr rfl))
    go_enter Tryd.func75, Tryd.ntmps75
    go_wp2_with (go_at_call 90; refine (HS.out _).mono ?_; rintro e w' ⟨rfl, rfl⟩)
    go_ret
    exact ⟨rfl, rfl⟩
  have g1 : (c == 43) = false := beq_eq_false_iff_ne.2 h43
  have g2 : (c == 45) = false := beq_eq_false_iff_ne.2 h45
  have hn : ¬ (c = 43 ∨ c = 45) := by omega
  by_cases h46 : c = 46
  · subst h46
    rcases stA_cases ha with rfl | rfl | rfl | rfl | rfl | rfl | rfl | rfl | rfl
    all_goals
      go_enter Tryd.func75, Tryd.ntmps75
      go_wp2_with (first
        | (go_at_call 78; refine (digit_any _ _).mono ?_; rintro e w' ⟨rfl, rfl⟩))
      go_ret
      exact ⟨rfl, rfl⟩
  have g3 : (c == 46) = false := beq_eq_false_iff_ne.2 h46
  by_cases h101 : c = 101
  · subst h101
    rcases stA_cases ha with rfl | rfl | rfl | rfl | rfl | rfl | rfl | rfl | rfl
    all_goals
      go_enter Tryd.func75, Tryd.ntmps75
      go_wp2_with (first
        | (go_at_call 43; refine (HW.out _).mono ?_; rintro e w' ⟨rfl, rfl⟩)
        | (go_at_call 78; refine (digit_any _ _).mono ?_; rintro e w' ⟨rfl, rfl⟩))
      go_ret
      exact ⟨rfl, rfl⟩
  have g4 : (c == 101) = false := beq_eq_false_iff_ne.2 h101
  by_cases h69 : c = 69
  · subst h69
    rcases stA_cases ha with rfl | rfl | rfl | rfl | rfl | rfl | rfl | rfl | rfl
    all_goals
      go_enter Tryd.func75, Tryd.ntmps75
      go_wp2_with (first
        | (go_at_call 43; refine (HW.out _).mono ?_; rintro e w' ⟨rfl, rfl⟩)
        | (go_at_call 78; refine (digit_any _ _).mono ?_; rintro e w' ⟨rfl, rfl⟩))
      go_ret
      exact ⟨rfl, rfl⟩
  have g5 : (c == 69) = false := beq_eq_false_iff_ne.2 h69
  have HA := Lib.hid (show nxI a c = if isDigitI c = true then dgI a c else 0 by unfold nxI; rw [if_neg (by omega), if_neg (by omega), if_neg (by omega)])
  have HG := Lib.hid (digit_any c)
  clear h43 h45 h46 h101 h69 hn
  generalize isDigitI c = d at *
  cases d
  all_goals
    go_enter Tryd.func75, Tryd.ntmps75
    go_wp2_with (first
      | (go_at_call 78; refine (HG.out _).mono ?_; rintro e w' ⟨rfl, rfl⟩)
      | (go_at_call 91; refine (HD.out _).mono ?_; rintro e w' ⟨rfl, rfl⟩))
    go_ret
    exact ⟨ret_i (by rw [HA.out]; rfl), rfl⟩

set_option maxHeartbeats 1000000 in
theorem sticks_any (c : Int) (w : World) :
    Calls Tryd.prog 76 #[.int .u8 c] w fun e w' => e = .returned (.bool (stickI c)) ∧ w = w' := by
  have HG := Lib.hid (digit_any c)
  have HL := Lib.hid (alpha_any c)
  have HV := Lib.hid (show stickI c = (isDigitI c || isAlphaI c || decide (c = 46) || decide (c = 43) || decide (c = 45)) from rfl)
  generalize isDigitI c = d at *
  generalize isAlphaI c = b at *
  by_cases h1 : c = 46
  · subst h1
    cases d <;> cases b
    all_goals
      go_enter Tryd.func76, Tryd.ntmps76
      go_wp2_with (first
        | (go_at_call 78; refine (HG.out _).mono ?_; rintro e w' ⟨rfl, rfl⟩)
        | (go_at_call 92; refine (HL.out _).mono ?_; rintro e w' ⟨rfl, rfl⟩))
      go_ret
      exact ⟨ret_b (by rw [HV.out]; rfl), rfl⟩
  have g1 : (c == 46) = false := beq_eq_false_iff_ne.2 h1
  by_cases h2 : c = 43
  · subst h2
    cases d <;> cases b
    all_goals
      go_enter Tryd.func76, Tryd.ntmps76
      go_wp2_with (first
        | (go_at_call 78; refine (HG.out _).mono ?_; rintro e w' ⟨rfl, rfl⟩)
        | (go_at_call 92; refine (HL.out _).mono ?_; rintro e w' ⟨rfl, rfl⟩))
      go_ret
      exact ⟨ret_b (by rw [HV.out]; rfl), rfl⟩
  have g2 : (c == 43) = false := beq_eq_false_iff_ne.2 h2
  have g3 : (c == 45) = decide (c = 45) := by by_cases h : c = 45 <;> simp [h]
  cases d <;> cases b
  all_goals
    go_enter Tryd.func76, Tryd.ntmps76
    go_wp2_with (first
      | (go_at_call 78; refine (HG.out _).mono ?_; rintro e w' ⟨rfl, rfl⟩)
      | (go_at_call 92; refine (HL.out _).mono ?_; rintro e w' ⟨rfl, rfl⟩))
    go_ret
    exact ⟨ret_b (by rw [HV.out]; simp [h1, h2]), rfl⟩

end Go.Proofs.YthpkcapooeedeaaDoor

namespace Go.Proofs.YthpkcapooeedeaaDoor
open Go.RowKit

set_option maxHeartbeats 400000 in
theorem nwhole_any (b : Nat) (a : Int) (w : World) (h : Own w b 75 #[.int .i64 a]) (ha : StA a) :
    Calls Tryd.prog 27 #[.pointer (some ⟨b, 0, none⟩)] w fun e w' => e = .returned (.bool (whI a)) ∧ w = w' := by
  have c0 := h.at 0
  simp at c0
  have HW := Lib.hid (whole_in a ha)
  go_enter Tryd.func27, Tryd.ntmps27
  go_wp2_with (go_at_call 43; refine (HW.out _).mono ?_; rintro e w' ⟨rfl, rfl⟩)
  go_ret
  exact ⟨rfl, rfl⟩

set_option maxHeartbeats 1000000 in
theorem nstep_goes (b : Nat) (c a : Int) (w : World) (h : Own w b 75 #[.int .i64 a]) (ha : StA a) (hc : nxI a c ≠ 0) :
    Calls Tryd.prog 59 #[.pointer (some ⟨b, 0, none⟩), .int .u8 c] w fun e w' => e = .returned (.int .i64 0) ∧ Own w' b 75 #[.int .i64 (nxI a c)] ∧ Turned b w w' := by
  have c0 := h.at 0
  have f0 := h.free 0
  simp at c0
  have HB := Lib.hid (behind_in a c ha)
  have hc' : (nxI a c == 0) = false := beq_eq_false_iff_ne.2 hc
  generalize nxI a c = x at *
  go_enter Tryd.func59, Tryd.ntmps59
  go_wp2_with (go_at_call 75; refine (HB.out _).mono ?_; rintro e w' ⟨rfl, rfl⟩)
  go_ret
  exact ⟨rfl, by simpa using h.put 0 (.int .i64 x), (Turned.refl b w).put 0 _⟩

set_option maxHeartbeats 1000000 in
theorem nstep_stays (b : Nat) (c a : Int) (w : World) (h : Own w b 75 #[.int .i64 a]) (ha : StA a) (hc : nxI a c = 0) :
    Calls Tryd.prog 59 #[.pointer (some ⟨b, 0, none⟩), .int .u8 c] w fun e w' => e = .returned (.int .i64 (anI a c)) ∧ w = w' := by
  have c0 := h.at 0
  simp at c0
  have hb := behind_in a c ha
  rw [hc] at hb
  have HB := Lib.hid hb
  have HN := Lib.hid (fun w hw => nwhole_any b a w hw ha)
  have HK := Lib.hid (sticks_any c)
  have HV := Lib.hid (show anI a c = if whI a && !stickI c then 1 else 2 by unfold anI; rw [if_neg (by simp [hc])])
  clear hc hb
  generalize whI a = x at *
  generalize stickI c = y at *
  cases x <;> cases y
  all_goals
    go_enter Tryd.func59, Tryd.ntmps59
    go_wp2_with (first
      | (go_at_call 75; refine (HB.out _).mono ?_; rintro e w' ⟨rfl, rfl⟩)
      | (go_at_call 27; refine (HN.out _ h).mono ?_; rintro e w' ⟨rfl, rfl⟩)
      | (go_at_call 76; refine (HK.out _).mono ?_; rintro e w' ⟨rfl, rfl⟩))
    go_ret
    exact ⟨ret_i (by rw [HV.out]; rfl), rfl⟩

def fRun (a : Int) : List UInt8 → Int → Int
  | [], k => if whI a then -1 else k
  | c :: t, k => if nxI a c.toNat = 0 then k else fRun (nxI a c.toNat) t (k + 1)
def cRun (a : Int) : List UInt8 → Int → Int → Int
  | [], _, n => n
  | c :: t, k, n => if nxI a c.toNat = 0 then n else cRun (nxI a c.toNat) t (k + 1) (if whI (nxI a c.toNat) then k + 1 else n)

theorem fRun_cons (a : Int) (l : List UInt8) (k : Nat) (h : k < l.length) (n : Int) :
    fRun a (l.drop k) n = if nxI a l[k].toNat = 0 then n else fRun (nxI a l[k].toNat) (l.drop (k + 1)) (n + 1) := by
  rw [List.drop_eq_getElem_cons h]; rfl
theorem cRun_cons (a : Int) (l : List UInt8) (k : Nat) (h : k < l.length) (n m : Int) :
    cRun a (l.drop k) n m = if nxI a l[k].toNat = 0 then m else cRun (nxI a l[k].toNat) (l.drop (k + 1)) (n + 1) (if whI (nxI a l[k].toNat) then n + 1 else m) := by
  rw [List.drop_eq_getElem_cons h]; rfl
theorem stA_zero : StA 0 := by unfold StA; omega

/-- Where Fault's loop is. -/
def RelFault (s : ByteArray) (W wr : World) (i : Value) : Prop :=
  ∃ (k : Nat) (a : Int), k ≤ s.size ∧ i = .int .i64 k ∧ StA a ∧ Own wr W.heap.size 75 #[.int .i64 a] ∧ Below W.heap.size W wr ∧ fRun 0 s.data.toList 0 = fRun a (s.data.toList.drop k) k

theorem fRun_ge (l : List UInt8) : ∀ (a k : Int), 0 ≤ k → (-1 ≤ fRun a l k ∧ fRun a l k ≤ k + l.length) := by
  induction l with
  | nil => intro a k h; show -1 ≤ (if whI a then -1 else k) ∧ (if whI a then -1 else k) ≤ _; split <;> simp <;> omega
  | cons c t ih =>
    intro a k h
    show -1 ≤ (if nxI a c.toNat = 0 then k else fRun _ t (k + 1)) ∧ (if nxI a c.toNat = 0 then k else fRun _ t (k + 1)) ≤ k + ((c :: t).length : Int)
    have e : ((c :: t).length : Int) = t.length + 1 := by simp
    rw [e]
    split
    · omega
    · have := ih (nxI a c.toNat) (k + 1) (by omega)
      omega

theorem fRun_neg (l : List UInt8) : ∀ (a k : Int), 0 ≤ k → decide (fRun a l k < 0) = acc a l := by
  induction l with
  | nil => intro a k h; show decide ((if whI a then -1 else k) < 0) = whI a; cases whI a <;> simp; omega
  | cons c t ih =>
    intro a k h
    show decide ((if nxI a c.toNat = 0 then k else fRun _ t (k + 1)) < 0) = (if nxI a c.toNat = 0 then false else acc _ t)
    split
    · simp; omega
    · exact ih _ _ (by omega)

def RelCount (s : ByteArray) (W wr : World) (m i : Value) : Prop :=
  ∃ (k : Nat) (a : Int) (n : Nat), k ≤ s.size ∧ n ≤ k ∧ i = .int .i64 k ∧ m = .int .i64 n ∧ StA a ∧ Own wr W.heap.size 75 #[.int .i64 a] ∧ Below W.heap.size W wr ∧ cRun 0 s.data.toList 0 0 = cRun a (s.data.toList.drop k) k n

end Go.Proofs.YthpkcapooeedeaaDoor
