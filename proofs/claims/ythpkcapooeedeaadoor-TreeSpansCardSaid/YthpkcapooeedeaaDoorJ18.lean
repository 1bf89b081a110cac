/- Slices of pointers to values, and of pairs of them; how much a value holds. -/
import Derived.Test.YthpkcapooeedeaaDoorJ17
import Derived.Deep.DeepMust
import Derived.Deep.RegionLaw
namespace Go.Proofs.YthpkcapooeedeaaDoor
open Go.RowKit
set_option linter.unusedVariables false

/-- Slices of pointers. -/
def ptrK : RowK (Option Addr) where
  T := 38
  S := 39
  n := 1
  bytes := 8
  zero := .pointer none
  enc := fun a => [.pointer a]
  pos := by decide
  len := fun _ => rfl
  one := fun s u h => by simp at h; subst h; rfl
  under := Tryd.underlying39
  info := by kernel_rfl
  zlen := rfl
  small := by decide
/-- Slices of pairs of pointers. -/
def pairK : RowK (Addr × Addr) where
  T := 65
  S := 66
  n := 2
  bytes := 16
  zero := .agg #[.pointer none, .pointer none]
  enc := fun a => [.pointer (some a.1), .pointer (some a.2)]
  pos := by decide
  len := fun _ => rfl
  one := fun s u h => by
    simp at h
    rcases h with rfl | rfl <;> rfl
  under := Tryd.underlying66
  info := by kernel_rfl
  zlen := rfl
  small := by decide

mutual
/-- How many values, and names, are in a value, itself counted. -/
def sizeT : Tree → Nat
  | .mk _ _ _ _ items names => 1 + names.length + sizeL items
def sizeL : List Tree → Nat
  | [] => 0
  | t :: ts => sizeT t + sizeL ts
end
theorem sizeT_pos : ∀ t : Tree, 1 ≤ sizeT t
  | .mk _ _ _ _ _ _ => by unfold sizeT; omega
theorem sizeL_len : ∀ ts : List Tree, ts.length ≤ sizeL ts
  | [] => Nat.le_refl _
  | t :: ts => by
    have := sizeL_len ts
    have := sizeT_pos t
    unfold sizeL
    simp
    omega
theorem sizeL_app : ∀ ts us : List Tree, sizeL (ts ++ us) = sizeL ts + sizeL us
  | [], us => by simp [sizeL]
  | t :: ts, us => by
    show sizeT t + sizeL (ts ++ us) = sizeT t + sizeL ts + sizeL us
    rw [sizeL_app ts us]
    omega
theorem sizeL_mem {t : Tree} : ∀ {ts : List Tree}, t ∈ ts → sizeT t ≤ sizeL ts
  | u :: ts, h => by
    rcases List.mem_cons.1 h with rfl | h
    · unfold sizeL; omega
    · have := sizeL_mem h
      unfold sizeL; omega

/-- The cells of a value at a place. -/
def CellsAt (w : World) (p : Addr) (x : V6) : Prop := ∃ b o : Nat, p = ⟨b, o, none⟩ ∧ b < w.heap.size ∧ ∀ j u, (v6Cells x)[j]? = some u → w.cell? ⟨b, o + j, none⟩ = some u
section
variable {w w' : World} {p : Addr} {x : V6}
theorem CellsAt.below (h : CellsAt w p x) (hb : Below w.heap.size w w') : CellsAt w' p x := by
  obtain ⟨b, o, rfl, h1, h2⟩ := h
  exact ⟨b, o, rfl, by have := hb.size; omega, fun j u hu => (hb.cell (p := ⟨b, o + j, none⟩) h1).trans (h2 j u hu)⟩
theorem CellsAt.of_own {b : Nat} {T : TypeId} (h : Own w b T (v6Cells x).toArray) : CellsAt w ⟨b, 0, none⟩ x :=
  ⟨b, 0, rfl, h.inside, fun j u hu => by rw [Nat.zero_add, h.at j]; simpa using hu⟩
/-- An item's cells. -/
theorem RdG.item {A : Option Addr} {m : Nat} {xs : List V6} (h : RdG valK w A m xs) {i : Nat} (hx : xs[i]? = some x) : ∃ b o : Nat, A = some ⟨b, o, none⟩ ∧ CellsAt w ⟨b, o + i * 6, none⟩ x := by
  have hi : i < xs.length := (List.getElem?_eq_some_iff.1 hx).1
  obtain ⟨b, o, e, hlt, _⟩ := h.2 (by have := h.1; omega)
  refine ⟨b, o, e, b, o + i * 6, rfl, hlt, fun j u hu => ?_⟩
  have := h.at e hx (j := j) (u := u) hu
  rw [show valK.n = 6 from rfl, ← Nat.add_assoc] at this
  exact this
end

/-- Appending elements, as one step of a region that draws. -/
theorem step_row_app {α : Type} {KK : RowK α} {ops : Array Oper} {o : Oper} {a : Act} {w : World} {K : Act → World → Prop} {Q : Exit → Act → World → Prop} {E : Prop} (hgd : o.guard = none) (s x : Operand) (ho : o.op = .call { callee := .builtin .append, args := #[s, x], argTypes := #[KK.S, KK.S] })
    (base : Nat) (v : Value) (l : List α) (hs : a.eval s = v) (hown : GRow KK w base v l) (A : Option Addr) (m c : Nat) (news : List α) (hx : a.eval x = .slice A m c) (hr : RdG KK w A m news)
    (h63 : l.length + m ≤ 1000000000) (hbase : base ≤ w.heap.size)
    (hK : ∀ v' w', GRow KK w' base v' (l ++ news) → w.grownBy w' v.ownBlock → (v'.ownBlock = v.ownBlock ∨ v'.ownBlock = some w.heap.size) → K (a.put o.dst v') w') : if Region.wanted o (yielded ops a.tmps) = true then Oper.wp Tryd.prog o a w K Q else E := by
  have hw : Region.wanted o (yielded ops a.tmps) = true := by simp [Region.wanted, hgd]
  rw [if_pos hw]
  obtain ⟨v', w', hrun, h2, h3, h5⟩ := run_row_append w base o.type v l hown A m c news hr h63 hbase
  unfold Oper.wp execOp
  simp only [ho, resolve, invoke, builtin, Sem.run_bind, Sem.run_pure, Result.andThen_ok, List.map_toArray, List.map_cons, List.map_nil, hs, hx, hrun]
  exact hK v' w' h2 h3 h5

end Go.Proofs.YthpkcapooeedeaaDoor

namespace Go.Proofs.YthpkcapooeedeaaDoor
open Go.RowKit
set_option linter.unusedVariables false

theorem ba_mk {s t : List UInt8} (h : s ≠ t) : (⟨s.toArray⟩ : ByteArray) ≠ ⟨t.toArray⟩ := fun e => h (by
  injection e with e
  simpa using e)
theorem str_same (s : List UInt8) : ((⟨s.toArray⟩ : ByteArray).toList == (⟨s.toArray⟩ : ByteArray).toList) = true := by simp
theorem str_other {s t : List UInt8} (h : s ≠ t) : ((⟨s.toArray⟩ : ByteArray).toList == (⟨t.toArray⟩ : ByteArray).toList) = false := str_ne (ba_mk h)
/-- Where the lists are the same, up to somewhere. -/
def RelEq (l l' : List (List UInt8)) (W wr : World) (v : Value) : Prop := ∃ k q : Nat, v = .int .i64 k ∧ k ≤ l.length ∧ l.take k = l'.take k ∧ wr = W.drewN q
theorem nam_at {w : World} {A : Option Addr} {m : Nat} {l : List (List UInt8)} (h : RdG namK w A m l) (hm : 0 < m) : ∃ b o : Nat, A = some ⟨b, o, none⟩ ∧ ∀ q k (hk : k < l.length), (w.drewN q).cell? ⟨b, o + k, none⟩ = some (.string ⟨l[k].toArray⟩) := by
  obtain ⟨b, o, e, _, _⟩ := h.2 hm
  refine ⟨b, o, e, fun q k hk => ?_⟩
  have := h.at e (List.getElem?_eq_getElem hk) (j := 0) rfl
  simpa [show namK.n = 1 from rfl] using this

set_option maxRecDepth 100000 in
set_option maxHeartbeats 1000000 in
theorem equal_any (A B : Option Addr) (m c n d : Nat) (l l' : List (List UInt8)) (W : World) (h1 : RdG namK W A m l) (h2 : RdG namK W B n l') (hb : l.length ≤ 1000000) :
    Calls Tryd.prog 30 #[.slice A m c, .slice B n d] W fun e w' => e = .returned (.bool (decide (l = l'))) ∧ ∃ q, w' = W.drewN q := by
  have hl1 := h1.1
  have hl2 := h2.1
  subst hl1 hl2
  by_cases hlen : l.length = l'.length
  · have hz : ((l.length : Int) != (l'.length : Int)) = false := by simp [hlen]
    go_enter Tryd.func30, Tryd.ntmps30
    go_wp2
    go_loopw [13] (fun i wr => RelEq l l' W wr i) (fun i _ => l.length - (intOf i).toNat)
    case atStart => exact ⟨0, 0, rfl, Nat.zero_le _, rfl, rfl⟩
    case round =>
      obtain ⟨k, q, rfl, hk, hp, hq⟩ := hrel
      have HQ := Lib.hid hq
      by_cases hlt : k < l.length
      · obtain ⟨b1, o1, rfl, g1⟩ := nam_at h1 (by omega)
        obtain ⟨b2, o2, rfl, g2⟩ := nam_at h2 (by omega)
        have c1 := g1 q k hlt
        have c2 := g2 q k (by omega)
        rw [← hq] at c1 c2
        have hlt1 : (k : Int) < (l.length : Int) := by omega
        have hlt2 : (k : Int) < (l'.length : Int) := by omega
        have hk0 : (0 : Int) ≤ (k : Int) := by omega
        have et : l.take (k + 1) = l.take k ++ [l[k]] := List.take_succ_eq_append_getElem hlt
        have et' : l'.take (k + 1) = l'.take k ++ [l'[k]] := List.take_succ_eq_append_getElem (by omega)
        have HE := Lib.hid (show l[k] ≠ l'[k] → l ≠ l' from fun h e => h (by simp [e]))
        have hP : l[k] = l'[k] → l.take (k + 1) = l'.take (k + 1) := fun h => by rw [et, et', hp, h]
        clear g1 g2 et et' hp hq
        generalize l[k] = s at *
        generalize l'[k] = t at *
        by_cases hst : s = t
        · have HP := Lib.hid (hP hst)
          subst hst
          clear hP HE
          go_wp2
          go_quiet (fail)
          go_wp2
          go_roundw
          case rel => exact ⟨k + 1, _, by go_num, hlt, HP.out, by rw [HQ.out]; exact World.drewN_drewN _ _ _⟩
          case measure => simp [intOf]; omega
        · have HE' := Lib.hid (HE.out hst)
          have hs : (s == t) = false := beq_eq_false_iff_ne.2 hst
          clear hP HE
          go_wp2
          go_quiet (fail)
          go_wp2
          go_ret
          exact ⟨by rw [decide_eq_false (HE'.out)]; rfl, _, by rw [HQ.out]; exact World.drewN_drewN _ _ _⟩
      · obtain rfl : k = l.length := by omega
        rw [List.take_length, hlen, List.take_length] at hp
        subst hp
        clear hq
        go_wp2
        go_ret
        exact ⟨by simp, _, HQ.out⟩
  · have hz : ((l.length : Int) != (l'.length : Int)) = true := by simp; omega
    go_enter Tryd.func30, Tryd.ntmps30
    go_wp2
    go_ret
    exact ⟨by rw [decide_eq_false (fun e => hlen (by rw [e]))]; rfl, 0, rfl⟩

/-- The cells of a value that its fields lie in. -/
theorem CellsAt.six {w : World} {p : Addr} {x : V6} (h : CellsAt w p x) : ∃ b o : Nat, p = ⟨b, o, none⟩ ∧ b < w.heap.size ∧ w.cell? ⟨b, o, none⟩ = some (.int .i64 x.kd) ∧ w.cell? ⟨b, o + 1, none⟩ = some (.int .i64 x.fr) ∧ w.cell? ⟨b, o + 2, none⟩ = some (.int .i64 x.to) ∧
    w.cell? ⟨b, o + 3, none⟩ = some (.string ⟨x.tx.toArray⟩) ∧ w.cell? ⟨b, o + 4, none⟩ = some (.slice x.A x.n x.c) ∧ w.cell? ⟨b, o + 5, none⟩ = some (.slice x.B x.m x.d) := by
  obtain ⟨b, o, e, hb, g⟩ := h
  exact ⟨b, o, e, hb, g 0 _ rfl, g 1 _ rfl, g 2 _ rfl, g 3 _ rfl, g 4 _ rfl, g 5 _ rfl⟩

set_option maxRecDepth 100000 in
set_option maxHeartbeats 4000000 in
theorem alike_any (x y : V6) (nx ny : List (List UInt8)) (p q : Addr) (w : World) (hx : CellsAt w p x) (hy : CellsAt w q y) (hnx : RdG namK w x.B x.m nx) (hny : RdG namK w y.B y.m ny) (hb : nx.length ≤ 1000000) :
    Calls Tryd.prog 21 #[.pointer (some p), .pointer (some q)] w fun e w' => e = .returned (.bool (decide (x.kd = y.kd) && decide (x.tx = y.tx) && decide (nx = ny) && decide (x.n = y.n))) ∧ ∃ n, w' = w.drewN n := by
  obtain ⟨b1, o1, rfl, _, a0, _, _, a3, a4, a5⟩ := hx.six
  obtain ⟨b2, o2, rfl, _, c0, _, _, c3, c4, c5⟩ := hy.six
  have HE := Lib.hid (fun m => equal_any x.B y.B x.m x.d y.m y.d nx ny (w.drewN m) hnx hny hb)
  obtain ⟨kd, fr, to, tx, A, n, c, B, m, d⟩ := x
  obtain ⟨kd', fr', to', tx', A', n', c', B', m', d'⟩ := y
  simp only at a0 a3 a4 a5 c0 c3 c4 c5 HE
  clear hx hy hnx hny
  show Calls _ _ _ _ fun e w' => e = .returned (.bool (decide (kd = kd') && decide (tx = tx') && decide (nx = ny) && decide (n = n'))) ∧ _
  by_cases h1 : kd = kd'
  · subst h1
    by_cases h2 : tx = tx'
    · subst h2
      by_cases h3 : nx = ny
      · have e3 : decide (nx = ny) = true := decide_eq_true h3
        rw [e3]
        simp only [e3] at HE
        clear h3 e3
        by_cases h4 : n = n'
        · subst h4
          go_enter Tryd.func21, Tryd.ntmps21
          go_wp2
          go_quiet ((go_at_call 30; exact Calls.quiet_of (HE.out _)))
          go_wp2
          go_ret
          exact ⟨by simp, _, rfl⟩
        · have e4 : ((n : Int) == (n' : Int)) = false := beq_eq_false_iff_ne.2 (by omega)
          rw [decide_eq_false h4]
          go_enter Tryd.func21, Tryd.ntmps21
          go_wp2
          go_quiet ((go_at_call 30; exact Calls.quiet_of (HE.out _)))
          go_wp2
          go_ret
          exact ⟨by simp, _, rfl⟩
      · have e3 : decide (nx = ny) = false := decide_eq_false h3
        rw [e3]
        simp only [e3] at HE
        clear h3 e3
        go_enter Tryd.func21, Tryd.ntmps21
        go_wp2
        go_quiet ((go_at_call 30; exact Calls.quiet_of (HE.out _)))
        go_wp2
        go_ret
        exact ⟨by simp, _, rfl⟩
    · have e2 : (tx == tx') = false := beq_eq_false_iff_ne.2 h2
      rw [decide_eq_false h2]
      go_enter Tryd.func21, Tryd.ntmps21
      go_wp2
      go_quiet (fail)
      go_wp2
      go_ret
      exact ⟨by simp, _, rfl⟩
  · have e1 : (kd == kd') = false := beq_eq_false_iff_ne.2 h1
    rw [decide_eq_false h1]
    go_enter Tryd.func21, Tryd.ntmps21
    go_wp2
    go_quiet (fail)
    go_wp2
    go_ret
    exact ⟨by simp, _, rfl⟩

end Go.Proofs.YthpkcapooeedeaaDoor
