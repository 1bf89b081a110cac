/- The contracts of package literal. -/
import Derived.Test.YtoahnbjpmbhpfaaDoorLaid
import Derived.Outline
import Derived.Deep.DeepMust
namespace Go.Proofs.YtoahnbjpmbhpfaaDoor
open Go.RowKit

def wT : ByteArray := ⟨#[116, 114, 117, 101]⟩
def wF : ByteArray := ⟨#[102, 97, 108, 115, 101]⟩
def wN : ByteArray := ⟨#[110, 117, 108, 108]⟩
def tabV : Array Value := #[.string wT, .int .i64 1, .string wF, .int .i64 1, .string wN, .int .i64 0]
/-- The table of words lies in its block. -/
def Tab (w : World) : Prop := ∃ t, Own w 0 t tabV

theorem Tab.cells {w : World} (h : Tab w) : w.cell? ⟨0, 0, none⟩ = some (.string wT) ∧ w.cell? ⟨0, 1, none⟩ = some (.int .i64 1) ∧ w.cell? ⟨0, 2, none⟩ = some (.string wF) ∧
    w.cell? ⟨0, 3, none⟩ = some (.int .i64 1) ∧ w.cell? ⟨0, 4, none⟩ = some (.string wN) ∧ w.cell? ⟨0, 5, none⟩ = some (.int .i64 0) := by
  obtain ⟨t, h⟩ := h
  exact ⟨h.at 0, h.at 1, h.at 2, h.at 3, h.at 4, h.at 5⟩
theorem Tab.stay {w w' : World} {B : Nat} (h : Tab w) (hb : Below B w w') (hB : 0 < B) : Tab w' := by
  obtain ⟨t, h⟩ := h
  exact ⟨t, h.stay hb hB⟩

theorem at0 (w : World) : (Instr.index 84 (.agg #[.string wT, .int .i64 1, .string wF, .int .i64 1, .string wN, .int .i64 0]) (.int .i64 0)).run Tryd.prog w = .ok (.agg #[.string wT, .int .i64 1]) w := by kernel_rfl
theorem at1 (w : World) : (Instr.index 84 (.agg #[.string wT, .int .i64 1, .string wF, .int .i64 1, .string wN, .int .i64 0]) (.int .i64 1)).run Tryd.prog w = .ok (.agg #[.string wF, .int .i64 1]) w := by kernel_rfl
theorem at2 (w : World) : (Instr.index 84 (.agg #[.string wT, .int .i64 1, .string wF, .int .i64 1, .string wN, .int .i64 0]) (.int .i64 2)).run Tryd.prog w = .ok (.agg #[.string wN, .int .i64 0]) w := by kernel_rfl

theorem zT : wT.size = 4 := rfl
theorem zF : wF.size = 5 := rfl
theorem zN : wN.size = 4 := rfl
theorem hdT (h : 0 < wT.size) : (wT[0].toNat : Int) = 116 := rfl
theorem hdF (h : 0 < wF.size) : (wF[0].toNat : Int) = 102 := rfl
theorem hdN (h : 0 < wN.size) : (wN[0].toNat : Int) = 110 := rfl

theorem below3 (w : World) (a b c : Obj) : Below w.heap.size w (((w.alloc a).alloc b).alloc c) :=
  have h := below2 w a b
  h.alloc h.size c

set_option maxHeartbeats 1000000 in
theorem begun_t (W : World) (h : Tab W) :
    Calls Tryd.prog 33 #[.int .u8 116] W fun e w' => e = .returned (.string wT) ∧ Below W.heap.size W w' := by
  obtain ⟨c0, c1, c2, c3, c4, c5⟩ := h.cells
  have i0 := at0
  have zt : 0 < wT.size := by decide
  have ht := hdT zt
  go_enter Tryd.func33, Tryd.ntmps33
  go_wp2
  refine wp_loop_rounds 3 ?_
  rw [rounds_succ]
  go_wp2
  go_ret
  exact ⟨rfl, (Below.refl _ _).alloc (Nat.le_refl _) _⟩

set_option maxHeartbeats 1000000 in
theorem begun_f (W : World) (h : Tab W) :
    Calls Tryd.prog 33 #[.int .u8 102] W fun e w' => e = .returned (.string wF) ∧ Below W.heap.size W w' := by
  obtain ⟨c0, c1, c2, c3, c4, c5⟩ := h.cells
  have i0 := at0
  have i1 := at1
  have zt : 0 < wT.size := by decide
  have ht := hdT zt
  have zf : 0 < wF.size := by decide
  have hf := hdF zf
  go_enter Tryd.func33, Tryd.ntmps33
  go_wp2
  refine wp_loop_rounds 3 ?_
  rw [rounds_succ]
  go_wp2
  rw [rounds_succ]
  go_wp2
  go_ret
  exact ⟨rfl, below2 _ _ _⟩

set_option maxHeartbeats 1000000 in
theorem begun_n (W : World) (h : Tab W) :
    Calls Tryd.prog 33 #[.int .u8 110] W fun e w' => e = .returned (.string wN) ∧ Below W.heap.size W w' := by
  obtain ⟨c0, c1, c2, c3, c4, c5⟩ := h.cells
  have i0 := at0
  have i1 := at1
  have i2 := at2
  have zt : 0 < wT.size := by decide
  have ht := hdT zt
  have zf : 0 < wF.size := by decide
  have hf := hdF zf
  have zn : 0 < wN.size := by decide
  have hn := hdN zn
  go_enter Tryd.func33, Tryd.ntmps33
  go_wp2
  refine wp_loop_rounds 4 ?_
  rw [rounds_succ]
  go_wp2
  rw [rounds_succ]
  go_wp2
  rw [rounds_succ]
  go_wp2
  go_ret
  exact ⟨rfl, below3 _ _ _ _⟩

set_option maxHeartbeats 1000000 in
theorem begun_no (c : Int) (h1 : c ≠ 116) (h2 : c ≠ 102) (h3 : c ≠ 110) (W : World) (h : Tab W) :
    Calls Tryd.prog 33 #[.int .u8 c] W fun e w' => e = .returned (.string ⟨#[]⟩) ∧ Below W.heap.size W w' := by
  obtain ⟨c0, c1, c2, c3, c4, c5⟩ := h.cells
  have i0 := at0
  have i1 := at1
  have i2 := at2
  have zt : 0 < wT.size := by decide
  have ht := hdT zt
  have zf : 0 < wF.size := by decide
  have hf := hdF zf
  have zn : 0 < wN.size := by decide
  have hn := hdN zn
  have g1 : ((116 : Int) == c) = false := beq_eq_false_iff_ne.2 (Ne.symm h1)
  have g2 : ((102 : Int) == c) = false := beq_eq_false_iff_ne.2 (Ne.symm h2)
  have g3 : ((110 : Int) == c) = false := beq_eq_false_iff_ne.2 (Ne.symm h3)
  go_enter Tryd.func33, Tryd.ntmps33
  go_wp2
  refine wp_loop_rounds 4 ?_
  rw [rounds_succ]
  go_wp2
  rw [rounds_succ]
  go_wp2
  rw [rounds_succ]
  go_wp2
  rw [rounds_succ]
  go_wp2
  go_ret
  exact ⟨rfl, below3 _ _ _ _⟩

set_option maxHeartbeats 1000000 in
theorem lword_any (b k : Nat) (t : ByteArray) (w : World) (h : Own w b 47 #[.string t, .int .i64 k]) (hk : k ≤ t.size) :
    Calls Tryd.prog 23 #[.pointer (some ⟨b, 0, none⟩)] w fun e w' => e = .returned (.string (t.extract 0 k)) ∧ ∃ q, w' = w.drewN q := by
  have c0 := h.at 0
  have c1 := h.at 1
  simp at c0 c1
  go_enter Tryd.func23, Tryd.ntmps23
  go_wp2
  go_quiet (fail)
  go_wp2
  go_ret
  exact ⟨rfl, _, rfl⟩

/-- Behind the end. -/
theorem lstep_end (b k : Nat) (t : ByteArray) (c : Int) (w : World) (h : Own w b 47 #[.string t, .int .i64 k]) (h0 : 0 < k) (hk : k = t.size) :
    Calls Tryd.prog 22 #[.pointer (some ⟨b, 0, none⟩), .int .u8 c] w fun e w' => e = .returned (.int .i64 2) ∧ w = w' := by
  have c0 := h.at 0
  have c1 := h.at 1
  simp at c0 c1
  have g0 : ((k : Int) == 0) = false := beq_eq_false_iff_ne.2 (by omega)
  subst hk
  go_enter Tryd.func22, Tryd.ntmps22
  go_wp2
  go_ret
  exact ⟨rfl, rfl⟩

theorem lstep_no (b k : Nat) (t : ByteArray) (c : Int) (w : World) (h : Own w b 47 #[.string t, .int .i64 k]) (h0 : 0 < k) (hk : k < t.size) (hc : (t[k].toNat : Int) ≠ c) :
    Calls Tryd.prog 22 #[.pointer (some ⟨b, 0, none⟩), .int .u8 c] w fun e w' => e = .returned (.int .i64 2) ∧ w = w' := by
  have c0 := h.at 0
  have c1 := h.at 1
  simp at c0 c1
  have g0 : ((k : Int) == 0) = false := beq_eq_false_iff_ne.2 (by omega)
  have g1 : ((k : Int) == t.size) = false := beq_eq_false_iff_ne.2 (by omega)
  have g2 : ((t[k].toNat : Int) != c) = true := by simp [hc]
  clear hc
  go_enter Tryd.func22, Tryd.ntmps22
  go_wp2
  go_ret
  exact ⟨rfl, rfl⟩

theorem lstep_goes (b k : Nat) (t : ByteArray) (c : Int) (w : World) (h : Own w b 47 #[.string t, .int .i64 k]) (hz : t.size ≤ 5) (h0 : 0 < k) (hk : k + 1 < t.size) (hc : (t[k].toNat : Int) = c) :
    Calls Tryd.prog 22 #[.pointer (some ⟨b, 0, none⟩), .int .u8 c] w fun e w' => e = .returned (.int .i64 0) ∧ Own w' b 47 #[.string t, .int .i64 ((k + 1 : Nat) : Int)] ∧ Turned b w w' := by
  have c0 := h.at 0
  have c1 := h.at 1
  have f0 := h.free 0
  have f1 := h.free 1
  simp at c0 c1
  have g0 : ((k : Int) == 0) = false := beq_eq_false_iff_ne.2 (by omega)
  have g1 : ((k : Int) == t.size) = false := beq_eq_false_iff_ne.2 (by omega)
  have g2 : ((t[k].toNat : Int) != c) = false := by simp [hc]
  have g3 : ((k : Int) + 1 == t.size) = false := beq_eq_false_iff_ne.2 (by omega)
  have k1 : k < t.size := by omega
  clear hc
  go_enter Tryd.func22, Tryd.ntmps22
  go_wp2
  go_ret
  exact ⟨rfl, by simpa using (h.put 0 (.string t)).put 1 (.int .i64 ((k : Int) + 1)), ((Turned.refl b w).put 0 _).put 1 _⟩

theorem lstep_done (b k : Nat) (t : ByteArray) (c : Int) (w : World) (h : Own w b 47 #[.string t, .int .i64 k]) (hz : t.size ≤ 5) (h0 : 0 < k) (k1 : k < t.size) (k2 : t.size ≤ k + 1) (hc : (t[k].toNat : Int) = c) :
    Calls Tryd.prog 22 #[.pointer (some ⟨b, 0, none⟩), .int .u8 c] w fun e w' => e = .returned (.int .i64 1) ∧ Own w' b 47 #[.string t, .int .i64 ((k + 1 : Nat) : Int)] ∧ Turned b w w' := by
  have c0 := h.at 0
  have c1 := h.at 1
  have f0 := h.free 0
  have f1 := h.free 1
  simp at c0 c1
  have g0 : ((k : Int) == 0) = false := beq_eq_false_iff_ne.2 (by omega)
  have g1 : ((k : Int) == t.size) = false := beq_eq_false_iff_ne.2 (by omega)
  have g2 : ((t[k].toNat : Int) != c) = false := by simp [hc]
  have g3 : ((k : Int) + 1 == t.size) = true := beq_iff_eq.2 (by omega)
  clear hc
  go_enter Tryd.func22, Tryd.ntmps22
  go_wp2
  go_ret
  exact ⟨rfl, by simpa using (h.put 0 (.string t)).put 1 (.int .i64 ((k : Int) + 1)), ((Turned.refl b w).put 0 _).put 1 _⟩

/-- Ahead of a word: a byte that begins none. -/
theorem lstep_none (b : Nat) (t : ByteArray) (c : Int) (h1 : c ≠ 116) (h2 : c ≠ 102) (h3 : c ≠ 110) (w : World) (hT : Tab w) (h : Own w b 47 #[.string t, .int .i64 0]) :
    Calls Tryd.prog 22 #[.pointer (some ⟨b, 0, none⟩), .int .u8 c] w fun e w' => e = .returned (.int .i64 2) ∧ Below w.heap.size w w' := by
  have c0 := h.at 0
  have c1 := h.at 1
  simp at c0 c1
  have KB := Lib.hid (fun w hw => begun_no c h1 h2 h3 w hw)
  clear h1 h2 h3
  have hin := h.inside
  go_enter Tryd.func22, Tryd.ntmps22
  go_wp2_with (go_at_call 33; refine (KB.out _ hT).mono ?_; rintro e w' ⟨rfl, hb⟩; have d1 := (h.stay hb hin).at 1; simp at d1)
  go_ret
  exact ⟨rfl, hb⟩

theorem lstep_first (b : Nat) (t t' : ByteArray) (c : Int) (hz : 1 < t'.size) (hc : (t'[0].toNat : Int) = c) (w : World) (hT : Tab w) (h : Own w b 47 #[.string t, .int .i64 0])
    (hB : ∀ w, Tab w → Calls Tryd.prog 33 #[.int .u8 c] w fun e w' => e = .returned (.string t') ∧ Below w.heap.size w w') :
    Calls Tryd.prog 22 #[.pointer (some ⟨b, 0, none⟩), .int .u8 c] w fun e w' => e = .returned (.int .i64 0) ∧ Own w' b 47 #[.string t', .int .i64 ((1 : Nat) : Int)] ∧ Turned b w w' := by
  have c0 := h.at 0
  have c1 := h.at 1
  simp at c0 c1
  have KB := Lib.hid hB
  clear hB
  have hin := h.inside
  have g1 : ((0 : Int) == t'.size) = false := beq_eq_false_iff_ne.2 (by omega)
  have g2 : ((t'[0].toNat : Int) != c) = false := by simp [hc]
  have g3 : ((1 : Int) == t'.size) = false := beq_eq_false_iff_ne.2 (by omega)
  have k1 : 0 < t'.size := by omega
  clear hc
  go_enter Tryd.func22, Tryd.ntmps22
  go_wp2_with (go_at_call 33; refine (KB.out _ hT).mono ?_; rintro e w' ⟨rfl, hb⟩; have h' := h.stay hb hin; have d0 := h'.at 0; have d1 := h'.at 1; have f0 := h'.free 0; have f1 := h'.free 1; simp at d0 d1)
  go_ret
  exact ⟨rfl, by simpa using (h'.put 0 (.string t')).put 1 (.int .i64 1), ((Turned.of_below hb rfl).put 0 _).put 1 _⟩

end Go.Proofs.YtoahnbjpmbhpfaaDoor
