/- The walk of LexSpans, over what package lex's All is proved to do. -/
import Derived.Test.YtoahnbjpmbhpfaaDoorM07
import Derived.Lib.SlBytesConst
namespace Go.Proofs.YtoahnbjpmbhpfaaDoor
open Go.RowKit

def tokCells (t : Tok) : List Value := [.int .i64 t.kind, .bool t.begun, .int .i64 t.fr, .int .i64 t.to, .string ⟨t.text.toArray⟩]
/-- v is a slice of tokens. -/
def Toks (w : World) (v : Value) (ts : List Tok) : Prop :=
  ∃ (A : Option Addr) (c : Nat), v = .slice A ts.length c ∧ ts.length ≤ c ∧ ts.length ≤ 1000000 ∧ (0 < ts.length → ∃ b o : Nat, A = some ⟨b, o, none⟩ ∧ b < w.heap.size ∧ ∀ (i : Nat) (t : Tok), ts[i]? = some t →
    w.cell? ⟨b, o + i * 5, none⟩ = some (.int .i64 t.kind) ∧ w.cell? ⟨b, o + i * 5 + 1, none⟩ = some (.bool t.begun) ∧ w.cell? ⟨b, o + i * 5 + 2, none⟩ = some (.int .i64 t.fr) ∧
    w.cell? ⟨b, o + i * 5 + 3, none⟩ = some (.int .i64 t.to) ∧ w.cell? ⟨b, o + i * 5 + 4, none⟩ = some (.string ⟨t.text.toArray⟩))
theorem Toks.stay {w w' : World} {v : Value} {ts : List Tok} (h : Toks w v ts) {B : Nat} (hb : Below B w w') (hB : w.heap.size ≤ B) : Toks w' v ts := by
  obtain ⟨A, c, e, h1, h2, h3⟩ := h
  refine ⟨A, c, e, h1, h2, fun hn => ?_⟩
  obtain ⟨b, o, e, hlt, hc⟩ := h3 hn
  refine ⟨b, o, e, by have := hb.size; omega, fun i t ht => ?_⟩
  obtain ⟨g1, g2, g3, g4, g5⟩ := hc i t ht
  have hcell : ∀ k, w'.cell? ⟨b, k, none⟩ = w.cell? ⟨b, k, none⟩ := fun k => hb.cell (p := ⟨b, k, none⟩) (by show b < B; omega)
  exact ⟨(hcell _).trans g1, (hcell _).trans g2, (hcell _).trans g3, (hcell _).trans g4, (hcell _).trans g5⟩

theorem Rd.of_block {w : World} {b : Nat} {t : TypeId} {l : List Value} {k : Nat} {fr : Nat × Nat} (h : w.heap[b]? = some (.cells l.toArray t fr)) (hk : l.length = k) : Rd w (b + 1) (some ⟨b, 0, none⟩) k l := by
  refine ⟨hk, fun _ => ⟨_, rfl, Nat.lt_succ_self _, fun j u hu => ?_⟩⟩
  rw [add_none, cell_of_row w b _ l.toArray t fr h]
  simpa using hu

/-- What All does. -/
def AllC (T : World → Prop) : Prop := ∀ (A : Option Addr) (len cap : Nat) (l : List UInt8) (w : World), Rd w w.heap.size A len (byteCells l) → len ≤ 3000 → T w →
  Calls Tryd.prog 5 #[.slice A len cap] w fun e w' => ∃ v, e = .returned (.tuple #[v, .agg #[.int .i64 (lexR l).2.1, .int .i64 (lexR l).2.2]]) ∧ Toks w' v (lexR l).1 ∧ Below w.heap.size w w'
def Lasts (T : World → Prop) : Prop := ∀ w w', T w → Below w.heap.size w w' → T w'

set_option maxRecDepth 100000 in
set_option maxHeartbeats 1000000 in
theorem alive7_any {T : World → Prop} (hA : AllC T) (hL : Lasts T) (W : World) (hT : T W) :
    Calls Tryd.prog 4 #[] W fun e w' => e = .returned (.bool true) ∧ Below W.heap.size W w' := by
  have hb0 : Below W.heap.size W (W.alloc (.cells #[.int .u8 91, .int .u8 49, .int .u8 50, .int .u8 93] 5 (4, 5))) := (Below.refl W.heap.size W).alloc (Nat.le_refl _) _
  have hT0 := hL _ _ hT hb0
  have hh : (W.alloc (.cells (byteCells [91, 49, 50, 93]).toArray 5 (4, 5))).heap[W.heap.size]? = some (.cells (byteCells [91, 49, 50, 93]).toArray 5 (4, 5)) := heap_alloc_new W _
  have KA := hA (some ⟨W.heap.size, 0, none⟩) 4 4 [91, 49, 50, 93] _ ((Rd.of_block hh rfl).more (show W.heap.size + 1 ≤ (W.alloc (.cells (byteCells [91, 49, 50, 93]).toArray 5 (4, 5))).heap.size by simp)) (by decide) hT0
  rw [show lexR [91, 49, 50, 93] = ([⟨2, false, 0, 1, []⟩, ⟨9, true, 1, 1, []⟩, ⟨9, false, 1, 3, [49, 50]⟩, ⟨3, false, 3, 4, []⟩], 1, 4) by kernel_rfl] at KA
  replace KA := Lib.hid KA
  have kc := fun (w : World) (C : Array Value) (n c : Nat) => Lib.run_convert_bytes_const (P := Tryd.prog) w 22 5 C n c Tryd.underlying22 Tryd.underlying5
  clear hA hh
  go_enter Tryd.func4, Tryd.ntmps4
  go_wp2_with (first
    | (go_at_call 5; refine KA.out.mono ?_; rintro e w1 ⟨v, rfl, htk, hb1⟩
       obtain ⟨A, c, rfl, hc1, hc2, hcell⟩ := htk
       obtain ⟨b, o, rfl, hbl, hcell⟩ := hcell (by decide)
       obtain ⟨c10, c11, c12, c13, c14⟩ := hcell 1 _ rfl
       obtain ⟨c20, c21, c22, c23, c24⟩ := hcell 2 _ rfl
       clear hcell
       simp only [] at c10 c11 c12 c13 c14 c20 c21 c22 c23 c24))
  go_ret
  exact ⟨rfl, (hb0.trans (hb1.mono (by have := hb0.size; simp))).alloc (by have := hb0.size; have := hb1.size; simp at this ⊢; omega) _⟩

end Go.Proofs.YtoahnbjpmbhpfaaDoor
