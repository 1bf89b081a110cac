/- TruthStays: what the acts come in as; pick. -/
import Derived.Test.YtfkbmecmancgpaaAlv18
import Derived.IntWalk
namespace Go.Proofs.Ytfkbmecmancgpaa
open Go.RowKit
set_option linter.unusedVariables false
set_option linter.unusedSimpArgs false

/-- An act as it came in. -/
structure ActV where
  kind : Int
  x : Int
  y : Int
  A : Option Addr
  n : Nat
  c : Nat
  l : List Int
  yes : Bool

def actCells (a : ActV) : Array Value := #[.int .i64 a.kind, .int .i64 a.x, .int .i64 a.y, .slice a.A a.n a.c, .bool a.yes]

/-- Its five cells, and its list. -/
def ActAt (w : World) (p : Addr) (a : ActV) : Prop :=
  w.cell? p = some (.int .i64 a.kind) ∧ w.cell? ⟨p.block, p.off + 1, none⟩ = some (.int .i64 a.x) ∧ w.cell? ⟨p.block, p.off + 2, none⟩ = some (.int .i64 a.y) ∧
  w.cell? ⟨p.block, p.off + 3, none⟩ = some (.slice a.A a.n a.c) ∧ w.cell? ⟨p.block, p.off + 4, none⟩ = some (.bool a.yes)

structure ActOk (w : World) (a : ActV) : Prop where
  rd : Rd w w.heap.size a.A a.n (a.l.map (Value.int .i64))
  wx : (Lit.int .i64 a.x).wf = true
  wy : (Lit.int .i64 a.y).wf = true
  wk : (Lit.int .i64 a.kind).wf = true
  wl : ∀ z ∈ a.l, (Lit.int .i64 z).wf = true
  nc : a.n ≤ a.c
  cm : a.c ≤ maxLen

/-- The acts that came in. -/
def ActsAt (w : World) (A : Option Addr) (acts : List ActV) : Prop :=
  (0 < acts.length → ∃ ad : Addr, A = some ad ∧ ad.block < w.heap.size ∧ ∀ i (h : i < acts.length), ActAt w (ad.add (i * 5)) acts[i]) ∧ ∀ a ∈ acts, ActOk w a

theorem ActAt.stay {w w' : World} {p : Addr} {a : ActV} {B : Nat} (h : ActAt w p a) (hb : Below B w w') (hp : p.block < B) : ActAt w' p a :=
  ⟨(hb.cell hp).trans h.1, (hb.cell (p := ⟨p.block, p.off + 1, none⟩) hp).trans h.2.1, (hb.cell (p := ⟨p.block, p.off + 2, none⟩) hp).trans h.2.2.1, (hb.cell (p := ⟨p.block, p.off + 3, none⟩) hp).trans h.2.2.2.1, (hb.cell (p := ⟨p.block, p.off + 4, none⟩) hp).trans h.2.2.2.2⟩

/-- Which one is picked. -/
def pickI (L : Nat) (x : Int) : Int := (x.tmod L + L).tmod L
theorem pickI_in {L : Nat} (hL : 0 < L) (x : Int) : 0 ≤ pickI L x ∧ pickI L x < L := by
  unfold pickI
  have h1 : -(L : Int) < x.tmod L ∧ x.tmod L < L := by
    constructor
    · have := Int.lt_tmod_of_pos x (show (0 : Int) < L by omega); omega
    · exact Int.tmod_lt_of_pos x (by omega)
  have h2 : 0 ≤ x.tmod L + L := by omega
  exact ⟨Int.tmod_nonneg _ h2, Int.tmod_lt_of_pos _ (by omega)⟩

theorem pick_index {ts : List Nat} (h : ts ≠ []) (x : Int) : (pickI ts.length x).toNat < ts.length := by
  have h0 : 0 < ts.length := List.length_pos_iff.2 h
  have := pickI_in h0 x
  omega
def pickT (ts : List Nat) (x : Int) : Nat := ts.getD (pickI ts.length x).toNat 2
theorem pickT_mem {ts : List Nat} (h : ts ≠ []) (x : Int) : pickT ts x ∈ ts := by
  unfold pickT
  have := pick_index h x
  rw [List.getD_eq_getElem?_getD, List.getElem?_eq_getElem this]
  exact List.getElem_mem this

set_option maxHeartbeats 4000000 in
theorem pick_any (ts : List Nat) (x : Int) (hx : (Lit.int .i64 x).wf = true) (hn : ts ≠ []) (h9 : ts.length ≤ 1000) (w : World) (q base c : Nat) (A : Option Addr) (hq : w.cell? ⟨q, 0, none⟩ = some (.slice A ts.length c)) (hr : w.ownsRow base 3 1 (.slice A ts.length c) ts.length (nums ts)) :
    Calls Try.prog 17 #[.int .i64 x, .pointer (some ⟨q, 0, none⟩)] w fun e w' => e = .returned (.int .i64 (pickT ts x)) ∧ ∃ m, w' = w.drewN m := by
  have h0 : 0 < ts.length := List.length_pos_iff.2 hn
  have hi := pick_index hn x
  obtain ⟨g, rfl, _, _⟩ := row_form hr h0
  obtain ⟨_, hc, _⟩ := row_cell hr _ hi
  have hI := pickI_in h0 x
  have hm : -(ts.length : Int) < x.tmod ts.length ∧ x.tmod ts.length < ts.length := by
    constructor
    · have := Int.lt_tmod_of_pos x (show (0 : Int) < ts.length by omega); omega
    · exact Int.tmod_lt_of_pos x (by omega)
  have e1 : IntKind.i64.wrap (x.tmod ts.length) = x.tmod ts.length := by rw [IntKind.wrap_i64]; omega
  have e2 : IntKind.i64.wrap (x.tmod ts.length + ts.length) = x.tmod ts.length + ts.length := by rw [IntKind.wrap_i64]; omega
  have e3 : IntKind.i64.wrap ((x.tmod ts.length + ts.length).tmod ts.length) = pickI ts.length x := by
    show IntKind.i64.wrap (pickI ts.length x) = _
    rw [IntKind.wrap_i64]; omega
  have e4 : (x.tmod ts.length + ts.length).tmod ts.length = pickI ts.length x := rfl
  have hne : ((ts.length : Nat) : Int) ≠ 0 := by omega
  have hv : ts.getD (pickI ts.length x).toNat 2 = pickT ts x := rfl
  rw [hv] at hc
  generalize pickT ts x = v at *
  generalize hi2 : pickI ts.length x = i at *
  clear hv hr hn
  go_enter Try.func17, Try.ntmps17
  go_wp2
  go_quiet (fail)
  go_wp2
  go_ret
  exact ⟨rfl, _, rfl⟩
end Go.Proofs.Ytfkbmecmancgpaa
