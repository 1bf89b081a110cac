/- Package lex: where a lexer is, as a state. -/
import Derived.Test.YtoahnbjpmbhpfaaDoorLexT
namespace Go.Proofs.YtoahnbjpmbhpfaaDoor
open Go.RowKit
set_option linter.unusedVariables false

/-- What lies around the string's walk within a lexer. -/
def rsOf (k f : Int) (F : Nat → Prop) (N : Nat) : K4.Rest := { t := 49, pre := [.int .i64 k, .bool false, .int .i64 8, .int .i64 f], post := [.int .i64 0, .slice none 0 0, .string ⟨#[]⟩, .int .i64 0], F := fun j => F j ∨ N ≤ j, N := N, up := fun _ h => .inr h }

/-- The lexer in block b stands there, behind k bytes; all its blocks lie in F. -/
def LexIs (w : World) (b : Nat) (F : Nat → Prop) (k : Nat) : LSt → Prop
  | .out => F b ∧ Own w b 49 (LZ k false).toArray
  | .dead => F b ∧ Own w b 49 (LZ k true).toArray
  | .num a f p => F b ∧ StA a ∧ ∃ g c : Nat, Own w b 49 (LX k false 9 f zq a (.slice (some ⟨g, 0, none⟩) p.length c) ⟨#[]⟩ 0).toArray ∧
      w.ownsRow 0 5 1 (.slice (some ⟨g, 0, none⟩) p.length c) p.length (byteCells p) ∧ F g ∧ g ≠ b
  | .word f p => F b ∧ ∃ (t : ByteArray) (j : Nat), (t = wT ∨ t = wF ∨ t = wN) ∧ 1 ≤ j ∧ j < t.size ∧ p = t.data.toList.take j ∧ Own w b 49 (LX k false 10 f zq 0 (.slice none 0 0) t j).toArray
  | .str q f acc => F b ∧ q ≠ .done ∧ K4.IsQ (rsOf k f F w.heap.size) w b q acc

/-- A lexer, wherever it is. -/
def LexAny (w : World) (b k : Nat) : Prop := ∃ cs : List Value, Own w b 49 cs.toArray ∧ cs.length = 80 ∧ cs[0]? = some (.int .i64 k)

section
variable {w w' : World} {b k : Nat} {F G : Nat → Prop} {st : LSt}
theorem LX_len {k : Int} {o : Bool} {wi f : Int} {q : List Value} {na : Int} {dg : Value} {wt : ByteArray} {wa : Int} (hq : q.length = 72) : (LX k o wi f q na dg wt wa).length = 80 := by simp [LX, hq]
theorem zq_len : zq.length = 72 := by simp [zq, K4.QL]
theorem LexIs.has (h : LexIs w b F k st) : F b := by cases st <;> exact h.1
theorem LexIs.any (h : LexIs w b F k st) : LexAny w b k := by
  cases st with
  | out => exact ⟨_, h.2, LZ_len _ _, rfl⟩
  | dead => exact ⟨_, h.2, LZ_len _ _, rfl⟩
  | num a f p =>
    obtain ⟨_, _, g, c, ho, _⟩ := h
    exact ⟨_, ho, LX_len zq_len, rfl⟩
  | word f p =>
    obtain ⟨_, t, j, _, _, _, _, ho⟩ := h
    exact ⟨_, ho, LX_len zq_len, rfl⟩
  | str q f acc =>
    obtain ⟨_, _, hw, a, sg, lf, num, cnt, fst, ⟨last, signs, loose, ps, hq, _⟩, _⟩ := h
    exact ⟨_, hq.2.2, by simp [rsOf, K4.QL, hq.1], rfl⟩
theorem LexAny.inside (h : LexAny w b k) : b < w.heap.size := by
  obtain ⟨cs, h, _⟩ := h
  exact h.inside
theorem LexIs.inside (h : LexIs w b F k st) : b < w.heap.size := h.any.inside
theorem LexAny.stay (h : LexAny w b k) (hk : w'.heap[b]? = w.heap[b]?) : LexAny w' b k := by
  obtain ⟨cs, h, r⟩ := h
  exact ⟨cs, hk.trans h, r⟩

/-- The string's walk in another world. -/
theorem isQ_move {k f : Int} {N N' : Nat} {q : QSt} {acc : List UInt8} (h : K4.IsQ (rsOf k f F N) w b q acc) (hb : w'.heap[b]? = w.heap[b]?) (hN : N' ≤ w'.heap.size)
    (hs : ∀ j, j < w.heap.size → j ≠ b → F j ∨ N ≤ j → (G j ∨ N' ≤ j) ∧ w'.heap[j]? = w.heap[j]?) : K4.IsQ (rsOf k f G N') w' b q acc := by
  obtain ⟨hw, a, sg, lf, num, cnt, fst, ⟨last, signs, loose, ps, hq, hc, r⟩, r2⟩ := h
  refine ⟨hw, a, sg, lf, num, cnt, fst, ⟨last, signs, loose, ps, ⟨hq.1, rfl, hb.trans hq.2.2⟩, hc.move (Rs' := rsOf k f G N') hN (fun j hj hne hF => ?_), r⟩, r2⟩
  obtain ⟨h1, h2⟩ := hs j hj hne hF
  exact ⟨hne, h1, h2⟩
theorem LexIs.stay (h : LexIs w b F k st) (ht : Touch G w w') (hn : ∀ j, j < w.heap.size → F j → ¬ G j) : LexIs w' b F k st := by
  have hb : w'.heap[b]? = w.heap[b]? := ht.block b h.inside (hn b h.inside h.has)
  cases st with
  | out => exact ⟨h.1, hb.trans h.2⟩
  | dead => exact ⟨h.1, hb.trans h.2⟩
  | num a f p =>
    obtain ⟨h1, h2, g, c, ho, hr, hg, hne⟩ := h
    refine ⟨h1, h2, g, c, hb.trans ho, ht.row hr (fun g' e => ?_), hg, hne⟩
    obtain rfl := ownBlock_is e
    exact hn _ (hr.lt _ rfl).2 hg
  | word f p =>
    obtain ⟨h1, t, j, h2, h3, h4, h5, ho⟩ := h
    exact ⟨h1, t, j, h2, h3, h4, h5, hb.trans ho⟩
  | str q f acc =>
    obtain ⟨h1, h2, h4⟩ := h
    exact ⟨h1, h2, isQ_move h4 hb (Nat.le_refl _) (fun j hj _ hF => by
      have hF' : F j := hF.resolve_right (by omega)
      exact ⟨.inl hF', ht.block j hj (hn j hj hF')⟩)⟩
theorem LexIs.mono (h : LexIs w b F k st) (hs : ∀ j, j < w.heap.size → F j → G j) : LexIs w b G k st := by
  have hb := hs b h.inside h.has
  cases st with
  | out => exact ⟨hb, h.2⟩
  | dead => exact ⟨hb, h.2⟩
  | num a f p =>
    obtain ⟨h1, h2, g, c, ho, hr, hg, hne⟩ := h
    exact ⟨hb, h2, g, c, ho, hr, hs g (hr.lt _ rfl).2 hg, hne⟩
  | word f p => exact ⟨hb, h.2⟩
  | str q f acc =>
    obtain ⟨h1, h2, h4⟩ := h
    exact ⟨hb, h2, isQ_move h4 rfl (Nat.le_refl _) (fun j hj _ hF => ⟨.inl (hs j hj (hF.resolve_right (by omega))), rfl⟩)⟩

theorem LX_put0 (k k' : Int) (o : Bool) (wi f : Int) (q : List Value) (na : Int) (dg : Value) (wt : ByteArray) (wa : Int) : (LX k o wi f q na dg wt wa).toArray.setIfInBounds 0 (.int .i64 k') = (LX k' o wi f q na dg wt wa).toArray := by simp [LX]
/-- One byte on. -/
theorem LexIs.bump (h : LexIs w b F k st) (hd : st ≠ .dead) : LexIs (w.setCell ⟨b, 0, none⟩ (.int .i64 ((k : Int) + 1))) b F (k + 1) st := by
  have hin := h.inside
  have ht : Turned b w (w.setCell ⟨b, 0, none⟩ (.int .i64 ((k : Int) + 1))) := (Turned.refl b w).put 0 _
  cases st with
  | dead => exact absurd rfl hd
  | out =>
    refine ⟨h.1, ?_⟩
    have := h.2.put 0 (.int .i64 ((k : Int) + 1))
    rwa [show (LZ k false).toArray.setIfInBounds 0 (.int .i64 ((k : Int) + 1)) = (LZ ((k + 1 : Nat) : Int) false).toArray from LX_put0 ..] at this
  | num a f p =>
    obtain ⟨h1, h2, g, c, ho, hr, hg, hne⟩ := h
    have := ho.put 0 (.int .i64 ((k : Int) + 1))
    rw [LX_put0] at this
    refine ⟨h1, h2, g, c, this, (Touch.of_turned (F := fun j => j = b) ht rfl).row hr (fun g' e => ?_), hg, hne⟩
    obtain rfl := ownBlock_is e
    exact hne
  | word f p =>
    obtain ⟨h1, t, j, h2, h3, h4, h5, ho⟩ := h
    have := ho.put 0 (.int .i64 ((k : Int) + 1))
    rw [LX_put0] at this
    exact ⟨h1, t, j, h2, h3, h4, h5, this⟩
  | str q f acc =>
    obtain ⟨h1, h2, hw, a, sg, lf, num, cnt, fst, ⟨last, signs, loose, ps, hq, hc, r⟩, r2⟩ := h
    have := hq.2.2.put 0 (.int .i64 ((k : Int) + 1))
    have hz : (w.setCell ⟨b, 0, none⟩ (.int .i64 ((k : Int) + 1))).heap.size = w.heap.size := by simp [World.setCell]
    refine ⟨h1, h2, hw, a, sg, lf, num, cnt, fst, ⟨last, signs, loose, ps, ⟨hq.1, rfl, ?_⟩, hc.move (Rs' := rsOf (k + 1 : Nat) f F _) (Nat.le_refl _) (fun j hj hne hF => ⟨hne, ?_, ht.2.2.2.2 j hj hne⟩), r⟩, r2⟩
    · simpa [rsOf] using this
    · exact hF.elim .inl fun h => .inr (Nat.le_trans (Nat.le_of_eq hz) h)
end

/-- What is kept is no longer than what came. -/
def Short (k : Nat) : LSt → Prop
  | .num _ _ p => p.length ≤ k
  | .str q _ acc => acc.length + pendQ q ≤ 4 * k
  | _ => True

end Go.Proofs.YtoahnbjpmbhpfaaDoor
