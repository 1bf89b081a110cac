/- Package lex's Lexer: its block, and what its methods do. -/
import Derived.Test.YtoahnbjpmbhpfaaDoorLaw07B
import Derived.Laws.CopyRow
import Derived.Deep.RegionWith
namespace Go.Proofs.YtoahnbjpmbhpfaaDoor
open Go.RowKit
set_option linter.unusedVariables false

/-- The cells of a lexer. -/
def LX (k : Int) (over : Bool) (within from_ : Int) (q : List Value) (na : Int) (dg : Value) (wt : ByteArray) (wa : Int) : List Value :=
  [.int .i64 k, .bool over, .int .i64 within, .int .i64 from_] ++ q ++ [.int .i64 na, dg, .string wt, .int .i64 wa]
/-- A walk of a string ahead of all bytes. -/
def zq : List Value := K4.QL 0 0 0 0 0 0 none (List.replicate 64 0) 0
/-- The cells of a lexer outside of tokens, or at its end. -/
def LZ (k : Int) (over : Bool) : List Value := LX k over 0 0 zq 0 (.slice none 0 0) ⟨#[]⟩ 0

theorem zero_lex (w : World) : (zeroValue 49).run Tryd.prog w = .ok (.agg (LZ 0 false).toArray) w := by kernel_rfl
theorem LZ_len (k : Int) (o : Bool) : (LZ k o).length = 80 := by simp [LZ, LX, zq, K4.QL]
theorem LZ_put (k : Int) (o : Bool) : (((LZ 0 false).toArray.setIfInBounds 0 (.int .i64 k)).setIfInBounds 1 (.bool o)) = (LZ k o).toArray := by simp [LZ, LX]

theorem LZ_one (k : Int) (o : Bool) : ∀ v ∈ LZ k o, v.oneCell' = true := by
  intro v hv
  have h : (LZ k o).all (·.oneCell') = true := by simp [LZ, LX, zq, K4.QL, Value.oneCell']
  exact List.all_eq_true.1 h v hv

/-- A block written over whole. -/
theorem own_row {w : World} {b : Nat} {t : TypeId} {cs : Array Value} (h : Own w b t cs) (l : List Value) (hl : l.length = cs.size) (h1 : ∀ v ∈ l, v.oneCell' = true) :
    (storeCells ⟨b, 0, none⟩ l).run Tryd.prog w = .ok () (w.setRow b l.toArray) ∧ Own (w.setRow b l.toArray) b t l.toArray ∧ Turned b w (w.setRow b l.toArray) := by
  have hs := run_storeCells_at (P := Tryd.prog) b 0 t l 0 cs w h (by omega) h1
  have e : cs.toList.take (0 + 0) ++ l ++ cs.toList.drop (0 + 0 + l.length) = l := by
    rw [List.drop_of_length_le (by simp; omega)]
    simp
  rw [e] at hs
  refine ⟨hs, setRow_heap w b cs _ t _ h, rfl, rfl, rfl, by simp [World.setRow], fun k hk hne => ?_⟩
  show (w.heap.modify b _)[k]? = _
  rw [Array.getElem?_modify, if_neg (fun e => hne e.symm)]

set_option maxHeartbeats 1000000 in
set_option maxRecDepth 100000 in
theorem end_any (b : Nat) (k : Int) (cs : List Value) (w : World) (h : Own w b 49 cs.toArray) (hl : cs.length = 80) (h0 : cs[0]? = some (.int .i64 k)) :
    Calls Tryd.prog 11 #[.pointer (some ⟨b, 0, none⟩)] w fun e w' => e = .returned (.tuple #[]) ∧ Own w' b 49 (LZ k true).toArray ∧ Turned b w w' := by
  have c0 := h.at 0
  have f0 := h.free 0
  simp [h0] at c0
  obtain ⟨hst, ho, ht⟩ := own_row h (LZ k true) (by simp [LZ_len, hl]) (LZ_one _ _)
  have HO := Lib.hid ho
  have HT := Lib.hid ht
  have hz0 := fun w => zero_lex w
  have hz2 := LZ_put k true
  have hz1 : (LZ 0 false).toArray.size = 80 := by simp [LZ_len]
  generalize (LZ 0 false).toArray = z at *
  have hz3 : ¬ z = #[] := fun e => by rw [e] at hz1; simp at hz1
  have hz4 : ¬ z.size < 2 := by omega
  clear h ho ht
  go_enter Tryd.func11, Tryd.ntmps11
  go_wp2
  go_end0
  exact ⟨rfl, HO.out, HT.out⟩

theorem tok_size : (Tryd.prog.info? 30).map (·.size) = some 5 := by kernel_rfl
theorem LZ_put1 (k : Int) : ((LZ 0 false).toArray.setIfInBounds 0 (.int .i64 k)) = (LZ k false).toArray := by simp [LZ, LX]

set_option maxHeartbeats 2000000 in
set_option maxRecDepth 100000 in
theorem leave_any (b : Nat) (k wi f to : Int) (s : ByteArray) (cs : List Value) (w : World) (h : Own w b 49 cs.toArray) (hl : cs.length = 80) (h0 : cs[0]? = some (.int .i64 k)) (h2 : cs[2]? = some (.int .i64 wi)) (h3 : cs[3]? = some (.int .i64 f)) :
    Calls Tryd.prog 13 #[.pointer (some ⟨b, 0, none⟩), .int .i64 to, .string s] w fun e w' => e = .returned (.agg #[.int .i64 wi, .bool false, .int .i64 f, .int .i64 to, .string s]) ∧ Own w' b 49 (LZ k false).toArray ∧ Turned b w w' := by
  have c0 := h.at 0
  have c2 := h.at 2
  have c3 := h.at 3
  have f0 := h.free 0
  have hin := h.inside
  simp [h0, h2, h3] at c0 c2 c3
  have hz0 := fun w => zero_lex w
  have hz2 := LZ_put1 k
  have hz1 : (LZ 0 false).toArray.size = 80 := by simp [LZ_len]
  generalize (LZ 0 false).toArray = z at *
  have hz3 : ¬ z = #[] := fun e => by rw [e] at hz1; simp at hz1
  have hz4 : ¬ z.size < 1 := by omega
  have H := Lib.hid h
  clear h
  go_enter Tryd.func13, Tryd.ntmps13
  go_wp2
  go_region
  generalize hw2 : World.drew (World.alloc _ _) = w2
  have H2 : Own w2 b 49 cs.toArray ∧ Own w2 w.heap.size 30 #[.int .i64 0, .bool false, .int .i64 0, .int .i64 0, .string ⟨#[]⟩] ∧ Own w2 (w.heap.size + 1) 30 #[.int .i64 wi, .bool false, .int .i64 f, .int .i64 to, .string s] ∧ Turned b w w2 := by
    subst hw2
    have e1 : (w.alloc (.cells #[.int .i64 0, .bool false, .int .i64 0, .int .i64 0, .string ⟨#[]⟩] 30)).heap.size = w.heap.size + 1 := by simp
    refine ⟨(H.out.over _).over _, (Own.fresh w _ _).over _, ?_, Turned.of_below ((below2 w _ _).drew) rfl⟩
    have := Own.fresh (w.alloc (.cells #[.int .i64 0, .bool false, .int .i64 0, .int .i64 0, .string ⟨#[]⟩] 30)) 30 #[.int .i64 wi, .bool false, .int .i64 f, .int .i64 to, .string s]
    rw [e1] at this
    exact this
  clear hw2 c0 c2 c3 f0
  obtain ⟨ho2, hA2, hB2, ht2⟩ := H2
  have c0 := ho2.at 0
  have f0 := ho2.free 0
  simp [h0] at c0
  obtain ⟨hst, ho3, ht3⟩ := own_row ho2 (LZ k false) (by simp [LZ_len, hl]) (LZ_one _ _)
  have hne1 : w.heap.size ≠ b := by omega
  have hne2 : w.heap.size + 1 ≠ b := by omega
  have hA3 : Own (w2.setRow b (LZ k false).toArray) w.heap.size _ _ := (ht3.2.2.2.2 _ hA2.inside hne1).trans hA2
  have hB3 : Own (w2.setRow b (LZ k false).toArray) (w.heap.size + 1) _ _ := (ht3.2.2.2.2 _ hB2.inside hne2).trans hB2
  have a0 := hA3.at 0
  have a1 := hA3.at 1
  have a2 := hA3.at 2
  have a3 := hA3.at 3
  have a4 := hA3.at 4
  have g0 := hA3.free 0
  have g1 := hA3.free 1
  have g2 := hA3.free 2
  have g3 := hA3.free 3
  have g4 := hA3.free 4
  have b0 := hB3.at 0
  have b1 := hB3.at 1
  have b2 := hB3.at 2
  have b3 := hB3.at 3
  have b4 := hB3.at 4
  simp at a0 a1 a2 a3 a4 b0 b1 b2 b3 b4
  have HO := Lib.hid ho3
  have HT := Lib.hid (ht2.trans ht3)
  have HA := Lib.hid hA3
  clear ho2 hA2 hB2 ht2 ho3 ht3 hA3 hB3
  go_wp2
  generalize hw4 : World.setCell (World.setCell (World.setCell (World.setCell (World.setCell _ _ _) _ _) _ _) _ _) _ _ = w4
  have H4 : Own w4 w.heap.size 30 #[.int .i64 wi, .bool false, .int .i64 f, .int .i64 to, .string s] ∧ Own w4 b 49 (LZ k false).toArray ∧ Turned b w w4 := by
    subst hw4
    refine ⟨by simpa using ((((HA.out.put 0 (.int .i64 wi)).put 1 (.bool false)).put 2 (.int .i64 f)).put 3 (.int .i64 to)).put 4 (.string s), ?_, ?_⟩
    · have hb : b ≠ w.heap.size := by omega
      exact ((((HO.out.past (p := ⟨w.heap.size, 0, none⟩) hb _).past (p := ⟨w.heap.size, 1, none⟩) hb _).past (p := ⟨w.heap.size, 2, none⟩) hb _).past (p := ⟨w.heap.size, 3, none⟩) hb _).past (p := ⟨w.heap.size, 4, none⟩) hb _
    · have ht : Turned w.heap.size (w2.setRow b (LZ k false).toArray) _ := ((((((Turned.refl w.heap.size _).put 0 (.int .i64 wi)).put 1 (.bool false)).put 2 (.int .i64 f)).put 3 (.int .i64 to)).put 4 (.string s))
      exact ⟨ht.1.trans HT.out.1, ht.2.1.trans HT.out.2.1, ht.2.2.1.trans HT.out.2.2.1, Nat.le_trans HT.out.2.2.2.1 ht.2.2.2.1, fun j hj hne => (ht.2.2.2.2 j (by have := HT.out.2.2.2.1; omega) (by omega)).trans (HT.out.2.2.2.2 j hj hne)⟩
  clear hw4 a0 a1 a2 a3 a4 g0 g1 g2 g3 g4 b0 b1 b2 b3 b4
  (try simp only [Exit.inBlock, Exit.then])
  refine bodyPost_ret (results_cell_row rfl _ _ w.heap.size _ _ (0, 0) _ rfl H4.1 Tryd.underlying30 rfl tok_size) rfl ?_
  exact ⟨rfl, H4.2⟩

end Go.Proofs.YtoahnbjpmbhpfaaDoor
