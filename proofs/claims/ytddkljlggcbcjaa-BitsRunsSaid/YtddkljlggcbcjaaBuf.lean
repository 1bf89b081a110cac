/- A buffer of bytes of the call's own: a slice that was made in the call, appended to, and read as a string. -/
import Derived.Test.YtddkljlggcbcjaaM02
import Derived.Lib.AppendStr
import Derived.Laws.BytesArg
namespace Go.Proofs.Ytddkljlggcbcjaa
open Go.RowKit

theorem below1 (w : World) (a : Obj) : Below w.heap.size w (w.alloc a) := (Below.refl w.heap.size w).alloc (Nat.le_refl _) a
theorem below2 (w : World) (a b : Obj) : Below w.heap.size w ((w.alloc a).alloc b) :=
  have h := (Below.refl w.heap.size w).alloc (Nat.le_refl _) a
  h.alloc h.size b
theorem below_drewN {B : Nat} {a w : World} (h : Below B a w) (n : Nat) : Below B a (w.drewN n) := ⟨h.os, h.tape, h.output, h.size, h.block⟩

/-- Bytes as cells. -/
def byteCells (l : List UInt8) : List Value := l.map fun c => Value.int .u8 c.toNat

theorem byteCells_nums (l : List UInt8) : byteCells l = (nums l).map (Value.int .u8) := by simp [byteCells, nums]
theorem byteCells_length (l : List UInt8) : (byteCells l).length = l.length := by simp [byteCells]
theorem byteCells_append (l m : List UInt8) : byteCells (l ++ m) = byteCells l ++ byteCells m := by simp [byteCells]
theorem byteCells_one (l : List UInt8) : ∀ u ∈ byteCells l, u.oneCell' = true := by rw [byteCells_nums]; exact ints_one _ _
theorem strOf_nums (l : List UInt8) : strOfNums (nums l) = ⟨l.toArray⟩ := by
  have e : (strOfNums (nums l)).data.toList = l := by
    rw [strOfNums_data]
    unfold nums
    rw [List.map_map]
    conv => rhs; rw [← List.map_id l]
    exact List.map_congr_left fun c _ => by simp
  generalize strOfNums (nums l) = s at *
  cases s with | mk x =>
  have e : x.toList = l := e
  rw [← e]

/-- Bytes that came in. -/
theorem IsRow.bytes {w : World} {A : Option Addr} {len cap : Nat} {zs : List Int} (h : IsRow .u8 w A len cap zs) : ∃ l : List UInt8, Rd w w.heap.size A len (byteCells l) := by
  refine ⟨(zs.take len).map fun z => UInt8.ofNat z.toNat, ?_⟩
  have e : byteCells ((zs.take len).map fun z => UInt8.ofNat z.toNat) = (zs.take len).map (Value.int .u8) := by
    unfold byteCells
    rw [List.map_map]
    refine List.map_congr_left fun z hz => ?_
    have hw := h.wf z (List.mem_of_mem_take hz)
    simp [Lit.wf, IntKind.min, IntKind.max, IntKind.signed, IntKind.bits] at hw
    simp
    omega
  rw [e]
  exact Rd.of_row h

/-- v is a slice of the call's own (its block is none below base) that holds l. -/
def Buf (w : World) (base : Nat) (v : Value) (l : List UInt8) : Prop :=
  ∃ g c : Nat, v = .slice (some ⟨g, 0, none⟩) l.length c ∧ w.ownsRow base 5 1 v l.length (byteCells l)

section
variable {w w' : World} {base : Nat} {v : Value} {l : List UInt8}
theorem Buf.form (h : Buf w base v l) : ∃ g c : Nat, v = .slice (some ⟨g, 0, none⟩) l.length c ∧ base ≤ g ∧ g < w.heap.size := by
  obtain ⟨g, c, rfl, ho⟩ := h
  obtain ⟨g', c', e, h1, h2, _⟩ := own_form ho (by intro e; cases e)
  injection e with e1 _ _
  injection e1 with e1
  injection e1 with e1
  exact ⟨g, c, rfl, by omega, by omega⟩
theorem Buf.stay (h : Buf w base v l) {B : Nat} (hb : Below B w w') (hB : w.heap.size ≤ B) : Buf w' base v l := by
  obtain ⟨g0, c0, e, _, hlt⟩ := h.form
  obtain ⟨g, c, rfl, ho⟩ := h
  refine ⟨g, c, rfl, own_stay ho hb fun k hk => ?_⟩
  injection e with e1 _ _
  injection e1 with e1
  injection e1 with e1
  rw [ownBlock_is hk]
  omega
theorem Buf.rd (h : Buf w base v l) {g c n : Nat} (hv : v = .slice (some ⟨g, 0, none⟩) n c) : Rd w w.heap.size (some ⟨g, 0, none⟩) l.length (byteCells l) := by
  obtain ⟨g', c', rfl, ho⟩ := h
  injection hv with e1 e2 e3
  injection e1 with e1
  injection e1 with e1
  subst e1
  exact Rd.of_owned ho
/-- The buffer as a string. -/
theorem Buf.conv (h : Buf w base v l) : (convert 22 9 v).run Try.prog w = .ok (.string ⟨l.toArray⟩) w := by
  obtain ⟨g, c, rfl, ho⟩ := h
  have := Rd.of_owned ho
  rw [byteCells_nums] at this
  rw [conv_rd this, strOf_nums]
/-- A slice that was just made of constants is one. -/
theorem Buf.made (w : World) (cs : Array Value) (l : List UInt8) (hc : cs = (byteCells l).toArray) (hl : l.length ≤ maxLen) (hb : base ≤ w.heap.size) : Buf (w.alloc (.cells cs 5)) base (.slice (some ⟨w.heap.size, 0, none⟩) l.length l.length) l := by
  subst hc
  refine ⟨_, _, rfl, ⟨by simp [byteCells_length], .inr ⟨w.heap.size, l.length, _, rfl, hb, heap_alloc_new w _, Nat.le_refl _, hl, by simp [byteCells_length], ?_⟩⟩⟩
  simp [List.take_of_length_le, byteCells_length]
end

section
variable {ops : Array Oper} {rest : List Oper} {o : Oper} {a : Act} {Q : Exit → Act → World → Prop}

/-- Appending bytes that lie in a slice. -/
theorem buf_append (w : World) (hgd : o.guard = none) (s x : Operand) (ho : o.op = .call { callee := .builtin .append, args := #[s, x], argTypes := #[22, 22] })
    (base : Nat) (v : Value) (l : List UInt8) (hs : a.eval s = v) (hown : Buf w base v l) (B : Nat) (A : Option Addr) (m c : Nat) (news : List UInt8) (hx : a.eval x = .slice A m c) (hr : Rd w B A m (byteCells news))
    (h63 : l.length + m ≤ 140737488355328 - 4096) (hbase : base ≤ w.heap.size)
    (h : ∀ v' w', Buf w' base v' (l ++ news) → Below base w w' → wpList Try.prog ops Q rest (a.put o.dst v') w') : wpList Try.prog ops Q (o :: rest) a w := by
  obtain ⟨i0, hi, hz0, hz1, hz2⟩ := info_parts byte_info
  have hm : news.length = m := by have := hr.1; rwa [byteCells_length] at this
  obtain ⟨g0, c0, ev, hg0, _⟩ := hown.form
  obtain ⟨g, c', rfl, hown⟩ := hown
  refine wpList_append_rd w hgd s x _ ho base 5 i0 _ 1 Try.underlying22 hi hz0 hz1 hz2 rfl _ l.length (byteCells l) hs hown B A m c (byteCells news) hx hr (byteCells_one _) (by unfold maxLen; omega) (by omega) hbase ?_
  intro v' w' h2 hg hnil hat
  have hne : v' ≠ .slice none 0 0 := fun e => by have := hnil.1 e; simp at this
  obtain ⟨g2, c2, e2, _⟩ := own_form h2 hne
  refine h v' w' ⟨g2, c2, by rw [e2, List.length_append, hm], ?_⟩ ((Below.refl base w).grown hg hbase fun k hk => ?_)
  · rw [List.length_append, hm, byteCells_append]
    exact h2
  · injection ev with e1 _ _
    injection e1 with e1
    injection e1 with e1
    rw [ownBlock_is hk]
    omega

/-- Appending a string's bytes. -/
theorem buf_append_str (w : World) (hgd : o.guard = none) (s x : Operand) (ho : o.op = .call { callee := .builtin .append, args := #[s, x], argTypes := #[22, 9] })
    (base : Nat) (v : Value) (l : List UInt8) (hs : a.eval s = v) (hown : Buf w base v l) (t : ByteArray) (hx : a.eval x = .string t)
    (h63 : l.length + t.size ≤ 140737488355328 - 4096) (hbase : base ≤ w.heap.size)
    (h : ∀ v' w', Buf w' base v' (l ++ t.data.toList) → Below base w w' → wpList Try.prog ops Q rest (a.put o.dst v') w') : wpList Try.prog ops Q (o :: rest) a w := by
  obtain ⟨i0, hi, hz0, hz1, hz2⟩ := info_parts byte_info
  obtain ⟨g0, c0, ev, hg0, _⟩ := hown.form
  obtain ⟨g, c', rfl, hown⟩ := hown
  refine Lib.wpList_append_own_string (w := w) hgd s x _ _ ho base 5 i0 Try.underlying22 Try.underlying9 hi hz0 hz1 hz2 _ l.length (byteCells l) hs hown t hx (by unfold maxLen; omega) (by omega) hbase ?_
  intro v' w' h2 hg hnil
  have hne : v' ≠ .slice none 0 0 := fun e => by have := hnil.1 e; simp at this
  obtain ⟨g2, c2, e2, _⟩ := own_form h2 hne
  have ht : t.data.toList.length = t.size := rfl
  refine h v' w' ⟨g2, c2, by rw [e2, List.length_append, ht], ?_⟩ ((Below.refl base w).grown hg hbase fun k hk => ?_)
  · rw [List.length_append, ht, byteCells_append]
    exact h2
  · injection ev with e1 _ _
    injection e1 with e1
    injection e1 with e1
    rw [ownBlock_is hk]
    omega
end

end Go.Proofs.Ytddkljlggcbcjaa
