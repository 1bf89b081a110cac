/- Package show's writer: what lies in memory while a value is written. -/
import Derived.Test.YtaklbbkjhbkieaaRows
import Derived.Test.YtaklbbkjhbkieaaJ07
import Derived.Test.YtaklbbkjhbkieaaJ08
import Derived.Test.YtaklbbkjhbkieaaJ14
import Derived.Deep.DeepMust
import Derived.StillTailTactics
import Derived.BigRegion
import Derived.Deep.RegionWith
import Derived.Deep.CutRange
import Derived.Deep.LoopGhost
namespace Go.Proofs.Ytaklbbkjhbkieaa
open Go.RowKit
set_option linter.unusedVariables false

/-- Slices of what is open: where the value lies, and how many of its items are begun. -/
def openK : RowK (Addr × Nat) where
  T := 57
  S := 49
  n := 2
  bytes := 16
  zero := .agg #[.pointer none, .int .i64 0]
  enc := fun a => [.pointer (some a.1), .int .i64 a.2]
  pos := by decide
  len := fun _ => rfl
  one := fun s u h => by
    simp at h
    rcases h with rfl | rfl <;> rfl
  under := Try.underlying49
  info := by kernel_rfl
  zlen := rfl
  small := by decide

/-- The blocks that the writer keeps, beside those of what is open. -/
def FW (N : Nat) (v : Value) (k : Nat) : Prop := N ≤ k ∧ v.ownBlock ≠ some k
/-- The writer in block b: with lines or not, what is written, what is open. -/
structure WI (N : Nat) (w : World) (b : Nat) (ln : Bool) (out : List UInt8) (v : Value) (fl : List (Addr × Nat)) : Prop where
  bld : BldW ⟨ln, v⟩ w b (FW N v) out
  opn : GRow openK w N v fl
  low : N ≤ w.heap.size

section
variable {N : Nat} {w w' : World} {b : Nat} {ln : Bool} {out out' : List UInt8} {v : Value} {fl : List (Addr × Nat)}
/-- Something was written. -/
theorem WI.wrote (h : WI N w b ln out v fl) (hB : BldW ⟨ln, v⟩ w' b (fun k => FW N v k ∨ w.heap.size ≤ k) out') (ht : Touch (FW N v) w w') : WI N w' b ln out' v fl ∧ Below N w w' := by
  have hlow := h.low
  refine ⟨⟨hB.mono (fun k hk => ?_), h.opn.stay (fun g e => ht.block g (h.opn.low e).2 (fun hf => hf.2 e)), Nat.le_trans h.low ht.size⟩, ht.below (fun k _ hk => hk.1) h.low⟩
  rcases hk with hk | hk
  · exact hk
  · exact ⟨by omega, fun e => by have := (h.opn.low e).2; omega⟩
/-- New memory alone. -/
theorem WI.stay (h : WI N w b ln out v fl) (hb : Below w.heap.size w w') : WI N w' b ln out v fl :=
  ⟨h.bld.stay (G := fun k => w.heap.size ≤ k) (Touch.of_below hb (fun k _ h => h)) (fun k hk _ e => by omega), h.opn.stay (fun g e => hb.block g (h.opn.low e).2), Nat.le_trans h.low hb.size⟩
theorem WI.own (h : WI N w b ln out v fl) : ∃ p u, Own w b 51 #[p, u, .bool ln, v] ∧ FW N v b := by
  obtain ⟨p, u, hp, ho, hr, hb, hg⟩ := h.bld
  exact ⟨p, u, ho, hb⟩
theorem WI.facts (h : WI N w b ln out v fl) : w.cell? ⟨b, 2, none⟩ = some (.bool ln) ∧ w.cell? ⟨b, 3, none⟩ = some v ∧ w.frozen? ⟨b, 3, none⟩ = false ∧ b < w.heap.size ∧ N ≤ b := by
  obtain ⟨p, u, ho, hb⟩ := h.own
  exact ⟨ho.at 2, ho.at 3, ho.free 3, ho.inside, hb.1⟩
theorem WI.form (h : WI N w b ln out v fl) : ∃ A c, v = .slice A fl.length c ∧ fl.length ≤ c ∧ c ≤ maxLen := by
  obtain ⟨A, c, e, h1, h2, _⟩ := h.opn.form
  exact ⟨A, c, e, h1, h2⟩
/-- A byte is written. -/
theorem WI.byte (h : WI N w b ln out v fl) (hlen : out.length ≤ 100000000000000) (c : UInt8) (x : Int) (hx : (c.toNat : Int) = x) :
    Calls Try.prog 31 #[.pointer (some ⟨b, 0, none⟩), .int .u8 x] w fun e w' => e = .returned .nilIface ∧ WI N w' b ln (out ++ [c]) v fl ∧ Below N w w' := by
  subst hx
  refine (writeByteW_any b _ out c w h.bld (by omega)).mono ?_
  rintro e w' ⟨rfl, hB, ht⟩
  exact ⟨rfl, h.wrote hB ht⟩
/-- A string is written. -/
theorem WI.str (h : WI N w b ln out v fl) (s : ByteArray) (l : List UInt8) (hs : s.data.toList = l) (hlen : out.length + l.length ≤ 100000000000000) :
    Calls Try.prog 32 #[.pointer (some ⟨b, 0, none⟩), .string s] w fun e w' => e = .returned (.tuple #[.int .i64 l.length, .nilIface]) ∧ WI N w' b ln (out ++ l) v fl ∧ Below N w w' := by
  subst hs
  refine (writeStringW_any b _ out s w h.bld (by show out.length + s.data.toList.length ≤ _; omega)).mono ?_
  rintro e w' ⟨rfl, hB, ht⟩
  exact ⟨rfl, h.wrote hB ht⟩
/-- What is open is another slice. -/
theorem WI.opens {v' : Value} {fl' : List (Addr × Nat)} {w1 : World} (h : WI N w b ln out v fl) (hw : ∀ k, k < w.heap.size → v.ownBlock ≠ some k → w1.heap[k]? = w.heap[k]?) (hos : w1.os = w.os ∧ w1.tape = w.tape ∧ w1.output = w.output) (hsz : w.heap.size ≤ w1.heap.size)
    (hr : GRow openK w1 N v' fl') (hat : ∀ k, v'.ownBlock = some k → v.ownBlock = some k ∨ w.heap.size ≤ k) :
    WI N (w1.setCell ⟨b, 3, none⟩ v') b ln out v' fl' ∧ Below N w (w1.setCell ⟨b, 3, none⟩ v') := by
  obtain ⟨p, u, hp, ho, hrow, hb, hg⟩ := h.bld
  have hin := ho.inside
  have hlow := h.low
  have hne : v'.ownBlock ≠ some b := fun e => by
    rcases hat b e with q | q
    · exact hb.2 q
    · omega
  have o1 : Own w1 b 51 #[p, u, .bool ln, v] := (hw b hin hb.2).trans ho
  have hset : ∀ k, k ≠ b → (w1.setCell ⟨b, 3, none⟩ v').heap[k]? = w1.heap[k]? := fun k hk => Below.heap_setCell w1 _ _ k hk
  have hlt := hrow.lt
  refine ⟨⟨⟨p, u, hp, by have := o1.put 3 v'; simpa using this, ?_, ⟨hb.1, hne⟩, fun g e => ⟨⟨(hg g e).1.1, fun e2 => ?_⟩, (hg g e).2⟩⟩, ?_, ?_⟩, ?_⟩
  · refine ⟨hrow.1, ?_⟩
    rcases hrow.2 with hn | ⟨g, c, cur, fz, rfl, hbg, hgg, rest⟩
    · exact .inl hn
    · have e := hg g (by simp [Value.ownBlock])
      exact .inr ⟨g, c, cur, fz, rfl, hbg, ((hset g e.2).trans (hw g (Array.getElem?_eq_some_iff.1 hgg).1 e.1.2)).trans hgg, rest⟩
  · rcases hat g e2 with q | q
    · exact (hg g e).1.2 q
    · have := (hlt g e).2; omega
  · exact hr.stay (fun g e => hset g (fun q => hne (q ▸ e)))
  · show N ≤ (w1.setCell ⟨b, 3, none⟩ v').heap.size
    simp [World.setCell]
    omega
  · refine ⟨hos.1, hos.2.1, hos.2.2, ?_, fun k hk => ?_⟩
    · simp [World.setCell]; exact hsz
    · have hbN := hb.1
      exact (hset k (by omega)).trans (hw k (by omega) (fun e => by have := (h.opn.low e).1; omega))
end

/-- Where a value lies that the writer reads. -/
def PtIs (W0 : World) (p : Addr) (t : Tree) : Prop := ∃ x, CellsAt W0 p x ∧ VIs W0 t x
theorem WI.drew {N : Nat} {w : World} {b : Nat} {ln : Bool} {out : List UInt8} {v : Value} {fl : List (Addr × Nat)} (h : WI N w b ln out v fl) : WI N w.drew b ln out v fl := h.stay (Below.refl _ _).drew
/-- A value's cells, as the walk reads them. -/
theorem PtIs.cells {W0 w : World} {p : Addr} {kd : Int} {fr to' : Nat} {tx : List UInt8} {items : List Tree} {names : List (List UInt8)} (h : PtIs W0 p (.mk kd fr to' tx items names)) (hb : Below W0.heap.size W0 w) :
    ∃ (pb po : Nat) (A : Option Addr) (c : Nat) (B : Option Addr) (d : Nat) (xs : List V6), p = ⟨pb, po, none⟩ ∧ w.cell? ⟨pb, po, none⟩ = some (.int .i64 kd) ∧ w.cell? ⟨pb, po + 3, none⟩ = some (.string ⟨tx.toArray⟩) ∧
      w.cell? ⟨pb, po + 4, none⟩ = some (.slice A items.length c) ∧ w.cell? ⟨pb, po + 5, none⟩ = some (.slice B names.length d) ∧ items.length ≤ c ∧ names.length ≤ d ∧
      RdG namK w B names.length names ∧ RdG valK W0 A items.length xs ∧ VLs W0 items xs := by
  obtain ⟨x, hx, hv⟩ := h
  have hm := hv.many
  have hc := hx.below hb
  unfold VIs at hv
  obtain ⟨h1, h2, h3, h4, h5, h6, h7, xs, h8, h9⟩ := hv
  obtain ⟨pb, po, rfl, hlt, hcell⟩ := hc
  have c0 := hcell 0 _ rfl
  have c3 := hcell 3 _ rfl
  have c4 := hcell 4 _ rfl
  have c5 := hcell 5 _ rfl
  rw [h1] at c0
  rw [h4] at c3
  rw [hm.1] at c4 h5 h8
  rw [hm.2] at c5 h6 h7
  exact ⟨pb, po, x.A, x.c, x.B, x.d, xs, rfl, c0, c3, c4, c5, h5, h6, h7.below hb, h8, h9⟩
/-- An item of it. -/
theorem PtIs.item {W0 : World} {A : Option Addr} {m : Nat} {items : List Tree} {xs : List V6} (h : RdG valK W0 A m xs) (hl : VLs W0 items xs) {i : Nat} {u : Tree} (hu : items[i]? = some u) : ∃ b o : Nat, A = some ⟨b, o, none⟩ ∧ PtIs W0 ⟨b, o + i * 6, none⟩ u := by
  obtain ⟨x, hx, hv⟩ := hl.at i u hu
  obtain ⟨b, o, e, hc⟩ := h.item hx
  exact ⟨b, o, e, x, hc, hv⟩

end Go.Proofs.Ytaklbbkjhbkieaa

namespace Go.Proofs.Ytaklbbkjhbkieaa
open Go.RowKit
set_option linter.unusedVariables false

/-- A new line, if there are to be any. -/
def nlT (ln : Bool) (n : Nat) : List UInt8 := if ln then newL n else []
def WrP (N : Nat) (w : World) (b : Nat) (ln : Bool) (out : List UInt8) (v : Value) (fl : List (Addr × Nat)) (e : Ending) (w' : World) : Prop :=
  e = .returned (.tuple #[]) ∧ WI N w' b ln out v fl ∧ Below N w w'

set_option maxHeartbeats 4000000 in
set_option maxRecDepth 100000 in
theorem line_no {N : Nat} {w : World} {b : Nat} {out : List UInt8} {v : Value} {fl : List (Addr × Nat)} (h : WI N w b false out v fl) :
    Calls Try.prog 35 #[.pointer (some ⟨b, 0, none⟩)] w (WrP N w b false (out ++ nlT false (2 * fl.length)) v fl) := by
  obtain ⟨c2, c3, f3, hin, hN⟩ := h.facts
  have H := Lib.hid h
  clear h
  go_enter Try.func35, Try.ntmps35
  go_wp2
  go_end0
  refine ⟨rfl, ?_, Below.refl _ _⟩
  have := H.out
  unfold nlT
  simpa using this

def RelLn (N : Nat) (W : World) (b : Nat) (out : List UInt8) (v : Value) (fl : List (Addr × Nat)) (wr : World) (a : Value) : Prop :=
  ∃ j : Nat, j ≤ fl.length ∧ a = .int .i64 j ∧ WI N wr b true (out ++ newL (2 * j)) v fl ∧ Below N W wr
theorem newL_two (j : Nat) : newL (2 * j) ++ [32, 32] = newL (2 * (j + 1)) := by
  unfold newL
  rw [show 2 * (j + 1) = 2 * j + 1 + 1 by omega, List.replicate_succ', List.replicate_succ']
  simp
theorem newL_length (n : Nat) : (newL n).length = n + 1 := by simp [newL]

set_option maxHeartbeats 4000000 in
set_option maxRecDepth 100000 in
theorem line_yes {N : Nat} {w : World} {b : Nat} {out : List UInt8} {v : Value} {fl : List (Addr × Nat)} (h : WI N w b true out v fl) (hlen : out.length ≤ 10000000000000) (hfl : fl.length ≤ 1000000) :
    Calls Try.prog 35 #[.pointer (some ⟨b, 0, none⟩)] w (WrP N w b true (out ++ nlT true (2 * fl.length)) v fl) := by
  obtain ⟨c2, c3, f3, hin, hN⟩ := h.facts
  obtain ⟨A, c, rfl, hmc, hcm⟩ := h.form
  have H := Lib.hid h
  obtain ⟨m, hm⟩ : ∃ m, fl.length = m := ⟨_, rfl⟩
  have HM := Lib.hid hm
  have hml : m ≤ 1000000 := by omega
  rw [hm] at c3 hmc
  clear h hfl
  go_enter Try.func35, Try.ntmps35
  go_wp2_with (
    go_at_call 31
    go_must (
      refine (H.out.byte (by omega) 10 10 rfl).mono ?_
      rintro e w1 ⟨rfl, h1, hb1⟩
      obtain ⟨d2, d3, g3, hin1, _⟩ := h1.facts
      rw [HM.out] at d3
      have H1 := Lib.hid (And.intro h1 hb1)
      clear h1 hb1))
  go_loopw [16] (fun a wr => RelLn N w b out (.slice A fl.length c) fl wr a) (fun a _ => m - (intOf a).toNat)
  case atStart => exact ⟨0, Nat.zero_le _, rfl, H1.out.1, H1.out.2⟩
  case round =>
    obtain ⟨j, hj, rfl, hw, hbw⟩ := hrel
    have hj : j ≤ m := by rw [← HM.out]; exact hj
    obtain ⟨d2', d3', g3', hin', _⟩ := hw.facts
    rw [HM.out] at d3'
    have HW := Lib.hid hw
    have HBW := Lib.hid hbw
    clear hw hbw
    by_cases hlt : j < m
    · go_wp2_with (
        go_at_call 32
        go_must (
          refine (HW.out.str ⟨#[32, 32]⟩ [32, 32] rfl (by rw [List.length_append, newL_length]; simp; omega)).mono ?_
          rintro e w2 ⟨rfl, h2, hb2⟩
          rw [List.append_assoc, newL_two] at h2
          have H2 := Lib.hid (And.intro h2 (HBW.out.trans hb2))
          clear h2 hb2))
      go_roundw
      case rel => exact ⟨j + 1, (by rw [HM.out]; omega), (by go_num), H2.out.1, H2.out.2⟩
      case measure => simp [intOf]; omega
    · have hjm : j = m := by omega
      subst hjm
      go_wp2
      go_end0
      have e : nlT true (2 * fl.length) = newL (2 * j) := by unfold nlT; rw [if_pos rfl, HM.out]
      exact ⟨rfl, by rw [e]; exact HW.out, HBW.out⟩
theorem line_any {N : Nat} {w : World} {b : Nat} {ln : Bool} {out : List UInt8} {v : Value} {fl : List (Addr × Nat)} (h : WI N w b ln out v fl) (hlen : out.length ≤ 10000000000000) (hfl : fl.length ≤ 1000000) :
    Calls Try.prog 35 #[.pointer (some ⟨b, 0, none⟩)] w (WrP N w b ln (out ++ nlT ln (2 * fl.length)) v fl) := by
  cases ln
  · exact line_no h
  · exact line_yes h hlen hfl

/-- What stands ahead of an object's item. -/
def nameTx (ln : Bool) (nm : List UInt8) : List UInt8 := strT nm ++ 58 :: (if ln then [32] else [])
theorem putStr_of (l : List UInt8) (hl : l.length ≤ 1000000000) (w : World) : Calls Try.prog 33 #[.string ⟨l.toArray⟩] w fun e w' => e = .returned (.string ⟨(strT l).toArray⟩) ∧ Below w.heap.size w w' :=
  (put_any ⟨l.toArray⟩ w hl).mono fun e w' h => h

set_option maxHeartbeats 8000000 in
set_option maxRecDepth 100000 in
theorem name_any {W0 w : World} {b : Nat} {ln : Bool} {out : List UInt8} {v : Value} {fl : List (Addr × Nat)} (h : WI W0.heap.size w b ln out v fl) (hb0 : Below W0.heap.size W0 w) {p : Addr} {kd : Int} {fr to' : Nat} {tx : List UInt8} {items : List Tree} {names : List (List UInt8)}
    (hp : PtIs W0 p (.mk kd fr to' tx items names)) (i : Nat) (nm : List UInt8) (hnm : names[i]? = some nm) (hl : nm.length ≤ 1000000000) (hlen : out.length + (strT nm).length ≤ 10000000000000) :
    Calls Try.prog 36 #[.pointer (some ⟨b, 0, none⟩), .pointer (some p), .int .i64 i] w (WrP W0.heap.size w b ln (out ++ nameTx ln nm) v fl) := by
  obtain ⟨pb, po, A, c, B, d, xs, rfl, q0, q3, q4, q5, l4, l5, hN, _, _⟩ := hp.cells hb0
  obtain ⟨c2, c3, f3, hin, hNb⟩ := h.facts
  have hi : i < names.length := (List.getElem?_eq_some_iff.1 hnm).1
  obtain ⟨nb, no, rfl, hnb, hcell⟩ := hN.2 (by omega)
  have hq := hN.at rfl hnm (j := 0) (u := .string ⟨nm.toArray⟩) rfl
  simp [namK] at hq
  obtain ⟨n, hn⟩ : ∃ n, names.length = n := ⟨_, rfl⟩
  rw [hn] at q5 l5 hi
  have H := Lib.hid h.drew
  obtain ⟨k, hk⟩ : ∃ k, (strT nm).length = k := ⟨_, rfl⟩
  have HL := Lib.hid (show out.length + k ≤ 10000000000000 by omega)
  have HK := Lib.hid hk
  have HP := Lib.hid (fun w => putStr_of nm hl w)
  clear h hcell hN hb0 hp hlen hk hn hl
  have tok : True := trivial
  go_enter Try.func36, Try.ntmps36
  go_upto_region 3 with fail
  first | (go_region_with (first
    | (go_at_call 33
       go_must (
         refine (HP.out _).mono ?_
         rintro e w1 ⟨rfl, hb1⟩
         have h1 := H.out.stay hb1
         have hb1' : Below W0.heap.size w w1 := (Below.refl _ _).drew.trans (hb1.mono H.out.low)
         have H1 := Lib.hid (And.intro h1 hb1')
         clear h1 hb1 hb1'))
    | (go_at_call 32
       go_must (
         refine (H1.out.1.str ⟨(strT nm).toArray⟩ (strT nm) rfl (by rw [HK.out]; have := HL.out; omega)).mono ?_
         rintro e w2 ⟨rfl, h2, hb2⟩
         have H2 := Lib.hid (And.intro h2 (H1.out.2.trans hb2))
         clear h2 hb2)))) | fail
  all_goals
    cases ln
  all_goals
    go_wp2_with (first
      | (go_at_call 31
         clear tok
         go_must (
           refine (H2.out.1.byte (by rw [List.length_append, HK.out]; have := HL.out; omega) 58 58 rfl).mono ?_
           rintro e w3 ⟨rfl, h3, hb3⟩
           obtain ⟨d2, d3, g3, hin3, _⟩ := h3.facts
           have H3 := Lib.hid (And.intro h3 (H2.out.2.trans hb3))
           clear h3 hb3))
      | (go_at_call 31
         go_must (
           refine (H3.out.1.byte (by simp only [List.length_append, HK.out]; have := HL.out; simp; omega) 32 32 rfl).mono ?_
           rintro e w4 ⟨rfl, h4, hb4⟩
           have H4 := Lib.hid (And.intro h4 (H3.out.2.trans hb4))
           clear h4 hb4)))
    go_end0
    first
      | (have := H4.out
         exact ⟨rfl, by unfold nameTx; simpa [List.append_assoc] using this.1, this.2⟩)
      | (have := H3.out
         exact ⟨rfl, by unfold nameTx; simpa [List.append_assoc] using this.1, this.2⟩)

end Go.Proofs.Ytaklbbkjhbkieaa

namespace Go.Proofs.Ytaklbbkjhbkieaa
open Go.RowKit
set_option linter.unusedVariables false

/-- A value's text, with or without lines. -/
def txtT (ln : Bool) (d : Nat) (t : Tree) : List UInt8 := if ln then lineT d t else showT t
def Tree.node (t : Tree) : Prop := t.kd = 4 ∨ t.kd = 5
/-- What is written as a value begins. -/
def headT (t : Tree) : List UInt8 := if t.kd = 4 then [91] else if t.kd = 5 then [123] else if t.kd = 3 then strT t.tx else t.tx
def WrO (N : Nat) (w : World) (b : Nat) (ln : Bool) (out : List UInt8) (fl : List (Addr × Nat)) (e : Ending) (w' : World) : Prop :=
  ∃ v', e = .returned (.tuple #[]) ∧ WI N w' b ln out v' fl ∧ Below N w w'
theorem open_rd (w : World) (p : Addr) (g : Nat) (hg : g = w.heap.size) : RdG openK (w.alloc (.cells #[.pointer (some p), .int .i64 0] 57)) (some ⟨g, 0, none⟩) 1 [(p, 0)] := by
  subst hg
  exact (GRow.made (K := openK) (base := 0) (l := [(p, 0)]) w _ rfl (show 1 ≤ maxLen by decide) (Nat.zero_le _)).rd

end Go.Proofs.Ytaklbbkjhbkieaa

namespace Go.Proofs.Ytaklbbkjhbkieaa
open Go.RowKit
set_option linter.unusedVariables false

set_option maxHeartbeats 8000000 in
set_option maxRecDepth 100000 in
theorem begin_str {W0 w : World} {b : Nat} {ln : Bool} {out : List UInt8} {v : Value} {fl : List (Addr × Nat)} (h : WI W0.heap.size w b ln out v fl) (hb0 : Below W0.heap.size W0 w) {p : Addr} {fr to' : Nat} {tx : List UInt8} {items : List Tree} {names : List (List UInt8)}
    (hp : PtIs W0 p (.mk 3 fr to' tx items names)) (hl : tx.length ≤ 1000000000) (hlen : out.length + (strT tx).length ≤ 10000000000000) :
    Calls Try.prog 18 #[.pointer (some ⟨b, 0, none⟩), .pointer (some p)] w (WrO W0.heap.size w b ln (out ++ strT tx) fl) := by
  obtain ⟨pb, po, A, c, B, d, xs, rfl, q0, q3, q4, q5, l4, l5, hN, _, _⟩ := hp.cells hb0
  obtain ⟨c2, c3, f3, hin, hNb⟩ := h.facts
  have H := Lib.hid h.drew
  obtain ⟨k, hk⟩ : ∃ k, (strT tx).length = k := ⟨_, rfl⟩
  have HL := Lib.hid (show out.length + k ≤ 10000000000000 by omega)
  have HK := Lib.hid hk
  have HP := Lib.hid (fun w => putStr_of tx hl w)
  clear hN l4 l5 q4 q5 hb0 hp h hlen hk hl
  go_enter Try.func18, Try.ntmps18
  have q3d : World.cell? { heap := w.heap, tape := w.tape, drawn := w.drawn + 1, os := w.os, output := w.output } ⟨pb, po + 3, none⟩ = some (.string ⟨tx.toArray⟩) := q3
  go_upto_region 9 with fail
  first | (go_region_with (first
    | (go_at_call 33
       go_must (
         refine (HP.out _).mono ?_
         rintro e w1 ⟨rfl, hb1⟩
         have h1 := H.out.stay hb1
         have hb1' : Below W0.heap.size w w1 := (Below.refl _ _).drew.trans (hb1.mono H.out.low)
         have H1 := Lib.hid (And.intro h1 hb1')
         clear h1 hb1 hb1'))
    | (go_at_call 32
       go_must (
         refine (H1.out.1.str ⟨(strT tx).toArray⟩ (strT tx) rfl (by rw [HK.out]; have := HL.out; omega)).mono ?_
         rintro e w2 ⟨rfl, h2, hb2⟩
         have H2 := Lib.hid (And.intro h2 (H1.out.2.trans hb2))
         clear h2 hb2)))) | fail
  all_goals
    go_wp2
    go_end0
    exact ⟨_, rfl, H2.out⟩

set_option maxHeartbeats 8000000 in
set_option maxRecDepth 100000 in
theorem begin_plain {W0 w : World} {b : Nat} {ln : Bool} {out : List UInt8} {v : Value} {fl : List (Addr × Nat)} (h : WI W0.heap.size w b ln out v fl) (hb0 : Below W0.heap.size W0 w) {p : Addr} {kd : Int} {fr to' : Nat} {tx : List UInt8} {items : List Tree} {names : List (List UInt8)}
    (hp : PtIs W0 p (.mk kd fr to' tx items names)) (h3 : kd ≠ 3) (h4 : kd ≠ 4) (h5 : kd ≠ 5) (hlen : out.length + tx.length ≤ 10000000000000) :
    Calls Try.prog 18 #[.pointer (some ⟨b, 0, none⟩), .pointer (some p)] w (WrO W0.heap.size w b ln (out ++ tx) fl) := by
  obtain ⟨pb, po, A, c, B, d, xs, rfl, q0, q3, q4, q5, l4, l5, hN, _, _⟩ := hp.cells hb0
  obtain ⟨c2, c3, f3, hin, hNb⟩ := h.facts
  have H := Lib.hid h.drew
  obtain ⟨k, hk⟩ : ∃ k, tx.length = k := ⟨_, rfl⟩
  have HL := Lib.hid (show out.length + k ≤ 10000000000000 by omega)
  have HK := Lib.hid hk
  have e3 : (kd == 3) = false := beq_eq_false_iff_ne.2 h3
  have e4 : (kd == 4) = false := beq_eq_false_iff_ne.2 h4
  have e5 : (kd == 5) = false := beq_eq_false_iff_ne.2 h5
  clear hN l4 l5 q4 q5 hb0 hp h hlen hk h3 h4 h5
  go_enter Try.func18, Try.ntmps18
  have q3d : World.cell? { heap := w.heap, tape := w.tape, drawn := w.drawn + 1, os := w.os, output := w.output } ⟨pb, po + 3, none⟩ = some (.string ⟨tx.toArray⟩) := q3
  go_upto_region 1 with fail
  go_still_tail 7, (by kernel_rfl)
  change wpList _ _ _ _ _ w.drew
  go_wp2_with (
    go_at_call 32
    go_must (
      refine (H.out.str ⟨tx.toArray⟩ tx rfl (by rw [HK.out]; have := HL.out; omega)).mono ?_
      rintro e w2 ⟨rfl, h2, hb2⟩
      have H2 := Lib.hid (And.intro h2 ((Below.refl _ _).drew.trans hb2))
      clear h2 hb2))
  go_end0
  exact ⟨_, rfl, H2.out⟩

end Go.Proofs.Ytaklbbkjhbkieaa

namespace Go.Proofs.Ytaklbbkjhbkieaa
open Go.RowKit
set_option linter.unusedVariables false

set_option maxHeartbeats 8000000 in
set_option maxRecDepth 100000 in
theorem begin_arr {W0 w : World} {b : Nat} {ln : Bool} {out : List UInt8} {v : Value} {fl : List (Addr × Nat)} (h : WI W0.heap.size w b ln out v fl) (hb0 : Below W0.heap.size W0 w) {p : Addr} {fr to' : Nat} {tx : List UInt8} {items : List Tree} {names : List (List UInt8)}
    (hp : PtIs W0 p (.mk 4 fr to' tx items names)) (hlen : out.length ≤ 10000000000000) (hfl : fl.length ≤ 1000000) :
    Calls Try.prog 18 #[.pointer (some ⟨b, 0, none⟩), .pointer (some p)] w (WrO W0.heap.size w b ln (out ++ [91]) (fl ++ [(p, 0)])) := by
  obtain ⟨pb, po, A, c, B, d, xs, rfl, q0, q3, q4, q5, l4, l5, hN, _, _⟩ := hp.cells hb0
  obtain ⟨A0, c0, rfl, hmc, hcm⟩ := h.form
  obtain ⟨m, hm⟩ : ∃ m, fl.length = m := ⟨_, rfl⟩
  have HM := Lib.hid hm
  have HF := Lib.hid hfl
  have H := Lib.hid h
  clear hN l4 l5 q3 q4 q5 hb0 hp hm hfl hmc
  have HB := Lib.hid (h.byte (by omega) 91 91 rfl)
  clear h hlen
  go_enter Try.func18, Try.ntmps18
  go_wp2_with (first
    | (go_at_call 31
       go_must (
         refine HB.out.mono ?_
         rintro e w1 ⟨rfl, h1, hb1⟩
         have h2 := h1.stay (below1 w1 (.cells #[.pointer (some ⟨pb, po, none⟩), .int .i64 0] 57))
         obtain ⟨d2, d3, g3, hin1, hN1⟩ := h1.facts
         rw [HM.out] at d3
         have H1 := Lib.hid (And.intro h1 (And.intro hb1 h2))
         have NEW := Lib.hid (open_rd w1 ⟨pb, po, none⟩ w1.heap.size rfl)
         clear h1 hb1 h2))
    | (at_builtin
       go_must (
         refine row_append (K := openK) _ rfl (.tmp 26) (.tmp 29) rfl W0.heap.size (.slice A0 m c0) fl rfl (HM.out ▸ H1.out.2.2.opn) _ 1 1 [(⟨pb, po, none⟩, 0)] rfl NEW.out (by have := HF.out; omega) H1.out.2.2.low ?_
         intro v5 w5 hr5 hg5 hat5
         obtain ⟨A5, c5, e5, _⟩ := hr5.form
         obtain ⟨n5, hn5⟩ : ∃ n5, (fl ++ [((⟨pb, po, none⟩ : Addr), 0)]).length = n5 := ⟨_, rfl⟩
         rw [hn5] at e5
         subst e5
         rw [← HM.out] at hg5 hat5
         obtain ⟨p9, u9, o9, hf9⟩ := H1.out.2.2.own
         have o5 : Own w5 b 51 #[p9, u9, .bool ln, .slice A0 fl.length c0] := (hg5.block b o9.inside (fun e => hf9.2 e.symm)).trans o9
         have y3 := o5.at 3
         have z3 := o5.free 3
         simp at y3
         have hop := H1.out.2.2.opens (w1 := w5) (fun k hk hne => hg5.block k hk (fun e => hne e.symm)) ⟨hg5.os, hg5.tape, hg5.output⟩ hg5.size hr5 (fun k hk => by
           rcases hat5 with q | q
           · rw [q] at hk; exact .inl hk
           · rw [q] at hk; have := Option.some.inj hk; exact .inr (by omega))
         have HO := Lib.hid (And.intro hop.1 ((H1.out.2.1.trans ((below1 w1 (.cells #[.pointer (some ⟨pb, po, none⟩), .int .i64 0] 57)).mono H1.out.1.low)).trans hop.2))
         clear hr5 hg5 hat5 o9 hf9 o5 hop hn5)))
  go_end0
  exact ⟨_, rfl, HO.out⟩

set_option maxHeartbeats 8000000 in
set_option maxRecDepth 100000 in
theorem begin_obj {W0 w : World} {b : Nat} {ln : Bool} {out : List UInt8} {v : Value} {fl : List (Addr × Nat)} (h : WI W0.heap.size w b ln out v fl) (hb0 : Below W0.heap.size W0 w) {p : Addr} {fr to' : Nat} {tx : List UInt8} {items : List Tree} {names : List (List UInt8)}
    (hp : PtIs W0 p (.mk 5 fr to' tx items names)) (hlen : out.length ≤ 10000000000000) (hfl : fl.length ≤ 1000000) :
    Calls Try.prog 18 #[.pointer (some ⟨b, 0, none⟩), .pointer (some p)] w (WrO W0.heap.size w b ln (out ++ [123]) (fl ++ [(p, 0)])) := by
  obtain ⟨pb, po, A, c, B, d, xs, rfl, q0, q3, q4, q5, l4, l5, hN, _, _⟩ := hp.cells hb0
  obtain ⟨A0, c0, rfl, hmc, hcm⟩ := h.form
  obtain ⟨m, hm⟩ : ∃ m, fl.length = m := ⟨_, rfl⟩
  have HM := Lib.hid hm
  have HF := Lib.hid hfl
  have H := Lib.hid h
  clear hN l4 l5 q3 q4 q5 hb0 hp hm hfl hmc
  have HB := Lib.hid (h.byte (by omega) 123 123 rfl)
  clear h hlen
  go_enter Try.func18, Try.ntmps18
  go_wp2_with (first
    | (go_at_call 31
       go_must (
         refine HB.out.mono ?_
         rintro e w1 ⟨rfl, h1, hb1⟩
         have h2 := h1.stay (below1 w1 (.cells #[.pointer (some ⟨pb, po, none⟩), .int .i64 0] 57))
         obtain ⟨d2, d3, g3, hin1, hN1⟩ := h1.facts
         rw [HM.out] at d3
         have H1 := Lib.hid (And.intro h1 (And.intro hb1 h2))
         have NEW := Lib.hid (open_rd w1 ⟨pb, po, none⟩ w1.heap.size rfl)
         clear h1 hb1 h2))
    | (at_builtin
       go_must (
         refine row_append (K := openK) _ rfl (.tmp 43) (.tmp 46) rfl W0.heap.size (.slice A0 m c0) fl rfl (HM.out ▸ H1.out.2.2.opn) _ 1 1 [(⟨pb, po, none⟩, 0)] rfl NEW.out (by have := HF.out; omega) H1.out.2.2.low ?_
         intro v5 w5 hr5 hg5 hat5
         obtain ⟨A5, c5, e5, _⟩ := hr5.form
         obtain ⟨n5, hn5⟩ : ∃ n5, (fl ++ [((⟨pb, po, none⟩ : Addr), 0)]).length = n5 := ⟨_, rfl⟩
         rw [hn5] at e5
         subst e5
         rw [← HM.out] at hg5 hat5
         obtain ⟨p9, u9, o9, hf9⟩ := H1.out.2.2.own
         have o5 : Own w5 b 51 #[p9, u9, .bool ln, .slice A0 fl.length c0] := (hg5.block b o9.inside (fun e => hf9.2 e.symm)).trans o9
         have y3 := o5.at 3
         have z3 := o5.free 3
         simp at y3
         have hop := H1.out.2.2.opens (w1 := w5) (fun k hk hne => hg5.block k hk (fun e => hne e.symm)) ⟨hg5.os, hg5.tape, hg5.output⟩ hg5.size hr5 (fun k hk => by
           rcases hat5 with q | q
           · rw [q] at hk; exact .inl hk
           · rw [q] at hk; have := Option.some.inj hk; exact .inr (by omega))
         have HO := Lib.hid (And.intro hop.1 ((H1.out.2.1.trans ((below1 w1 (.cells #[.pointer (some ⟨pb, po, none⟩), .int .i64 0] 57)).mono H1.out.1.low)).trans hop.2))
         clear hr5 hg5 hat5 o9 hf9 o5 hop hn5)))
  go_end0
  exact ⟨_, rfl, HO.out⟩

end Go.Proofs.Ytaklbbkjhbkieaa

namespace Go.Proofs.Ytaklbbkjhbkieaa
open Go.RowKit
set_option linter.unusedVariables false

/-- What is written as an array, or an object, ends: so deep, has it items, is it an object. -/
def closeT (ln : Bool) (d : Nat) (any obj : Bool) : List UInt8 := (if any then nlT ln (2 * d) else []) ++ [if obj then 125 else 93]
theorem own_len (A : Option Addr) (n m c : Nat) : (Value.slice A n c).ownBlock = (Value.slice A m c).ownBlock := by cases A <;> rfl
theorem nlT_length (ln : Bool) (n : Nat) : (nlT ln n).length ≤ n + 1 := by
  unfold nlT
  split
  · rw [newL_length]; exact Nat.le_refl _
  · exact Nat.zero_le _

set_option maxHeartbeats 8000000 in
set_option maxRecDepth 100000 in
theorem end_4 {W0 w : World} {b : Nat} {ln : Bool} {out : List UInt8} {v : Value} {fl : List (Addr × Nat)} {q : Addr × Nat} (h : WI W0.heap.size w b ln out v (fl ++ [q])) (hb0 : Below W0.heap.size W0 w) {p : Addr} {fr to' : Nat} {tx : List UInt8} {items : List Tree} {names : List (List UInt8)}
    (hp : PtIs W0 p (.mk 4 fr to' tx items names)) (hlen : out.length ≤ 1000000000000) (hfl : fl.length ≤ 1000000) :
    Calls Try.prog 34 #[.pointer (some ⟨b, 0, none⟩), .pointer (some p)] w (WrO W0.heap.size w b ln (out ++ closeT ln fl.length (decide (0 < items.length)) false) fl) := by
  obtain ⟨A0, c0, rfl, hmc, hcm⟩ := h.form
  obtain ⟨m, hm⟩ : ∃ m, (fl ++ [q]).length = m := ⟨_, rfl⟩
  obtain ⟨m0, hm0⟩ : ∃ m0, fl.length = m0 := ⟨_, rfl⟩
  have hmm : m = m0 + 1 := by rw [← hm, ← hm0]; simp
  obtain ⟨c2, c3, f3, hin, hNb⟩ := h.facts
  rw [hm] at c3 hmc
  have hs0 : (0 : Int) ≤ (m0 : Int) := by omega
  have hs1 : (m0 : Int) ≤ (c0 : Int) := by omega
  have hsw : IntKind.i64.wrap (m0 : Int) = (m0 : Int) := by rw [IntKind.wrap_i64]; unfold maxLen at hcm; omega
  have hcut : GRow openK w.drew W0.heap.size (.slice A0 m0 c0) fl := by
    have := h.opn.cut (k := m0) (by simp [hm0])
    rw [← hm0, List.take_left' rfl, hm0] at this
    exact this
  have hop := h.drew.opens (w1 := w.drew) (v' := .slice A0 m0 c0) (fl' := fl) (fun k _ _ => rfl) ⟨rfl, rfl, rfl⟩ (Nat.le_refl _) hcut (fun k hk => .inl ((own_len A0 m0 (fl ++ [q]).length c0).symm.trans hk))
  have c3d : World.cell? { heap := w.heap, tape := w.tape, drawn := w.drawn + 1, os := w.os, output := w.output } ⟨b, 3, none⟩ = some (.slice A0 m c0) := c3
  have HM := Lib.hid hm0
  have HF := Lib.hid (show m0 ≤ 1000000 by omega)
  have HL := Lib.hid hlen
  have HO := Lib.hid hop
  have HP := Lib.hid hp
  have HB0 := Lib.hid hb0
  clear h hm hcut hop hm0 hfl hlen hp hb0
  go_enter Try.func34, Try.ntmps34
  go_wp2
  go_still_tail 14, (by kernel_rfl)
  change wpList _ _ _ _ _ w.drew
  go_upto_region 1 with fail
  change Code.wp _ _ _ _ (w.drew.setCell ⟨b, 3, none⟩ (.slice A0 m0 c0))
  have hA := HO.out.1
  have hbA : Below W0.heap.size w (w.drew.setCell ⟨b, 3, none⟩ (.slice A0 m0 c0)) := (Below.refl _ _).drew.trans HO.out.2
  clear HO c2 c3 f3 hs0 hs1 hsw c3d
  generalize w.drew.setCell ⟨b, 3, none⟩ (.slice A0 m0 c0) = wA at hA hbA ⊢
  obtain ⟨pb, po, A, c, B, d, xs, rfl, q0, q3, q4, q5, l4, l5, hN, _, _⟩ := HP.out.cells (HB0.out.trans hbA)
  have HPA := Lib.hid (HP.out)
  obtain ⟨n0, hn0⟩ : ∃ n0, items.length = n0 := ⟨_, rfl⟩
  rw [hn0] at q4 l4
  have HN0 := Lib.hid hn0
  clear hN q5 l5 q3 hn0
  by_cases h0 : 0 < n0
  · have HLN := Lib.hid (line_any hA (by have := HL.out; omega) (by rw [HM.out]; exact HF.out))
    have HBA := Lib.hid hbA
    clear hA hbA
    go_wp2_with (first
      | (go_at_call 35
         go_must (
           refine HLN.out.mono ?_
           rintro e w1 ⟨rfl, h1, hb1⟩
           obtain ⟨_, _, _, _, _, _, _, e9, r0, _⟩ := HPA.out.cells (HB0.out.trans (HBA.out.trans hb1))
           injection e9 with e9a e9b
           subst e9a e9b
           have H1 := Lib.hid (And.intro h1 (HBA.out.trans hb1))
           clear h1 hb1))
      | (go_at_call 31
         go_must (
           refine (H1.out.1.byte (by rw [List.length_append, HM.out]; have := HL.out; have := HF.out; have := nlT_length ln (2 * m0); omega) 93 93 rfl).mono ?_
           rintro e w2 ⟨rfl, h2, hb2⟩
           have H2 := Lib.hid (And.intro h2 (H1.out.2.trans hb2))
           clear h2 hb2)))
    go_end0
    have e : closeT ln fl.length (decide (0 < items.length)) false = nlT ln (2 * fl.length) ++ [93] := by
      unfold closeT
      rw [HN0.out, decide_eq_true h0]
      rfl
    refine ⟨.slice A0 m0 c0, rfl, ?_, H2.out.2⟩
    rw [e, ← List.append_assoc]
    exact H2.out.1
  · obtain rfl : n0 = 0 := by omega
    have HA := Lib.hid hA
    have HBA := Lib.hid hbA
    clear hA hbA
    go_wp2_with (
      go_at_call 31
      go_must (
        refine (HA.out.byte (by have := HL.out; omega) 93 93 rfl).mono ?_
        rintro e w2 ⟨rfl, h2, hb2⟩
        have H2 := Lib.hid (And.intro h2 (HBA.out.trans hb2))
        clear h2 hb2))
    go_end0
    have e : closeT ln fl.length (decide (0 < items.length)) false = [93] := by
      unfold closeT
      rw [HN0.out]
      rfl
    refine ⟨.slice A0 m0 c0, rfl, ?_, H2.out.2⟩
    rw [e]
    exact H2.out.1

set_option maxHeartbeats 8000000 in
set_option maxRecDepth 100000 in
theorem end_5 {W0 w : World} {b : Nat} {ln : Bool} {out : List UInt8} {v : Value} {fl : List (Addr × Nat)} {q : Addr × Nat} (h : WI W0.heap.size w b ln out v (fl ++ [q])) (hb0 : Below W0.heap.size W0 w) {p : Addr} {fr to' : Nat} {tx : List UInt8} {items : List Tree} {names : List (List UInt8)}
    (hp : PtIs W0 p (.mk 5 fr to' tx items names)) (hlen : out.length ≤ 1000000000000) (hfl : fl.length ≤ 1000000) :
    Calls Try.prog 34 #[.pointer (some ⟨b, 0, none⟩), .pointer (some p)] w (WrO W0.heap.size w b ln (out ++ closeT ln fl.length (decide (0 < items.length)) true) fl) := by
  obtain ⟨A0, c0, rfl, hmc, hcm⟩ := h.form
  obtain ⟨m, hm⟩ : ∃ m, (fl ++ [q]).length = m := ⟨_, rfl⟩
  obtain ⟨m0, hm0⟩ : ∃ m0, fl.length = m0 := ⟨_, rfl⟩
  have hmm : m = m0 + 1 := by rw [← hm, ← hm0]; simp
  obtain ⟨c2, c3, f3, hin, hNb⟩ := h.facts
  rw [hm] at c3 hmc
  have hs0 : (0 : Int) ≤ (m0 : Int) := by omega
  have hs1 : (m0 : Int) ≤ (c0 : Int) := by omega
  have hsw : IntKind.i64.wrap (m0 : Int) = (m0 : Int) := by rw [IntKind.wrap_i64]; unfold maxLen at hcm; omega
  have hcut : GRow openK w.drew W0.heap.size (.slice A0 m0 c0) fl := by
    have := h.opn.cut (k := m0) (by simp [hm0])
    rw [← hm0, List.take_left' rfl, hm0] at this
    exact this
  have hop := h.drew.opens (w1 := w.drew) (v' := .slice A0 m0 c0) (fl' := fl) (fun k _ _ => rfl) ⟨rfl, rfl, rfl⟩ (Nat.le_refl _) hcut (fun k hk => .inl ((own_len A0 m0 (fl ++ [q]).length c0).symm.trans hk))
  have c3d : World.cell? { heap := w.heap, tape := w.tape, drawn := w.drawn + 1, os := w.os, output := w.output } ⟨b, 3, none⟩ = some (.slice A0 m c0) := c3
  have HM := Lib.hid hm0
  have HF := Lib.hid (show m0 ≤ 1000000 by omega)
  have HL := Lib.hid hlen
  have HO := Lib.hid hop
  have HP := Lib.hid hp
  have HB0 := Lib.hid hb0
  clear h hm hcut hop hm0 hfl hlen hp hb0
  go_enter Try.func34, Try.ntmps34
  go_wp2
  go_still_tail 14, (by kernel_rfl)
  change wpList _ _ _ _ _ w.drew
  go_upto_region 1 with fail
  change Code.wp _ _ _ _ (w.drew.setCell ⟨b, 3, none⟩ (.slice A0 m0 c0))
  have hA := HO.out.1
  have hbA : Below W0.heap.size w (w.drew.setCell ⟨b, 3, none⟩ (.slice A0 m0 c0)) := (Below.refl _ _).drew.trans HO.out.2
  clear HO c2 c3 f3 hs0 hs1 hsw c3d
  generalize w.drew.setCell ⟨b, 3, none⟩ (.slice A0 m0 c0) = wA at hA hbA ⊢
  obtain ⟨pb, po, A, c, B, d, xs, rfl, q0, q3, q4, q5, l4, l5, hN, _, _⟩ := HP.out.cells (HB0.out.trans hbA)
  have HPA := Lib.hid (HP.out)
  obtain ⟨n0, hn0⟩ : ∃ n0, items.length = n0 := ⟨_, rfl⟩
  rw [hn0] at q4 l4
  have HN0 := Lib.hid hn0
  clear hN q5 l5 q3 hn0
  by_cases h0 : 0 < n0
  · have HLN := Lib.hid (line_any hA (by have := HL.out; omega) (by rw [HM.out]; exact HF.out))
    have HBA := Lib.hid hbA
    clear hA hbA
    go_wp2_with (first
      | (go_at_call 35
         go_must (
           refine HLN.out.mono ?_
           rintro e w1 ⟨rfl, h1, hb1⟩
           obtain ⟨_, _, _, _, _, _, _, e9, r0, _⟩ := HPA.out.cells (HB0.out.trans (HBA.out.trans hb1))
           injection e9 with e9a e9b
           subst e9a e9b
           have H1 := Lib.hid (And.intro h1 (HBA.out.trans hb1))
           clear h1 hb1))
      | (go_at_call 31
         go_must (
           refine (H1.out.1.byte (by rw [List.length_append, HM.out]; have := HL.out; have := HF.out; have := nlT_length ln (2 * m0); omega) 125 125 rfl).mono ?_
           rintro e w2 ⟨rfl, h2, hb2⟩
           have H2 := Lib.hid (And.intro h2 (H1.out.2.trans hb2))
           clear h2 hb2)))
    go_end0
    have e : closeT ln fl.length (decide (0 < items.length)) true = nlT ln (2 * fl.length) ++ [125] := by
      unfold closeT
      rw [HN0.out, decide_eq_true h0]
      rfl
    refine ⟨.slice A0 m0 c0, rfl, ?_, H2.out.2⟩
    rw [e, ← List.append_assoc]
    exact H2.out.1
  · obtain rfl : n0 = 0 := by omega
    have HA := Lib.hid hA
    have HBA := Lib.hid hbA
    clear hA hbA
    go_wp2_with (
      go_at_call 31
      go_must (
        refine (HA.out.byte (by have := HL.out; omega) 125 125 rfl).mono ?_
        rintro e w2 ⟨rfl, h2, hb2⟩
        have H2 := Lib.hid (And.intro h2 (HBA.out.trans hb2))
        clear h2 hb2))
    go_end0
    have e : closeT ln fl.length (decide (0 < items.length)) true = [125] := by
      unfold closeT
      rw [HN0.out]
      rfl
    refine ⟨.slice A0 m0 c0, rfl, ?_, H2.out.2⟩
    rw [e]
    exact H2.out.1

theorem end_any {W0 w : World} {b : Nat} {ln : Bool} {out : List UInt8} {v : Value} {fl : List (Addr × Nat)} {q : Addr × Nat} (h : WI W0.heap.size w b ln out v (fl ++ [q])) (hb0 : Below W0.heap.size W0 w) {p : Addr} {kd : Int} {fr to' : Nat} {tx : List UInt8} {items : List Tree} {names : List (List UInt8)}
    (hp : PtIs W0 p (.mk kd fr to' tx items names)) (hk : kd = 4 ∨ kd = 5) (hlen : out.length ≤ 1000000000000) (hfl : fl.length ≤ 1000000) :
    Calls Try.prog 34 #[.pointer (some ⟨b, 0, none⟩), .pointer (some p)] w (WrO W0.heap.size w b ln (out ++ closeT ln fl.length (decide (0 < items.length)) (decide (kd = 5))) fl) := by
  rcases hk with rfl | rfl
  · exact end_4 h hb0 hp hlen hfl
  · exact end_5 h hb0 hp hlen hfl

end Go.Proofs.Ytaklbbkjhbkieaa

namespace Go.Proofs.Ytaklbbkjhbkieaa
open Go.RowKit
set_option linter.unusedVariables false

section
variable {α : Type} {K : RowK α} {w w' : World} {base : Nat} {v : Value} {l : List α}
theorem all_set : ∀ (l : List α) (i j : Nat) (a : α) (u : Value) (b : α), l[i]? = some b → j < K.n → K.enc a = (K.enc b).set j u → K.all (l.set i a) = (K.all l).set (i * K.n + j) u
  | [], i, j, a, u, b, h, _, _ => by cases h
  | x :: t, 0, j, a, u, b, h, hj, he => by
    obtain rfl : x = b := by simpa using h
    show K.enc a ++ K.all t = (K.enc x ++ K.all t).set (0 * K.n + j) u
    rw [Nat.zero_mul, Nat.zero_add, List.set_append_left _ _ (by rw [K.len]; exact hj), he]
  | x :: t, i + 1, j, a, u, b, h, hj, he => by
    show K.enc x ++ K.all (t.set i a) = (K.enc x ++ K.all t).set ((i + 1) * K.n + j) u
    rw [List.set_append_right _ _ (by rw [K.len, Nat.add_mul]; omega), K.len, all_set t i j a u b (by simpa using h) hj he]
    congr 2
    rw [Nat.add_mul]
    omega
/-- One cell of an element written over. -/
theorem GRow.putAt {g m c i j : Nat} {a b : α} {u : Value} (h : GRow K w base (.slice (some ⟨g, 0, none⟩) m c) l) (hi : l[i]? = some b) (hj : j < K.n) (hu : K.enc a = (K.enc b).set j u) :
    GRow K (w.setCell ⟨g, i * K.n + j, none⟩ u) base (.slice (some ⟨g, 0, none⟩) m c) (l.set i a) := by
  unfold GRow at h ⊢
  rw [List.length_set, all_set l i j a u b hi hj hu]
  refine ⟨by rw [List.length_set]; exact h.1, ?_⟩
  rcases h.2 with ⟨hv, h0⟩ | ⟨g', c', cur, hv, hb, hg, g1, g2, g3, g4⟩
  · cases hv
  · injection hv with hA hm hc
    injection hA with hA
    injection hA with hA
    subst hA
    refine .inr ⟨g, c', cur.setIfInBounds (i * K.n + j) u, by rw [hm, hc], hb, ?_, g1, g2, by simpa using g3, ?_⟩
    · simp [World.setCell, Array.getElem?_modify, hg]
    · rw [Array.toList_setIfInBounds, List.take_set, g4]
end

section
variable {N : Nat} {w : World} {b : Nat} {ln : Bool} {out : List UInt8} {g M c : Nat} {fl : List (Addr × Nat)} {p : Addr} {i : Nat}
/-- The innermost open one's cells. -/
theorem WI.top (h : WI N w b ln out (.slice (some ⟨g, 0, none⟩) M c) (fl ++ [(p, i)])) {m0 : Nat} (hm : fl.length = m0) :
    w.cell? ⟨g, m0 * 2, none⟩ = some (.pointer (some p)) ∧ w.cell? ⟨g, m0 * 2 + 1, none⟩ = some (.int .i64 i) ∧ w.frozen? ⟨g, m0 * 2 + 1, none⟩ = false ∧ g ≠ b := by
  have ha : (fl ++ [(p, i)])[m0]? = some (p, i) := by rw [← hm]; simp
  have hr := h.opn.rd
  have h0 := hr.at rfl ha (j := 0) (u := .pointer (some p)) rfl
  have h1 := hr.at rfl ha (j := 1) (u := .int .i64 i) rfl
  simp only [Nat.zero_add] at h0 h1
  obtain ⟨q, u, ho, hf⟩ := h.own
  exact ⟨h0, h1, h.opn.free _, fun e => hf.2 (by rw [← e]; simp [Value.ownBlock])⟩
/-- One more of its items is begun. -/
theorem WI.bump (h : WI N w b ln out (.slice (some ⟨g, 0, none⟩) M c) (fl ++ [(p, i)])) {m0 : Nat} (hm : fl.length = m0) :
    WI N (w.setCell ⟨g, m0 * 2 + 1, none⟩ (.int .i64 ((i : Int) + 1))) b ln out (.slice (some ⟨g, 0, none⟩) M c) (fl ++ [(p, i + 1)]) ∧ Below N w (w.setCell ⟨g, m0 * 2 + 1, none⟩ (.int .i64 ((i : Int) + 1))) := by
  have ha : (fl ++ [(p, i)])[m0]? = some (p, i) := by rw [← hm]; simp
  have hg : (Value.slice (some ⟨g, 0, none⟩) M c).ownBlock = some g := by simp [Value.ownBlock]
  have hr := h.opn.putAt (i := m0) (j := 1) (a := (p, i + 1)) (b := (p, i)) (u := .int .i64 ((i : Int) + 1)) ha (by decide) rfl
  have hs : (fl ++ [(p, i)]).set m0 (p, i + 1) = fl ++ [(p, i + 1)] := by rw [← hm]; simp
  rw [hs] at hr
  have hNg := (h.opn.low hg).1
  refine ⟨⟨h.bld.stay (G := fun k => k = g) (Touch.setCell (F := fun k => k = g) (Touch.refl _ w) (p := ⟨g, m0 * 2 + 1, none⟩) (.inl rfl) _) (fun k _ hf e => hf.2 (by rw [e]; exact hg)), hr, ?_⟩, ?_⟩
  · simp [World.setCell]; exact h.low
  · exact (Below.refl N w).setCell hNg _
end
theorem WI.open_form {N : Nat} {w : World} {b : Nat} {ln : Bool} {out : List UInt8} {v : Value} {fl : List (Addr × Nat)} {q : Addr × Nat} (h : WI N w b ln out v (fl ++ [q])) : ∃ g c, v = .slice (some ⟨g, 0, none⟩) (fl ++ [q]).length c := by
  obtain ⟨A, c, e, _, _, hA⟩ := h.opn.form
  obtain ⟨g, hg, _⟩ := hA (by simp)
  exact ⟨g, c, by rw [e, hg]⟩

theorem nameTx_length (ln : Bool) (nm : List UInt8) : (nameTx ln nm).length ≤ (strT nm).length + 2 := by
  unfold nameTx
  cases ln <;> simp
def pushT (p : Addr) (t : Tree) : List (Addr × Nat) := if t.kd = 4 ∨ t.kd = 5 then [(p, 0)] else []
theorem begin_any {W0 w : World} {b : Nat} {ln : Bool} {out : List UInt8} {v : Value} {fl : List (Addr × Nat)} (h : WI W0.heap.size w b ln out v fl) (hb0 : Below W0.heap.size W0 w) {p : Addr} {t : Tree}
    (hp : PtIs W0 p t) (hl : t.tx.length ≤ 1000000000) (hh : (headT t).length ≤ 100000000000) (hlen : out.length ≤ 1000000000000) (hfl : fl.length ≤ 1000000) :
    Calls Try.prog 18 #[.pointer (some ⟨b, 0, none⟩), .pointer (some p)] w (WrO W0.heap.size w b ln (out ++ headT t) (fl ++ pushT p t)) := by
  obtain ⟨kd, fr, to', tx, items, names⟩ := t
  by_cases h4 : kd = 4
  · subst h4
    exact begin_arr h hb0 hp (by omega) hfl
  by_cases h5 : kd = 5
  · subst h5
    exact begin_obj h hb0 hp (by omega) hfl
  have e1 : pushT p (.mk kd fr to' tx items names) = [] := if_neg (by show ¬ (kd = 4 ∨ kd = 5); omega)
  rw [e1, List.append_nil]
  by_cases h3 : kd = 3
  · subst h3
    have e : headT (.mk 3 fr to' tx items names) = strT tx := rfl
    rw [e] at hh
    have hs : out.length + (strT tx).length ≤ 10000000000000 := by omega
    exact begin_str h hb0 hp hl hs
  · have e2 : headT (.mk kd fr to' tx items names) = tx := by unfold headT; show (if kd = 4 then _ else if kd = 5 then _ else if kd = 3 then _ else tx) = tx; rw [if_neg h4, if_neg h5, if_neg h3]
    rw [e2]
    exact begin_plain h hb0 hp h3 h4 h5 (by have hl : tx.length ≤ 1000000000 := hl; omega)

/-- The kind's and the items' cells. -/
theorem val_cells {W0 w : World} {pb po : Nat} {x : V6} (hc : CellsAt W0 ⟨pb, po, none⟩ x) (hb : Below W0.heap.size W0 w) : w.cell? ⟨pb, po, none⟩ = some (.int .i64 x.kd) ∧ w.cell? ⟨pb, po + 4, none⟩ = some (.slice x.A x.n x.c) := by
  obtain ⟨b, o, e, hlt, h⟩ := hc.below hb
  injection e with e1 e2
  subst e1 e2
  exact ⟨h 0 _ rfl, h 4 _ rfl⟩

set_option maxHeartbeats 16000000 in
set_option maxRecDepth 100000 in
theorem goOn_end4 {W0 w : World} {b : Nat} {ln : Bool} {out : List UInt8} {g M c : Nat} {fl : List (Addr × Nat)} {p : Addr} {m0 : Nat} (hm : fl.length = m0) {fr to' : Nat} {tx : List UInt8} {items : List Tree} {names : List (List UInt8)}
    (h : WI W0.heap.size w b ln out (.slice (some ⟨g, 0, none⟩) M c) (fl ++ [(p, items.length)])) (hb0 : Below W0.heap.size W0 w) (hp : PtIs W0 p (.mk 4 fr to' tx items names)) (hlen : out.length ≤ 100000000000) (hfl : fl.length ≤ 900000) :
    Calls Try.prog 19 #[.pointer (some ⟨b, 0, none⟩), .pointer (some ⟨g, m0 * 2, none⟩)] w (WrO W0.heap.size w b ln (out ++ closeT ln fl.length (decide (0 < items.length)) (decide ((4 : Int) = 5))) fl) := by
  obtain ⟨pb, po, A, c1, B, d, xs, rfl, q0, q3, q4, q5, l4, l5, hN, _, _⟩ := hp.cells hb0
  obtain ⟨t0, t1, t2, t3⟩ := h.top hm
  have HE := Lib.hid (end_any h hb0 hp (.inl rfl) (by omega) (by omega))
  obtain ⟨n, hn⟩ : ∃ n, items.length = n := ⟨_, rfl⟩
  rw [hn] at q4 l4 t1
  clear hN l5 q5 q3 hb0 hp h hn hlen hfl hm
  go_enter Try.func19, Try.ntmps19
  go_wp2_with (
    go_at_call 34
    go_must (
      refine HE.out.mono ?_
      rintro e w2 ⟨v', rfl, h2⟩
      have H2 := Lib.hid h2
      clear h2))
  first | go_end0 | (refine bodyPost_ret (results_none rfl _ _ _) rfl ?_) | skip
  exact ⟨v', rfl, H2.out⟩

set_option maxHeartbeats 16000000 in
set_option maxRecDepth 100000 in
theorem goOn_40 {W0 w : World} {b : Nat} {ln : Bool} {out : List UInt8} {g M c : Nat} {fl : List (Addr × Nat)} {p : Addr} {m0 : Nat} (hm : fl.length = m0) {fr to' : Nat} {tx : List UInt8} {items : List Tree} {names : List (List UInt8)} {i : Nat}
    (h : WI W0.heap.size w b ln out (.slice (some ⟨g, 0, none⟩) M c) (fl ++ [(p, i)])) (hb0 : Below W0.heap.size W0 w) (hp : PtIs W0 p (.mk 4 fr to' tx items names)) (hlen : out.length ≤ 100000000000) (hfl : fl.length ≤ 900000)
    (hi : ¬ 0 < i) (u : Tree) (hu : items[i]? = some u) (hl : u.tx.length ≤ 1000000000) (hh : (headT u).length ≤ 100000000000) (hn3 : items.length ≤ 1000000000) :
    Calls Try.prog 19 #[.pointer (some ⟨b, 0, none⟩), .pointer (some ⟨g, m0 * 2, none⟩)] w fun e w' => ∃ pu, PtIs W0 pu u ∧ WrO W0.heap.size w b ln (out ++ nlT ln (2 * (fl ++ [(p, i + 1)]).length) ++ headT u) (fl ++ [(p, i + 1)] ++ pushT pu u) e w' := by
  have hin : i < items.length := (List.getElem?_eq_some_iff.1 hu).1
  obtain ⟨x, hc, hv⟩ := id hp
  have hm2 := hv.many
  obtain ⟨pb, po, rfl, hpb, _⟩ := id hc
  have hvk : x.kd = 4 := by unfold VIs at hv; exact hv.1
  obtain ⟨xs, h8, h9⟩ : ∃ xs, RdG valK W0 x.A x.n xs ∧ VLs W0 items xs := by unfold VIs at hv; obtain ⟨_, _, _, _, _, _, _, xs, h8, h9⟩ := hv; exact ⟨xs, h8, h9⟩
  obtain ⟨ib, io, hA, hpu⟩ := PtIs.item h8 h9 hu
  obtain ⟨t0, t1, t2, t3⟩ := h.top hm
  obtain ⟨q0, q4⟩ := val_cells hc hb0
  obtain ⟨n, hn⟩ : ∃ n, items.length = n := ⟨_, rfl⟩
  rw [hvk] at q0
  rw [hm2.1, hn, hA] at q4
  rw [hn] at hin hn3
  have hcap : n ≤ x.c := by unfold VIs at hv; rw [← hn, ← hm2.1]; exact hv.2.2.2.2.1
  have hne : ((i : Int) == n) = false := beq_eq_false_iff_ne.2 (by omega)
  have HV := Lib.hid (And.intro hvk (And.intro hA (hm2.1.trans hn)))
  have HC := Lib.hid hc
  have HP := Lib.hid hp
  have HB0 := Lib.hid hb0
  have HM := Lib.hid hm
  have HU := Lib.hid (And.intro hpu (And.intro hl hh))
  have HL := Lib.hid hlen
  have HF := Lib.hid hfl
  have HW := Lib.hid (h.bump hm)
  have tok : True := trivial
  clear hp hb0 hm h hlen hfl hc hv h8 h9 hpu hu hl hh hm2 hn hvk hA hpb
  go_enter Try.func19, Try.ntmps19
  go_upto_region 4 with fail
  change Code.wp _ _ _ _ (w.setCell ⟨g, m0 * 2 + 1, none⟩ (.int .i64 ((i : Int) + 1)))
  have h1 := HW.out
  clear HW t0 t1 t2 q0 q4
  generalize w.setCell ⟨g, m0 * 2 + 1, none⟩ (.int .i64 ((i : Int) + 1)) = w1 at h1 ⊢
  have H1 := Lib.hid h1
  clear h1
  go_wp2_with (first
    | (go_at_call 35
       go_must (
         refine (line_any H1.out.1 (by have := HL.out; simp; omega) (by have := HF.out; simp; omega)).mono ?_
         rintro e w3 ⟨rfl, h3, hb3⟩
         obtain ⟨t03, t13, t23, t33⟩ := h3.top HM.out
         obtain ⟨x03, x43⟩ := val_cells HC.out (HB0.out.trans (H1.out.2.trans hb3))
         rw [HV.out.1] at x03
         rw [HV.out.2.1, HV.out.2.2] at x43
         have H3 := Lib.hid (And.intro h3 (H1.out.2.trans hb3))
         clear h3 hb3))
    | (go_at_call 18
       go_must (
         refine (begin_any H3.out.1 (HB0.out.trans H3.out.2) HU.out.1 HU.out.2.1 HU.out.2.2 (by have := HL.out; have := HF.out; have := nlT_length ln (2 * (fl ++ [((⟨pb, po, none⟩ : Addr), i + 1)]).length); simp at *; omega) (by have := HF.out; simp; omega)).mono ?_
         rintro e w5 ⟨v', rfl, h5, hb5⟩
         have H5 := Lib.hid (And.intro h5 (H3.out.2.trans hb5))
         clear h5 hb5)))
  go_end0
  exact ⟨_, HU.out.1, v', rfl, H5.out⟩

set_option maxHeartbeats 16000000 in
set_option maxRecDepth 100000 in
theorem goOn_4s {W0 w : World} {b : Nat} {ln : Bool} {out : List UInt8} {g M c : Nat} {fl : List (Addr × Nat)} {p : Addr} {m0 : Nat} (hm : fl.length = m0) {fr to' : Nat} {tx : List UInt8} {items : List Tree} {names : List (List UInt8)} {i : Nat}
    (h : WI W0.heap.size w b ln out (.slice (some ⟨g, 0, none⟩) M c) (fl ++ [(p, i)])) (hb0 : Below W0.heap.size W0 w) (hp : PtIs W0 p (.mk 4 fr to' tx items names)) (hlen : out.length ≤ 100000000000) (hfl : fl.length ≤ 900000)
    (hi : 0 < i) (u : Tree) (hu : items[i]? = some u) (hl : u.tx.length ≤ 1000000000) (hh : (headT u).length ≤ 100000000000) (hn3 : items.length ≤ 1000000000) :
    Calls Try.prog 19 #[.pointer (some ⟨b, 0, none⟩), .pointer (some ⟨g, m0 * 2, none⟩)] w fun e w' => ∃ pu, PtIs W0 pu u ∧ WrO W0.heap.size w b ln (out ++ [44] ++ nlT ln (2 * (fl ++ [(p, i + 1)]).length) ++ headT u) (fl ++ [(p, i + 1)] ++ pushT pu u) e w' := by
  have hin : i < items.length := (List.getElem?_eq_some_iff.1 hu).1
  obtain ⟨x, hc, hv⟩ := id hp
  have hm2 := hv.many
  obtain ⟨pb, po, rfl, hpb, _⟩ := id hc
  have hvk : x.kd = 4 := by unfold VIs at hv; exact hv.1
  obtain ⟨xs, h8, h9⟩ : ∃ xs, RdG valK W0 x.A x.n xs ∧ VLs W0 items xs := by unfold VIs at hv; obtain ⟨_, _, _, _, _, _, _, xs, h8, h9⟩ := hv; exact ⟨xs, h8, h9⟩
  obtain ⟨ib, io, hA, hpu⟩ := PtIs.item h8 h9 hu
  obtain ⟨t0, t1, t2, t3⟩ := h.top hm
  obtain ⟨q0, q4⟩ := val_cells hc hb0
  obtain ⟨n, hn⟩ : ∃ n, items.length = n := ⟨_, rfl⟩
  rw [hvk] at q0
  rw [hm2.1, hn, hA] at q4
  rw [hn] at hin hn3
  have hcap : n ≤ x.c := by unfold VIs at hv; rw [← hn, ← hm2.1]; exact hv.2.2.2.2.1
  have hne : ((i : Int) == n) = false := beq_eq_false_iff_ne.2 (by omega)
  have HV := Lib.hid (And.intro hvk (And.intro hA (hm2.1.trans hn)))
  have HC := Lib.hid hc
  have HP := Lib.hid hp
  have HB0 := Lib.hid hb0
  have HM := Lib.hid hm
  have HU := Lib.hid (And.intro hpu (And.intro hl hh))
  have HL := Lib.hid hlen
  have HF := Lib.hid hfl
  have HW := Lib.hid (h.bump hm)
  have tok : True := trivial
  clear hp hb0 hm h hlen hfl hc hv h8 h9 hpu hu hl hh hm2 hn hvk hA hpb
  go_enter Try.func19, Try.ntmps19
  go_upto_region 4 with fail
  change Code.wp _ _ _ _ (w.setCell ⟨g, m0 * 2 + 1, none⟩ (.int .i64 ((i : Int) + 1)))
  have h1 := HW.out
  clear HW t0 t1 t2 q0 q4
  generalize w.setCell ⟨g, m0 * 2 + 1, none⟩ (.int .i64 ((i : Int) + 1)) = w1 at h1 ⊢
  have H1 := Lib.hid h1
  clear h1
  go_wp2_with (first
    | (go_at_call 31
       go_must (
         refine (H1.out.1.byte (by have := HL.out; omega) 44 44 rfl).mono ?_
         rintro e w2 ⟨rfl, h2, hb2⟩
         have H2 := Lib.hid (And.intro h2 (H1.out.2.trans hb2))
         clear h2 hb2))
    | (go_at_call 35
       go_must (
         refine (line_any H2.out.1 (by have := HL.out; simp; omega) (by have := HF.out; simp; omega)).mono ?_
         rintro e w3 ⟨rfl, h3, hb3⟩
         obtain ⟨t03, t13, t23, t33⟩ := h3.top HM.out
         obtain ⟨x03, x43⟩ := val_cells HC.out (HB0.out.trans (H2.out.2.trans hb3))
         rw [HV.out.1] at x03
         rw [HV.out.2.1, HV.out.2.2] at x43
         have H3 := Lib.hid (And.intro h3 (H2.out.2.trans hb3))
         clear h3 hb3))
    | (go_at_call 18
       go_must (
         refine (begin_any H3.out.1 (HB0.out.trans H3.out.2) HU.out.1 HU.out.2.1 HU.out.2.2 (by have := HL.out; have := HF.out; have := nlT_length ln (2 * (fl ++ [((⟨pb, po, none⟩ : Addr), i + 1)]).length); simp at *; omega) (by have := HF.out; simp; omega)).mono ?_
         rintro e w5 ⟨v', rfl, h5, hb5⟩
         have H5 := Lib.hid (And.intro h5 (H3.out.2.trans hb5))
         clear h5 hb5)))
  go_end0
  exact ⟨_, HU.out.1, v', rfl, H5.out⟩

set_option maxHeartbeats 16000000 in
set_option maxRecDepth 100000 in
theorem goOn_end5 {W0 w : World} {b : Nat} {ln : Bool} {out : List UInt8} {g M c : Nat} {fl : List (Addr × Nat)} {p : Addr} {m0 : Nat} (hm : fl.length = m0) {fr to' : Nat} {tx : List UInt8} {items : List Tree} {names : List (List UInt8)}
    (h : WI W0.heap.size w b ln out (.slice (some ⟨g, 0, none⟩) M c) (fl ++ [(p, items.length)])) (hb0 : Below W0.heap.size W0 w) (hp : PtIs W0 p (.mk 5 fr to' tx items names)) (hlen : out.length ≤ 100000000000) (hfl : fl.length ≤ 900000) :
    Calls Try.prog 19 #[.pointer (some ⟨b, 0, none⟩), .pointer (some ⟨g, m0 * 2, none⟩)] w (WrO W0.heap.size w b ln (out ++ closeT ln fl.length (decide (0 < items.length)) (decide ((5 : Int) = 5))) fl) := by
  obtain ⟨pb, po, A, c1, B, d, xs, rfl, q0, q3, q4, q5, l4, l5, hN, _, _⟩ := hp.cells hb0
  obtain ⟨t0, t1, t2, t3⟩ := h.top hm
  have HE := Lib.hid (end_any h hb0 hp (.inr rfl) (by omega) (by omega))
  obtain ⟨n, hn⟩ : ∃ n, items.length = n := ⟨_, rfl⟩
  rw [hn] at q4 l4 t1
  clear hN l5 q5 q3 hb0 hp h hn hlen hfl hm
  go_enter Try.func19, Try.ntmps19
  go_wp2_with (
    go_at_call 34
    go_must (
      refine HE.out.mono ?_
      rintro e w2 ⟨v', rfl, h2⟩
      have H2 := Lib.hid h2
      clear h2))
  first | go_end0 | (refine bodyPost_ret (results_none rfl _ _ _) rfl ?_) | skip
  exact ⟨v', rfl, H2.out⟩

set_option maxHeartbeats 16000000 in
set_option maxRecDepth 100000 in
theorem goOn_50 {W0 w : World} {b : Nat} {ln : Bool} {out : List UInt8} {g M c : Nat} {fl : List (Addr × Nat)} {p : Addr} {m0 : Nat} (hm : fl.length = m0) {fr to' : Nat} {tx : List UInt8} {items : List Tree} {names : List (List UInt8)} {i : Nat}
    (h : WI W0.heap.size w b ln out (.slice (some ⟨g, 0, none⟩) M c) (fl ++ [(p, i)])) (hb0 : Below W0.heap.size W0 w) (hp : PtIs W0 p (.mk 5 fr to' tx items names)) (hlen : out.length ≤ 100000000000) (hfl : fl.length ≤ 900000)
    (hi : ¬ 0 < i) (u : Tree) (hu : items[i]? = some u) (hl : u.tx.length ≤ 1000000000) (hh : (headT u).length ≤ 100000000000) (hn3 : items.length ≤ 1000000000) (nm : List UInt8) (hnm : names[i]? = some nm) (hnl : nm.length ≤ 1000000000) (hns : (strT nm).length ≤ 100000000000) :
    Calls Try.prog 19 #[.pointer (some ⟨b, 0, none⟩), .pointer (some ⟨g, m0 * 2, none⟩)] w fun e w' => ∃ pu, PtIs W0 pu u ∧ WrO W0.heap.size w b ln (out ++ nlT ln (2 * (fl ++ [(p, i + 1)]).length) ++ nameTx ln nm ++ headT u) (fl ++ [(p, i + 1)] ++ pushT pu u) e w' := by
  have hin : i < items.length := (List.getElem?_eq_some_iff.1 hu).1
  obtain ⟨x, hc, hv⟩ := id hp
  have hm2 := hv.many
  obtain ⟨pb, po, rfl, hpb, _⟩ := id hc
  have hvk : x.kd = 5 := by unfold VIs at hv; exact hv.1
  obtain ⟨xs, h8, h9⟩ : ∃ xs, RdG valK W0 x.A x.n xs ∧ VLs W0 items xs := by unfold VIs at hv; obtain ⟨_, _, _, _, _, _, _, xs, h8, h9⟩ := hv; exact ⟨xs, h8, h9⟩
  obtain ⟨ib, io, hA, hpu⟩ := PtIs.item h8 h9 hu
  obtain ⟨t0, t1, t2, t3⟩ := h.top hm
  obtain ⟨q0, q4⟩ := val_cells hc hb0
  obtain ⟨n, hn⟩ : ∃ n, items.length = n := ⟨_, rfl⟩
  rw [hvk] at q0
  rw [hm2.1, hn, hA] at q4
  rw [hn] at hin hn3
  have hcap : n ≤ x.c := by unfold VIs at hv; rw [← hn, ← hm2.1]; exact hv.2.2.2.2.1
  have hne : ((i : Int) == n) = false := beq_eq_false_iff_ne.2 (by omega)
  have HV := Lib.hid (And.intro hvk (And.intro hA (hm2.1.trans hn)))
  have HC := Lib.hid hc
  have HP := Lib.hid hp
  have HB0 := Lib.hid hb0
  have HM := Lib.hid hm
  have HU := Lib.hid (And.intro hpu (And.intro hl hh))
  have HL := Lib.hid hlen
  have HF := Lib.hid hfl
  have HN := Lib.hid (And.intro hnm (And.intro hnl hns))
  clear hnm hnl hns
  have HW := Lib.hid (h.bump hm)
  have tok : True := trivial
  clear hp hb0 hm h hlen hfl hc hv h8 h9 hpu hu hl hh hm2 hn hvk hA hpb
  go_enter Try.func19, Try.ntmps19
  go_upto_region 4 with fail
  change Code.wp _ _ _ _ (w.setCell ⟨g, m0 * 2 + 1, none⟩ (.int .i64 ((i : Int) + 1)))
  have h1 := HW.out
  clear HW t0 t1 t2 q0 q4
  generalize w.setCell ⟨g, m0 * 2 + 1, none⟩ (.int .i64 ((i : Int) + 1)) = w1 at h1 ⊢
  have H1 := Lib.hid h1
  clear h1
  go_wp2_with (first
    | (go_at_call 35
       go_must (
         refine (line_any H1.out.1 (by have := HL.out; simp; omega) (by have := HF.out; simp; omega)).mono ?_
         rintro e w3 ⟨rfl, h3, hb3⟩
         obtain ⟨t03, t13, t23, t33⟩ := h3.top HM.out
         obtain ⟨x03, x43⟩ := val_cells HC.out (HB0.out.trans (H1.out.2.trans hb3))
         rw [HV.out.1] at x03
         rw [HV.out.2.1, HV.out.2.2] at x43
         have H3 := Lib.hid (And.intro h3 (H1.out.2.trans hb3))
         clear h3 hb3))
    | (go_at_call 36
       go_must (
         refine (name_any H3.out.1 (HB0.out.trans H3.out.2) HP.out i nm HN.out.1 HN.out.2.1 (by have := HL.out; have := HF.out; have := HN.out.2.2; have := nlT_length ln (2 * (fl ++ [((⟨pb, po, none⟩ : Addr), i + 1)]).length); simp at *; omega)).mono ?_
         rintro e w4 ⟨rfl, h4, hb4⟩
         obtain ⟨t04, t14, t24, t34⟩ := h4.top HM.out
         obtain ⟨x04, x44⟩ := val_cells HC.out (HB0.out.trans (H3.out.2.trans hb4))
         rw [HV.out.1] at x04
         rw [HV.out.2.1, HV.out.2.2] at x44
         have H4 := Lib.hid (And.intro h4 (H3.out.2.trans hb4))
         clear h4 hb4))
    | (go_at_call 18
       go_must (
         refine (begin_any H4.out.1 (HB0.out.trans H4.out.2) HU.out.1 HU.out.2.1 HU.out.2.2 (by have := HL.out; have := HF.out; have := nlT_length ln (2 * (fl ++ [((⟨pb, po, none⟩ : Addr), i + 1)]).length); have := nameTx_length ln nm; have := HN.out.2.2; simp at *; omega) (by have := HF.out; simp; omega)).mono ?_
         rintro e w5 ⟨v', rfl, h5, hb5⟩
         have H5 := Lib.hid (And.intro h5 (H4.out.2.trans hb5))
         clear h5 hb5)))
  go_end0
  exact ⟨_, HU.out.1, v', rfl, H5.out⟩

set_option maxHeartbeats 16000000 in
set_option maxRecDepth 100000 in
theorem goOn_5s {W0 w : World} {b : Nat} {ln : Bool} {out : List UInt8} {g M c : Nat} {fl : List (Addr × Nat)} {p : Addr} {m0 : Nat} (hm : fl.length = m0) {fr to' : Nat} {tx : List UInt8} {items : List Tree} {names : List (List UInt8)} {i : Nat}
    (h : WI W0.heap.size w b ln out (.slice (some ⟨g, 0, none⟩) M c) (fl ++ [(p, i)])) (hb0 : Below W0.heap.size W0 w) (hp : PtIs W0 p (.mk 5 fr to' tx items names)) (hlen : out.length ≤ 100000000000) (hfl : fl.length ≤ 900000)
    (hi : 0 < i) (u : Tree) (hu : items[i]? = some u) (hl : u.tx.length ≤ 1000000000) (hh : (headT u).length ≤ 100000000000) (hn3 : items.length ≤ 1000000000) (nm : List UInt8) (hnm : names[i]? = some nm) (hnl : nm.length ≤ 1000000000) (hns : (strT nm).length ≤ 100000000000) :
    Calls Try.prog 19 #[.pointer (some ⟨b, 0, none⟩), .pointer (some ⟨g, m0 * 2, none⟩)] w fun e w' => ∃ pu, PtIs W0 pu u ∧ WrO W0.heap.size w b ln (out ++ [44] ++ nlT ln (2 * (fl ++ [(p, i + 1)]).length) ++ nameTx ln nm ++ headT u) (fl ++ [(p, i + 1)] ++ pushT pu u) e w' := by
  have hin : i < items.length := (List.getElem?_eq_some_iff.1 hu).1
  obtain ⟨x, hc, hv⟩ := id hp
  have hm2 := hv.many
  obtain ⟨pb, po, rfl, hpb, _⟩ := id hc
  have hvk : x.kd = 5 := by unfold VIs at hv; exact hv.1
  obtain ⟨xs, h8, h9⟩ : ∃ xs, RdG valK W0 x.A x.n xs ∧ VLs W0 items xs := by unfold VIs at hv; obtain ⟨_, _, _, _, _, _, _, xs, h8, h9⟩ := hv; exact ⟨xs, h8, h9⟩
  obtain ⟨ib, io, hA, hpu⟩ := PtIs.item h8 h9 hu
  obtain ⟨t0, t1, t2, t3⟩ := h.top hm
  obtain ⟨q0, q4⟩ := val_cells hc hb0
  obtain ⟨n, hn⟩ : ∃ n, items.length = n := ⟨_, rfl⟩
  rw [hvk] at q0
  rw [hm2.1, hn, hA] at q4
  rw [hn] at hin hn3
  have hcap : n ≤ x.c := by unfold VIs at hv; rw [← hn, ← hm2.1]; exact hv.2.2.2.2.1
  have hne : ((i : Int) == n) = false := beq_eq_false_iff_ne.2 (by omega)
  have HV := Lib.hid (And.intro hvk (And.intro hA (hm2.1.trans hn)))
  have HC := Lib.hid hc
  have HP := Lib.hid hp
  have HB0 := Lib.hid hb0
  have HM := Lib.hid hm
  have HU := Lib.hid (And.intro hpu (And.intro hl hh))
  have HL := Lib.hid hlen
  have HF := Lib.hid hfl
  have HN := Lib.hid (And.intro hnm (And.intro hnl hns))
  clear hnm hnl hns
  have HW := Lib.hid (h.bump hm)
  have tok : True := trivial
  clear hp hb0 hm h hlen hfl hc hv h8 h9 hpu hu hl hh hm2 hn hvk hA hpb
  go_enter Try.func19, Try.ntmps19
  go_upto_region 4 with fail
  change Code.wp _ _ _ _ (w.setCell ⟨g, m0 * 2 + 1, none⟩ (.int .i64 ((i : Int) + 1)))
  have h1 := HW.out
  clear HW t0 t1 t2 q0 q4
  generalize w.setCell ⟨g, m0 * 2 + 1, none⟩ (.int .i64 ((i : Int) + 1)) = w1 at h1 ⊢
  have H1 := Lib.hid h1
  clear h1
  go_wp2_with (first
    | (go_at_call 31
       go_must (
         refine (H1.out.1.byte (by have := HL.out; omega) 44 44 rfl).mono ?_
         rintro e w2 ⟨rfl, h2, hb2⟩
         have H2 := Lib.hid (And.intro h2 (H1.out.2.trans hb2))
         clear h2 hb2))
    | (go_at_call 35
       go_must (
         refine (line_any H2.out.1 (by have := HL.out; simp; omega) (by have := HF.out; simp; omega)).mono ?_
         rintro e w3 ⟨rfl, h3, hb3⟩
         obtain ⟨t03, t13, t23, t33⟩ := h3.top HM.out
         obtain ⟨x03, x43⟩ := val_cells HC.out (HB0.out.trans (H2.out.2.trans hb3))
         rw [HV.out.1] at x03
         rw [HV.out.2.1, HV.out.2.2] at x43
         have H3 := Lib.hid (And.intro h3 (H2.out.2.trans hb3))
         clear h3 hb3))
    | (go_at_call 36
       go_must (
         refine (name_any H3.out.1 (HB0.out.trans H3.out.2) HP.out i nm HN.out.1 HN.out.2.1 (by have := HL.out; have := HF.out; have := HN.out.2.2; have := nlT_length ln (2 * (fl ++ [((⟨pb, po, none⟩ : Addr), i + 1)]).length); simp at *; omega)).mono ?_
         rintro e w4 ⟨rfl, h4, hb4⟩
         obtain ⟨t04, t14, t24, t34⟩ := h4.top HM.out
         obtain ⟨x04, x44⟩ := val_cells HC.out (HB0.out.trans (H3.out.2.trans hb4))
         rw [HV.out.1] at x04
         rw [HV.out.2.1, HV.out.2.2] at x44
         have H4 := Lib.hid (And.intro h4 (H3.out.2.trans hb4))
         clear h4 hb4))
    | (go_at_call 18
       go_must (
         refine (begin_any H4.out.1 (HB0.out.trans H4.out.2) HU.out.1 HU.out.2.1 HU.out.2.2 (by have := HL.out; have := HF.out; have := nlT_length ln (2 * (fl ++ [((⟨pb, po, none⟩ : Addr), i + 1)]).length); have := nameTx_length ln nm; have := HN.out.2.2; simp at *; omega) (by have := HF.out; simp; omega)).mono ?_
         rintro e w5 ⟨v', rfl, h5, hb5⟩
         have H5 := Lib.hid (And.intro h5 (H4.out.2.trans hb5))
         clear h5 hb5)))
  go_end0
  exact ⟨_, HU.out.1, v', rfl, H5.out⟩

end Go.Proofs.Ytaklbbkjhbkieaa

namespace Go.Proofs.Ytaklbbkjhbkieaa
open Go.RowKit
set_option linter.unusedVariables false

theorem strT_le (l : List UInt8) : (strT l).length ≤ 6 * l.length + 2 := by
  have := putL_len l
  unfold strT
  simp
  omega
/-- The items that are left, of something so deep. -/
def itemsR (ln : Bool) (d : Nat) (obj : Bool) : List Tree → List (List UInt8) → Bool → List UInt8
  | [], _, _ => []
  | u :: r, names, fst => (if fst then [] else [44]) ++ (nlT ln (2 * (d + 1)) ++ ((if obj then nameTx ln (names.headD []) else []) ++ (txtT ln (d + 1) u ++ itemsR ln d obj r names.tail false)))
theorem itemsR_more (ln : Bool) (d : Nat) (obj : Bool) (r : List Tree) (names : List (List UInt8)) : itemsR ln d obj r names false = if r.isEmpty then [] else 44 :: itemsR ln d obj r names true := by
  cases r with
  | nil => rfl
  | cons u r => rfl
theorem items_showA (d : Nat) : ∀ (r : List Tree) (names : List (List UInt8)), itemsR false d false r names true = showA r
  | [], names => by unfold showA; rfl
  | u :: r, names => by
    unfold showA
    show [] ++ ([] ++ ([] ++ (showT u ++ itemsR false d false r names.tail false))) = _
    rw [itemsR_more, items_showA d r names.tail]
    rfl
theorem items_showO (d : Nat) : ∀ (r : List Tree) (names : List (List UInt8)), itemsR false d true r names true = showO r names
  | [], names => by unfold showO; rfl
  | u :: r, names => by
    unfold showO
    show [] ++ ([] ++ ((strT (names.headD []) ++ 58 :: []) ++ (showT u ++ itemsR false d true r names.tail false))) = _
    rw [itemsR_more, items_showO d r names.tail]
    simp
theorem items_lineA (d : Nat) : ∀ (r : List Tree) (names : List (List UInt8)), itemsR true d false r names true = lineA d r
  | [], names => by unfold lineA; rfl
  | u :: r, names => by
    unfold lineA
    show [] ++ (newL (2 * (d + 1)) ++ ([] ++ (lineT (d + 1) u ++ itemsR true d false r names.tail false))) = _
    rw [itemsR_more, items_lineA d r names.tail]
    rfl
theorem items_lineO (d : Nat) : ∀ (r : List Tree) (names : List (List UInt8)), itemsR true d true r names true = lineO d r names
  | [], names => by unfold lineO; rfl
  | u :: r, names => by
    unfold lineO
    show [] ++ (newL (2 * (d + 1)) ++ ((strT (names.headD []) ++ 58 :: [32]) ++ (lineT (d + 1) u ++ itemsR true d true r names.tail false))) = _
    rw [itemsR_more, items_lineO d r names.tail]
    simp [Nat.mul_add]

/-- What is left of an array, or an object, of which i items are begun. -/
def restT (ln : Bool) (d : Nat) (t : Tree) (i : Nat) : List UInt8 :=
  itemsR ln d (decide (t.kd = 5)) (t.items.drop i) (t.names.drop i) (decide (i = 0)) ++ closeT ln d (decide (0 < t.items.length)) (decide (t.kd = 5))
theorem txt_node (ln : Bool) (d : Nat) (t : Tree) (h : t.kd = 4 ∨ t.kd = 5) : txtT ln d t = headT t ++ restT ln d t 0 := by
  obtain ⟨kd, fr, to', tx, items, names⟩ := t
  have h : kd = 4 ∨ kd = 5 := h
  unfold restT closeT txtT
  show (if ln then lineT d (.mk kd fr to' tx items names) else showT (.mk kd fr to' tx items names)) = headT (.mk kd fr to' tx items names) ++ (itemsR ln d (decide (kd = 5)) items names true ++ ((if decide (0 < items.length) then nlT ln (2 * d) else []) ++ [if decide (kd = 5) then 125 else 93]))
  have hs : showT (.mk kd fr to' tx items names) = headT (.mk kd fr to' tx items names) ++ (itemsR false d (decide (kd = 5)) items names true ++ ([] ++ [if decide (kd = 5) then 125 else 93])) := by
    rcases h with rfl | rfl
    · rw [show decide ((4 : Int) = 5) = false from rfl, items_showA]
      unfold showT
      rfl
    · rw [show decide ((5 : Int) = 5) = true from rfl, items_showO]
      unfold showT
      rfl
  cases ln
  · rw [if_neg (by decide), hs]
    have e : (if decide (0 < items.length) = true then nlT false (2 * d) else []) = [] := by split <;> rfl
    rw [e]
  · rw [if_pos rfl]
    cases items with
    | nil =>
      have e1 : lineT d (.mk kd fr to' tx [] names) = showT (.mk kd fr to' tx [] names) := by unfold lineT; rfl
      rw [e1, hs]
      rfl
    | cons u r =>
      rw [decide_eq_true (by simp : 0 < (u :: r).length), if_pos rfl]
      rcases h with rfl | rfl
      · rw [show decide ((4 : Int) = 5) = false from rfl, items_lineA]
        unfold lineT
        rfl
      · rw [show decide ((5 : Int) = 5) = true from rfl, items_lineO]
        unfold lineT
        rfl
theorem txt_leaf (ln : Bool) (d : Nat) (t : Tree) (h : ¬ (t.kd = 4 ∨ t.kd = 5)) (hi : t.items = []) : txtT ln d t = headT t := by
  obtain ⟨kd, fr, to', tx, items, names⟩ := t
  have h4 : ¬ kd = 4 := fun e => h (.inl e)
  have h5 : ¬ kd = 5 := fun e => h (.inr e)
  have hi : items = [] := hi
  subst hi
  have hs : showT (.mk kd fr to' tx [] names) = headT (.mk kd fr to' tx [] names) := by
    unfold showT headT
    show (if kd = 3 then strT tx else if kd = 4 then _ else if kd = 5 then _ else tx) = (if kd = 4 then [91] else if kd = 5 then [123] else if kd = 3 then strT tx else tx)
    rw [if_neg h4, if_neg h5, if_neg h4, if_neg h5]
  cases ln
  · exact hs
  · have e1 : lineT d (.mk kd fr to' tx [] names) = showT (.mk kd fr to' tx [] names) := by unfold lineT; rfl
    show lineT d _ = _
    rw [e1, hs]
theorem rest_end (ln : Bool) (d : Nat) (t : Tree) : restT ln d t t.items.length = closeT ln d (decide (0 < t.items.length)) (decide (t.kd = 5)) := by
  unfold restT
  rw [List.drop_length]
  rfl
theorem rest_item (ln : Bool) (d : Nat) (t : Tree) (i : Nat) (u : Tree) (hu : t.items[i]? = some u) :
    restT ln d t i = (if i = 0 then [] else [44]) ++ (nlT ln (2 * (d + 1)) ++ ((if t.kd = 5 then nameTx ln ((t.names.drop i).headD []) else []) ++ (txtT ln (d + 1) u ++ restT ln d t (i + 1)))) := by
  have hi : i < t.items.length := (List.getElem?_eq_some_iff.1 hu).1
  have hd : t.items.drop i = u :: t.items.drop (i + 1) := by
    rw [List.drop_eq_getElem_cons hi]
    congr 1
    rw [List.getElem?_eq_getElem hi] at hu
    exact Option.some.inj hu
  unfold restT
  rw [hd]
  show ((if decide (i = 0) = true then [] else [44]) ++ (nlT ln (2 * (d + 1)) ++ ((if decide (t.kd = 5) = true then nameTx ln ((t.names.drop i).headD []) else []) ++ (txtT ln (d + 1) u ++ itemsR ln d (decide (t.kd = 5)) (t.items.drop (i + 1)) (t.names.drop i).tail false)))) ++ _ = _
  rw [List.tail_drop]
  have e1 : (if decide (i = 0) = true then ([] : List UInt8) else [44]) = if i = 0 then [] else [44] := by simp
  have e2 : (if decide (t.kd = 5) = true then nameTx ln ((t.names.drop i).headD []) else []) = if t.kd = 5 then nameTx ln ((t.names.drop i).headD []) else [] := by simp
  have e3 : decide (i + 1 = 0) = false := by simp
  rw [e1, e2, e3]
  simp only [List.append_assoc]

/-- What is left of all that is open, the innermost first. -/
def remS (ln : Bool) : List (Tree × Nat) → List UInt8
  | [] => []
  | (t, i) :: ss => restT ln ss.length t i ++ remS ln ss
mutual
def cntT : Tree → Nat
  | .mk _ _ _ _ items _ => 1 + cntL items
def cntL : List Tree → Nat
  | [] => 0
  | t :: ts => cntT t + 1 + cntL ts
end
/-- How many rounds are left. -/
def muS : List (Tree × Nat) → Nat
  | [] => 0
  | (t, i) :: ss => 1 + cntL (t.items.drop i) + muS ss
theorem mu_item (t : Tree) (i : Nat) (u : Tree) (hu : t.items[i]? = some u) (ss : List (Tree × Nat)) : muS ((t, i) :: ss) = muS ((u, 0) :: (t, i + 1) :: ss) + 1 ∧ muS ((t, i + 1) :: ss) < muS ((t, i) :: ss) := by
  have hi : i < t.items.length := (List.getElem?_eq_some_iff.1 hu).1
  have hd : t.items.drop i = u :: t.items.drop (i + 1) := by
    rw [List.drop_eq_getElem_cons hi]
    congr 1
    rw [List.getElem?_eq_getElem hi] at hu
    exact Option.some.inj hu
  have e : muS ((t, i) :: ss) = 1 + (cntT u + 1 + cntL (t.items.drop (i + 1))) + muS ss := by
    show 1 + cntL (t.items.drop i) + muS ss = _
    rw [hd]
    rfl
  have e2 : muS ((u, 0) :: (t, i + 1) :: ss) = 1 + cntL u.items + (1 + cntL (t.items.drop (i + 1)) + muS ss) := rfl
  have e3 : cntT u = 1 + cntL u.items := by cases u; rfl
  have e4 : muS ((t, i + 1) :: ss) = 1 + cntL (t.items.drop (i + 1)) + muS ss := rfl
  rw [e, e2, e3, e4]
  omega

mutual
/-- A value whose texts can be written. -/
def OkT : Tree → Prop
  | .mk kd _ _ tx items names => tx.length ≤ 1000 ∧ (kd = 5 → names.length = items.length) ∧ (¬ (kd = 4 ∨ kd = 5) → items = []) ∧ (∀ s ∈ names, s.length ≤ 1000) ∧ items.length ≤ 1000000 ∧ OkL items
def OkL : List Tree → Prop
  | [] => True
  | t :: ts => OkT t ∧ OkL ts
end
theorem OkL.at : ∀ {ts : List Tree} {i : Nat} {u : Tree}, OkL ts → ts[i]? = some u → OkT u
  | [], i, u, h, e => by cases e
  | t :: ts, 0, u, h, e => by
    unfold OkL at h
    obtain rfl : t = u := by simpa using e
    exact h.1
  | t :: ts, i + 1, u, h, e => by
    unfold OkL at h
    exact OkL.at h.2 (by simpa using e)
theorem OkT.head {t : Tree} (h : OkT t) : t.tx.length ≤ 1000 ∧ (headT t).length ≤ 100000000 := by
  obtain ⟨kd, fr, to', tx, items, names⟩ := t
  unfold OkT at h
  refine ⟨h.1, ?_⟩
  have h1 := h.1
  have := strT_le tx
  unfold headT
  show (if kd = 4 then [91] else if kd = 5 then [123] else if kd = 3 then strT tx else tx).length ≤ _
  (repeat' split) <;> (try simp) <;> omega
theorem OkT.item {t u : Tree} {i : Nat} (h : OkT t) (hu : t.items[i]? = some u) : OkT u := by
  obtain ⟨kd, fr, to', tx, items, names⟩ := t
  unfold OkT at h
  exact h.2.2.2.2.2.at hu
theorem OkT.parts {kd : Int} {fr to' : Nat} {tx : List UInt8} {items : List Tree} {names : List (List UInt8)} (h : OkT (.mk kd fr to' tx items names)) :
    (kd = 5 → names.length = items.length) ∧ (¬ (kd = 4 ∨ kd = 5) → items = []) ∧ (∀ s ∈ names, s.length ≤ 1000) ∧ items.length ≤ 1000000 := by
  unfold OkT at h
  exact ⟨h.2.1, h.2.2.1, h.2.2.2.1, h.2.2.2.2.1⟩

/-- What is open, the innermost first: where it lies. -/
def StkIs (W0 : World) : List (Addr × Nat) → List (Tree × Nat) → Prop
  | [], [] => True
  | (p, i) :: fl, (t, j) :: ss => i = j ∧ PtIs W0 p t ∧ (t.kd = 4 ∨ t.kd = 5) ∧ OkT t ∧ i ≤ t.items.length ∧ StkIs W0 fl ss
  | _, _ => False
theorem StkIs.len {W0 : World} : ∀ {fl : List (Addr × Nat)} {ss : List (Tree × Nat)}, StkIs W0 fl ss → fl.length = ss.length
  | [], [], _ => rfl
  | (p, i) :: fl, (t, j) :: ss, h => by
    unfold StkIs at h
    simp [StkIs.len h.2.2.2.2.2]
  | [], _ :: _, h => by unfold StkIs at h; exact h.elim
  | _ :: _, [], h => by unfold StkIs at h; exact h.elim
/-- Behind a value's beginning. -/
theorem begin_rem (ln : Bool) (u : Tree) (ss : List (Tree × Nat)) (out : List UInt8) (hi : ¬ (u.kd = 4 ∨ u.kd = 5) → u.items = []) :
    (out ++ headT u) ++ remS ln ((if u.kd = 4 ∨ u.kd = 5 then [(u, 0)] else []) ++ ss) = out ++ (txtT ln ss.length u ++ remS ln ss) := by
  by_cases h : u.kd = 4 ∨ u.kd = 5
  · rw [if_pos h, txt_node ln _ u h]
    show (out ++ headT u) ++ (restT ln ss.length u 0 ++ remS ln ss) = _
    simp only [List.append_assoc]
  · rw [if_neg h, txt_leaf ln _ u h (hi h)]
    simp only [List.append_assoc, List.nil_append]
theorem begin_stk {W0 : World} {p : Addr} {u : Tree} {fl : List (Addr × Nat)} {ss : List (Tree × Nat)} (hs : StkIs W0 fl ss) (hp : PtIs W0 p u) (ho : OkT u) :
    ∃ fl', (fl.reverse ++ pushT p u) = fl'.reverse ∧ StkIs W0 fl' ((if u.kd = 4 ∨ u.kd = 5 then [(u, 0)] else []) ++ ss) := by
  unfold pushT
  by_cases h : u.kd = 4 ∨ u.kd = 5
  · rw [if_pos h, if_pos h]
    refine ⟨(p, 0) :: fl, by simp, ?_⟩
    show StkIs W0 ((p, 0) :: fl) ((u, 0) :: ss)
    unfold StkIs
    exact ⟨rfl, hp, h, ho, Nat.zero_le _, hs⟩
  · rw [if_neg h, if_neg h]
    exact ⟨fl, by simp, hs⟩

end Go.Proofs.Ytaklbbkjhbkieaa

namespace Go.Proofs.Ytaklbbkjhbkieaa
open Go.RowKit
set_option linter.unusedVariables false

/-- The writer just made. -/
theorem WI.fresh (W0 : World) (ln : Bool) : WI W0.heap.size (W0.alloc (.cells #[.pointer none, .slice none 0 0, .bool ln, .slice none 0 0] 51)) W0.heap.size ln [] (.slice none 0 0) [] :=
  ⟨⟨_, _, .inl rfl, Own.fresh _ _ _, ⟨rfl, .inl ⟨rfl, rfl⟩⟩, ⟨Nat.le_refl _, by simp [Value.ownBlock]⟩, fun g hg => by simp [Value.ownBlock] at hg⟩, GRow.nil _ _, by simp⟩
/-- goOn, whatever is to come. -/
theorem goOn_any {W0 w : World} {b : Nat} {ln : Bool} {out : List UInt8} {g M c : Nat} {fl : List (Addr × Nat)} {p : Addr} {i : Nat} {t : Tree} {ss : List (Tree × Nat)} {m0 : Nat} (hm : fl.length = m0)
    (h : WI W0.heap.size w b ln out (.slice (some ⟨g, 0, none⟩) M c) ((p, i) :: fl).reverse) (hb0 : Below W0.heap.size W0 w) (hs : StkIs W0 ((p, i) :: fl) ((t, i) :: ss)) (T : List UInt8) (hT : out ++ remS ln ((t, i) :: ss) = T) (hTl : T.length ≤ 100000000000) (hfl : fl.length ≤ 900000) :
    Calls Try.prog 19 #[.pointer (some ⟨b, 0, none⟩), .pointer (some ⟨g, m0 * 2, none⟩)] w fun e w' => e = .returned (.tuple #[]) ∧ Below W0.heap.size w w' ∧
      ∃ out' v' fl' ss', WI W0.heap.size w' b ln out' v' fl'.reverse ∧ StkIs W0 fl' ss' ∧ out' ++ remS ln ss' = T ∧ muS ss' < muS ((t, i) :: ss) := by
  unfold StkIs at hs
  obtain ⟨_, hp, hk, hok, hi, hst⟩ := hs
  rw [List.reverse_cons] at h
  have hml : fl.reverse.length = m0 := by rw [List.length_reverse, hm]
  have hlen := hst.len
  have hol : out.length ≤ 100000000000 := by
    have : (out ++ remS ln ((t, i) :: ss)).length = T.length := by rw [hT]
    rw [List.length_append] at this
    omega
  obtain ⟨kd, fr, to', tx, items, names⟩ := t
  obtain ⟨hn5, hn4, hnn, hni⟩ := hok.parts
  by_cases he : i = items.length
  · subst he
    have hc : WrO W0.heap.size w b ln (out ++ closeT ln fl.reverse.length (decide (0 < items.length)) (decide (kd = 5))) fl.reverse = WrO W0.heap.size w b ln (out ++ closeT ln fl.reverse.length (decide (0 < items.length)) (decide (kd = 5))) fl.reverse := rfl
    have fin : ∀ e w', WrO W0.heap.size w b ln (out ++ closeT ln fl.reverse.length (decide (0 < items.length)) (decide (kd = 5))) fl.reverse e w' → e = .returned (.tuple #[]) ∧ Below W0.heap.size w w' ∧
      ∃ out' v' fl' ss', WI W0.heap.size w' b ln out' v' fl'.reverse ∧ StkIs W0 fl' ss' ∧ out' ++ remS ln ss' = T ∧ muS ss' < muS ((.mk kd fr to' tx items names, items.length) :: ss) := by
      rintro e w' ⟨v', rfl, h', hb'⟩
      refine ⟨rfl, hb', _, v', fl, ss, h', hst, ?_, ?_⟩
      · rw [← hT]
        show _ = out ++ (restT ln ss.length (.mk kd fr to' tx items names) items.length ++ remS ln ss)
        have := rest_end ln ss.length (.mk kd fr to' tx items names)
        have this : restT ln ss.length (.mk kd fr to' tx items names) items.length = closeT ln ss.length (decide (0 < items.length)) (decide (kd = 5)) := this
        rw [this, List.length_reverse, hlen, List.append_assoc]
      · show muS ss < 1 + cntL (items.drop items.length) + muS ss
        omega
    rcases hk with hk | hk
    · have hk : kd = 4 := hk
      subst hk
      exact (goOn_end4 hml h hb0 hp hol (by rw [List.length_reverse]; exact hfl)).mono fin
    · have hk : kd = 5 := hk
      subst hk
      exact (goOn_end5 hml h hb0 hp hol (by rw [List.length_reverse]; exact hfl)).mono fin
  · have hi : i ≤ items.length := hi
    have hlt : i < items.length := by omega
    obtain ⟨u, hu⟩ : ∃ u, items[i]? = some u := ⟨_, List.getElem?_eq_getElem hlt⟩
    have hou : OkT u := OkT.item hok hu
    obtain ⟨hu1, hu2⟩ := hou.head
    obtain ⟨hm1, hm2⟩ := mu_item (.mk kd fr to' tx items names) i u hu ss
    have hri := rest_item ln ss.length (.mk kd fr to' tx items names) i u hu
    have hst1 : StkIs W0 ((p, i + 1) :: fl) ((.mk kd fr to' tx items names, i + 1) :: ss) := by
      unfold StkIs
      exact ⟨rfl, hp, hk, hok, hlt, hst⟩
    have hul : ∀ hh : ¬ (u.kd = 4 ∨ u.kd = 5), u.items = [] := fun hh => by
      obtain ⟨k1, f1, o1, x1, i1, n1⟩ := u
      exact hou.parts.2.1 hh
    have fin : ∀ (o2 : List UInt8), o2 ++ (txtT ln (ss.length + 1) u ++ remS ln ((.mk kd fr to' tx items names, i + 1) :: ss)) = T → ∀ e w', (∃ pu, PtIs W0 pu u ∧ WrO W0.heap.size w b ln (o2 ++ headT u) (fl.reverse ++ [(p, i + 1)] ++ pushT pu u) e w') → e = .returned (.tuple #[]) ∧ Below W0.heap.size w w' ∧
      ∃ out' v' fl' ss', WI W0.heap.size w' b ln out' v' fl'.reverse ∧ StkIs W0 fl' ss' ∧ out' ++ remS ln ss' = T ∧ muS ss' < muS ((.mk kd fr to' tx items names, i) :: ss) := by
      rintro o2 ho2 e w' ⟨pu, hpu, v', rfl, h', hb'⟩
      obtain ⟨fl', hf1, hf2⟩ := begin_stk hst1 hpu hou
      rw [List.reverse_cons] at hf1
      rw [hf1] at h'
      refine ⟨rfl, hb', _, v', fl', _, h', hf2, ?_, ?_⟩
      · rw [begin_rem ln u _ o2 hul]
        exact ho2
      · by_cases hh : u.kd = 4 ∨ u.kd = 5
        · rw [if_pos hh]
          show muS ((u, 0) :: (.mk kd fr to' tx items names, i + 1) :: ss) < _
          omega
        · rw [if_neg hh]
          exact hm2
    have hT2 : T = out ++ ((if i = 0 then [] else [44]) ++ (nlT ln (2 * (ss.length + 1)) ++ ((if kd = 5 then nameTx ln ((names.drop i).headD []) else []) ++ (txtT ln (ss.length + 1) u ++ (restT ln ss.length (.mk kd fr to' tx items names) (i + 1) ++ remS ln ss))))) := by
      rw [← hT]
      show out ++ (restT ln ss.length (.mk kd fr to' tx items names) i ++ remS ln ss) = _
      rw [hri]
      show out ++ (((if i = 0 then [] else [44]) ++ (nlT ln (2 * (ss.length + 1)) ++ ((if kd = 5 then nameTx ln ((names.drop i).headD []) else []) ++ (txtT ln (ss.length + 1) u ++ restT ln ss.length (.mk kd fr to' tx items names) (i + 1))))) ++ remS ln ss) = _
      simp only [List.append_assoc]
    have hl1 : (fl.reverse ++ [(p, i + 1)]).length = ss.length + 1 := by simp [hlen]
    have hrf : fl.reverse.length ≤ 900000 := by rw [List.length_reverse]; exact hfl
    rcases hk with hk | hk
    · have hk : kd = 4 := hk
      subst hk
      rw [if_neg (show ¬ (4 : Int) = 5 by decide)] at hT2
      by_cases h0 : i = 0
      · refine (goOn_40 hml h hb0 hp hol hrf (by omega) u hu (by omega) (by omega) (by omega)).mono (fin _ ?_)
        rw [hT2, if_pos h0, hl1]
        simp only [List.append_assoc, List.nil_append]
        rfl
      · refine (goOn_4s hml h hb0 hp hol hrf (by omega) u hu (by omega) (by omega) (by omega)).mono (fin _ ?_)
        rw [hT2, if_neg h0, hl1]
        simp only [List.append_assoc, List.nil_append]
        rfl
    · have hk : kd = 5 := hk
      subst hk
      rw [if_pos (show (5 : Int) = 5 from rfl)] at hT2
      have hin : i < names.length := by rw [hn5 rfl]; exact hlt
      have hnm : names[i]? = some ((names.drop i).headD []) := by
        rw [List.drop_eq_getElem_cons hin, List.getElem?_eq_getElem hin]
        rfl
      have hnl := hnn _ (List.mem_of_getElem? hnm)
      have hnt := strT_le ((names.drop i).headD [])
      by_cases h0 : i = 0
      · refine (goOn_50 hml h hb0 hp hol hrf (by omega) u hu (by omega) (by omega) (by omega) _ hnm (by omega) (by omega)).mono (fin _ ?_)
        rw [hT2, if_pos h0, hl1]
        simp only [List.append_assoc, List.nil_append]
        rfl
      · refine (goOn_5s hml h hb0 hp hol hrf (by omega) u hu (by omega) (by omega) (by omega) _ hnm (by omega) (by omega)).mono (fin _ ?_)
        rw [hT2, if_neg h0, hl1]
        simp only [List.append_assoc]
        rfl

theorem mu_len : ∀ ss : List (Tree × Nat), ss.length ≤ muS ss
  | [] => Nat.le_refl _
  | (t, i) :: ss => by
    have := mu_len ss
    show ss.length + 1 ≤ 1 + cntL (t.items.drop i) + muS ss
    omega
/-- Where write's loop stands. -/
def RelWr (W0 : World) (ln : Bool) (T : List UInt8) (k : Nat) (wr : World) : Prop :=
  ∃ out v fl ss, WI W0.heap.size wr W0.heap.size ln out v (List.reverse fl) ∧ StkIs W0 fl ss ∧ out ++ remS ln ss = T ∧ muS ss ≤ k ∧ k ≤ 900000 ∧ Below W0.heap.size W0 wr
theorem below_box {W w0 wr : World} {o : Obj} (h : Below (W.alloc o).heap.size (W.alloc o) wr) : Below W.heap.size W wr := (below1 W o).trans (h.mono (by simp))
theorem new_at (W : World) (o : Obj) : (W.alloc o).heap.size = W.heap.size + 1 := by simp

set_option maxHeartbeats 16000000 in
set_option maxRecDepth 100000 in
theorem write_any (t : Tree) (x : V6) (ln : Bool) (W : World) (hv : VIs W t x) (hok : OkT t) (hcnt : cntT t ≤ 800000) (hne : txtT ln 0 t ≠ []) (hT : (txtT ln 0 t).length ≤ 100000000000) :
    Calls Try.prog 13 #[.agg #[.int .i64 x.kd, .int .i64 x.fr, .int .i64 x.to, .string ⟨x.tx.toArray⟩, .slice x.A x.n x.c, .slice x.B x.m x.d], .bool ln] W fun e w' => e = .returned (.string ⟨(txtT ln 0 t).toArray⟩) ∧ Below W.heap.size W w' := by
  have hp : PtIs (W.alloc (.cells (v6Cells x).toArray 27)) ⟨W.heap.size, 0, none⟩ t := ⟨x, CellsAt.of_own (Own.fresh W _ _), VIs.stay (below1 W _) t x hv⟩
  obtain ⟨W0, hW0⟩ : ∃ W0, W.alloc (.cells (v6Cells x).toArray 27) = W0 := ⟨_, rfl⟩
  have hz : W.heap.size + 1 = W0.heap.size := by rw [← hW0]; simp
  have hb1 : Below W.heap.size W W0 := by rw [← hW0]; exact below1 W _
  rw [hW0] at hp
  have hfr := WI.fresh W0 ln
  have hbw : Below W0.heap.size W0 (W0.alloc (.cells #[.pointer none, .slice none 0 0, .bool ln, .slice none 0 0] 51)) := below1 W0 _
  have hW0' : W.alloc (.cells #[.int .i64 x.kd, .int .i64 x.fr, .int .i64 x.to, .string ⟨x.tx.toArray⟩, .slice x.A x.n x.c, .slice x.B x.m x.d] 27) = W0 := hW0
  obtain ⟨ho1, ho2⟩ := hok.head
  have HBG := Lib.hid (begin_any hfr hbw hp (by omega) (by omega) (by simp) (by simp))
  have hul : ¬ (t.kd = 4 ∨ t.kd = 5) → t.items = [] := fun hh => by
    obtain ⟨k1, f1, o1, x1, i1, n1⟩ := t
    exact hok.parts.2.1 hh
  have hcn : muS ((if t.kd = 4 ∨ t.kd = 5 then [(t, 0)] else []) ++ []) ≤ 900000 := by
    split
    · show 1 + cntL t.items + 0 ≤ _
      have e3 : cntT t = 1 + cntL t.items := by cases t; rfl
      omega
    · exact Nat.zero_le _
  have hst := begin_stk (W0 := W0) (fl := []) (ss := []) (by unfold StkIs; trivial) hp hok
  have hrem := begin_rem ln t [] [] hul
  have hR : [] ++ (txtT ln ([] : List (Tree × Nat)).length t ++ remS ln []) = txtT ln 0 t := by show txtT ln 0 t ++ [] = _; rw [List.append_nil]
  rw [hR] at hrem
  generalize txtT ln 0 t = T at *
  have HST := Lib.hid hst
  have HREM := Lib.hid hrem
  have HNE := Lib.hid hne
  have HT := Lib.hid hT
  have HB1 := Lib.hid hb1
  have HBW := Lib.hid hbw
  have HCN := Lib.hid hcn
  have HZ := Lib.hid hz
  clear hp hW0 hz hb1 hfr hbw hul hcn hst hrem hR hok hcnt hne hT ho1 ho2 hv
  go_enter Try.func13, Try.ntmps13
  go_wp2_with (
    go_at_call 18
    go_must (
      refine HBG.out.mono ?_
      rintro e w1 ⟨v1, rfl, h1, hb1⟩
      obtain ⟨fl1, hf1, hf2⟩ := HST.out
      have hR0 : RelWr W0 ln T 900000 w1 := ⟨_, v1, fl1, _, (by rw [← hf1]; exact h1), hf2, HREM.out, HCN.out, Nat.le_refl _, HBW.out.trans hb1⟩
      have HR0 := Lib.hid hR0
      clear h1 hb1 hf1 hf2 hR0))
  go_loopg [12] 900000 (fun k _ wr => RelWr W0 ln T k wr)
  case atStart => exact HR0.out
  case round =>
    clear HR0 HBG HST HREM HCN
    obtain ⟨out, v, fl, ss, hw, hs, ho, hmu, hk9, hbw⟩ := hrel
    obtain ⟨c2, c3, f3, hin, hNb⟩ := hw.facts
    cases fl with
    | nil =>
      cases ss with
      | cons q ss => unfold StkIs at hs; exact hs.elim
      | nil =>
        obtain ⟨A, c, rfl, _, _⟩ := hw.form
        have ho : out = T := by rw [← ho]; show out = out ++ []; rw [List.append_nil]
        subst ho
        have c3 : wr.cell? ⟨W0.heap.size, 3, none⟩ = some (.slice A 0 c) := c3
        have HS := Lib.hid (stringW_any W0.heap.size (FW W0.heap.size (.slice A ([] : List (Addr × Nat)).reverse.length c)) out wr hw.bld HNE.out W.heap.size (fun k hk => by have := hk.1; have := HZ.out; omega) (by have := HT.out; omega))
        have HBW2 := Lib.hid (HB1.out.trans (hbw.mono (by have := HZ.out; omega)))
        clear hw hs hmu hbw
        go_wp2_with (
          go_at_call 20
          go_must (
            refine HS.out.mono ?_
            rintro e w2 ⟨rfl, hb2⟩
            have H2 := Lib.hid (HBW2.out.trans hb2)
            clear hb2))
        go_ret
        exact ⟨rfl, H2.out⟩
    | cons q fl =>
      obtain ⟨p, i⟩ := q
      cases ss with
      | nil => unfold StkIs at hs; exact hs.elim
      | cons r ss =>
        obtain ⟨t2, j⟩ := r
        have hij : i = j := by unfold StkIs at hs; exact hs.1
        subst hij
        obtain ⟨g, c, rfl⟩ : ∃ g c, v = .slice (some ⟨g, 0, none⟩) ((p, i) :: fl).reverse.length c := by
          have hw' := hw
          rw [List.reverse_cons] at hw' ⊢
          exact hw'.open_form
        obtain ⟨m0, hm0⟩ : ∃ m0, fl.length = m0 := ⟨_, rfl⟩
        obtain ⟨m, hm⟩ : ∃ m, ((p, i) :: fl).reverse.length = m := ⟨_, rfl⟩
        have hmm : m = m0 + 1 := by rw [← hm, ← hm0]; simp
        have hsl := hs.len
        have hml := mu_len ((t2, i) :: ss)
        have hfl : fl.length ≤ 900000 := by simp at hsl hml; omega
        have hm9 : m0 ≤ 900000 := by omega
        have HG := Lib.hid (goOn_any hm0 hw hbw hs T ho HT.out hfl)
        rw [hm] at c3
        have HK := Lib.hid (And.intro hmu (And.intro hk9 hbw))
        clear hw hs ho hmu hk9 hbw hm hm0 hsl hml hfl
        subst hmm
        go_wp2_with (
          go_at_call 19
          go_must (
            refine HG.out.mono ?_
            rintro e w2 ⟨rfl, hb2, out', v', fl', ss', h', hs', ho', hmu'⟩
            have H2 := Lib.hid (And.intro hb2 (And.intro h' (And.intro hs' (And.intro ho' hmu'))))
            clear hb2 h' hs' ho' hmu'))
        go_roundg (muS ss')
        case measure => have := H2.out.2.2.2.2; have := HK.out.1; omega
        case rel => exact ⟨out', v', fl', ss', H2.out.2.1, H2.out.2.2.1, H2.out.2.2.2.1, Nat.le_refl _, (by have := H2.out.2.2.2.2; have := HK.out.1; have := HK.out.2.1; omega), HK.out.2.2.trans H2.out.1⟩

end Go.Proofs.Ytaklbbkjhbkieaa

namespace Go.Proofs.Ytaklbbkjhbkieaa
open Go.RowKit
set_option linter.unusedVariables false

theorem conv_any {w : World} {B n c : Nat} {A : Option Addr} {xs : List Int} (h : Rd w B A n (xs.map (Value.int .u8))) :
    (convert 22 9 (.slice A n c)).run Try.prog w = .ok (.string (strOfNums xs)) w := by
  have hl : xs.length = n := by simpa using h.1
  cases A with
  | none =>
    have hn : n = 0 := by
      by_cases hn : 0 < n
      · obtain ⟨ad, e, _⟩ := h.2 hn
        cases e
      · omega
    subst hn
    obtain rfl : xs = [] := List.eq_nil_of_length_eq_zero hl
    exact run_convert_bytes_nil _ _ _ Try.underlying22 Try.underlying5 _ _ _ Try.underlying9
  | some ad =>
    have hc : ∀ j u, (xs.map (Value.int .u8))[j]? = some u → w.cell? (ad.add j) = some u := by
      intro j u hu
      have hm : 0 < n := by
        have := (List.getElem?_eq_some_iff.1 hu).1
        simp at this
        omega
      obtain ⟨ad', e, _, h'⟩ := h.2 hm
      injection e with e
      subst e
      exact h' j u hu
    have hload := run_loadCells_list (P := Try.prog) w ad (xs.map (Value.int .u8)) hc
    have hload' : (loadCells ad n).run Try.prog w = .ok (xs.map (Value.int .u8)).toArray w := by simpa [hl] using hload
    rw [run_convert_bytes_string w _ _ _ _ _ _ Try.underlying22 Try.underlying5 Try.underlying9, run_bytesToString w _ _ _ xs hload', foldl_push_bytes]
    simp [strOfNums, ByteArray.empty, ByteArray.emptyWithCapacity]
    rfl
theorem slice_both (t : TypeId) (ht : Try.prog.underlying t = some (.slice (Try.prog.elem t))) (hsz : ∀ w, (sizeOf (Try.prog.elem t)).run Try.prog w = .ok 1 w) (A : Option Addr) (n c : Nat) (l h : Int) (h0 : 0 ≤ l) (h1 : l ≤ h) (h2 : h ≤ n) (hc : n ≤ c) :
    ∃ A', (∀ w, (Instr.slice t (.slice A n c) (some (.int .i64 l)) (some (.int .i64 h)) none).run Try.prog w = .ok (.slice A' (h.toNat - l.toNat) (c - l.toNat)) w) ∧
      ∀ w B xs, Rd w B A n xs → Rd w B A' (h.toNat - l.toNat) ((xs.drop l.toNat).take (h.toNat - l.toNat)) := by
  refine ⟨if c = l.toNat then A else A.map (·.add (l.toNat * 1)), fun w => ?_, fun w B xs hr => ⟨by simp [hr.1]; omega, fun hn => ?_⟩⟩
  · rw [run_slice_lh w t A n c ht .i64 .i64 l h h0 h1 (by omega), hsz]
    simp [Result.andThen, sliced]
  · obtain ⟨ad, rfl, hlt, hcl⟩ := hr.2 (by omega)
    rw [if_neg (by omega)]
    refine ⟨ad.add (l.toNat * 1), rfl, by rw [add_block]; exact hlt, fun j u hu => ?_⟩
    have e : (ad.add (l.toNat * 1)).add j = ad.add (l.toNat + j) := by
      generalize l.toNat = m
      unfold Addr.add
      by_cases h0 : m = 0
      · subst h0; simp
      · rw [if_neg (show ¬ m * 1 = 0 by omega), if_neg (show ¬ m + j = 0 by omega)]
        by_cases hj : j = 0
        · subst hj; simp
        · rw [if_neg hj]
          simp
          omega
    rw [e]
    rw [List.getElem?_take] at hu
    split at hu
    · rw [List.getElem?_drop] at hu
      exact hcl _ _ hu
    · cases hu
theorem byte_size : ∀ w, (sizeOf (Try.prog.elem 22)).run Try.prog w = .ok 1 w := fun w => by
  obtain ⟨i0, hi, hz0, hz1, hz2⟩ := info_parts byte_info
  have e : Try.prog.elem 22 = 5 := by kernel_rfl
  rw [e]
  simp [sizeOf, typeInfo, hi, hz1]

set_option maxHeartbeats 4000000 in
set_option maxRecDepth 100000 in
theorem text_any (t : Tree) (x : V6) (W : World) (hv : VIs W t x) (hok : OkT t) (hcnt : cntT t ≤ 800000) (hne : showT t ≠ []) (hT : (showT t).length ≤ 100000000000) :
    Calls Try.prog 7 #[.agg #[.int .i64 x.kd, .int .i64 x.fr, .int .i64 x.to, .string ⟨x.tx.toArray⟩, .slice x.A x.n x.c, .slice x.B x.m x.d]] W fun e w' => e = .returned (.string ⟨(showT t).toArray⟩) ∧ Below W.heap.size W w' := by
  have HW := Lib.hid (fun (w : World) (h : VIs w t x) => write_any t x false w h hok hcnt hne hT)
  have HV := Lib.hid (VIs.stay (below1 W (.cells #[.int .i64 x.kd, .int .i64 x.fr, .int .i64 x.to, .string ⟨x.tx.toArray⟩, .slice x.A x.n x.c, .slice x.B x.m x.d] 27)) t x hv)
  clear hv hok hcnt hne hT
  go_enter Try.func7, Try.ntmps7
  go_wp2_with (
    go_at_call 13
    go_must (
      refine (HW.out _ HV.out).mono ?_
      rintro e w1 ⟨rfl, hb1⟩
      have H1 := Lib.hid ((below1 W _).trans (hb1.mono (by simp)))
      clear hb1))
  go_ret
  exact ⟨rfl, H1.out⟩
set_option maxHeartbeats 4000000 in
set_option maxRecDepth 100000 in
theorem lines_any (t : Tree) (x : V6) (W : World) (hv : VIs W t x) (hok : OkT t) (hcnt : cntT t ≤ 800000) (hne : lineT 0 t ≠ []) (hT : (lineT 0 t).length ≤ 100000000000) :
    Calls Try.prog 9 #[.agg #[.int .i64 x.kd, .int .i64 x.fr, .int .i64 x.to, .string ⟨x.tx.toArray⟩, .slice x.A x.n x.c, .slice x.B x.m x.d]] W fun e w' => e = .returned (.string ⟨(lineT 0 t).toArray⟩) ∧ Below W.heap.size W w' := by
  have HW := Lib.hid (fun (w : World) (h : VIs w t x) => write_any t x true w h hok hcnt hne hT)
  have HV := Lib.hid (VIs.stay (below1 W (.cells #[.int .i64 x.kd, .int .i64 x.fr, .int .i64 x.to, .string ⟨x.tx.toArray⟩, .slice x.A x.n x.c, .slice x.B x.m x.d] 27)) t x hv)
  clear hv hok hcnt hne hT
  go_enter Try.func9, Try.ntmps9
  go_wp2_with (
    go_at_call 13
    go_must (
      refine (HW.out _ HV.out).mono ?_
      rintro e w1 ⟨rfl, hb1⟩
      have H1 := Lib.hid ((below1 W _).trans (hb1.mono (by simp)))
      clear hb1))
  go_ret
  exact ⟨rfl, H1.out⟩

/-- What show.Bytes answers. -/
def bytesI (l : List UInt8) (fr to' : Int) : List UInt8 := if fr < 0 ∨ to' < fr ∨ (l.length : Int) < to' then [] else (l.drop fr.toNat).take (to'.toNat - fr.toNat)
/-- A part of some bytes, as a string. -/
theorem part_conv {W : World} {A : Option Addr} {len cap : Nat} {l : List UInt8} (hx : Rd W W.heap.size A len (byteCells l)) (hc : len ≤ cap) (fr to' : Int) (h0 : 0 ≤ fr) (h1 : fr ≤ to') (h2 : to' ≤ len) :
    ∃ A' n c, (∀ w, (Instr.slice 22 (.slice A len cap) (some (.int .i64 fr)) (some (.int .i64 to')) none).run Try.prog w = .ok (.slice A' n c) w) ∧
      ∀ w, Below W.heap.size W w → (convert 22 9 (.slice A' n c)).run Try.prog w = .ok (.string ⟨((l.drop fr.toNat).take (to'.toNat - fr.toNat)).toArray⟩) w := by
  obtain ⟨A', h3, h4⟩ := slice_both 22 Try.underlying22 byte_size A len cap fr to' h0 h1 h2 hc
  refine ⟨A', _, _, h3, fun w hb => ?_⟩
  have hr := h4 w W.heap.size _ (hx.stay hb)
  have e : ((byteCells l).drop fr.toNat).take (to'.toNat - fr.toNat) = (nums ((l.drop fr.toNat).take (to'.toNat - fr.toNat))).map (Value.int .u8) := by
    rw [← byteCells_nums]
    simp [byteCells, List.map_drop, List.map_take]
  rw [e] at hr
  rw [conv_any hr, strOf_nums]

set_option maxHeartbeats 8000000 in
set_option maxRecDepth 100000 in
theorem bytes_any {W : World} {A : Option Addr} {len cap : Nat} {l : List UInt8} (hx : Rd W W.heap.size A len (byteCells l)) (hc : len ≤ cap) (kd fr to' : Int) (tx : ByteArray) (A1 : Option Addr) (n1 c1 : Nat) (B1 : Option Addr) (m1 d1 : Nat) :
    Calls Try.prog 11 #[.slice A len cap, .agg #[.int .i64 kd, .int .i64 fr, .int .i64 to', .string tx, .slice A1 n1 c1, .slice B1 m1 d1]] W fun e w' => e = .returned (.string ⟨(bytesI l fr to').toArray⟩) ∧ Below W.heap.size W w' := by
  have hl : l.length = len := by have := hx.1; rwa [byteCells_length] at this
  unfold bytesI
  rw [hl]
  by_cases hbad : fr < 0 ∨ to' < fr ∨ (len : Int) < to'
  · rw [if_pos hbad]
    clear hx
    by_cases a : fr < 0
    · go_enter Try.func11, Try.ntmps11
      go_wp2
      go_ret
      exact ⟨rfl, below1 _ _⟩
    · by_cases b : to' < fr
      · go_enter Try.func11, Try.ntmps11
        go_wp2
        go_ret
        exact ⟨rfl, below1 _ _⟩
      · have c : (len : Int) < to' := by omega
        go_enter Try.func11, Try.ntmps11
        go_wp2
        go_ret
        exact ⟨rfl, below1 _ _⟩
  · rw [if_neg hbad]
    have h0 : 0 ≤ fr := by omega
    have h1 : fr ≤ to' := by omega
    have h2 : to' ≤ len := by omega
    have g0 : ¬ fr < 0 := by omega
    have g1 : ¬ to' < fr := by omega
    have g2 : ¬ (len : Int) < to' := by omega
    obtain ⟨A', n, c, hs, hcv⟩ := part_conv hx hc fr to' h0 h1 h2
    generalize (l.drop fr.toNat).take (to'.toNat - fr.toNat) = r at *
    have hcv := hcv (W.alloc (.cells #[.int .i64 kd, .int .i64 fr, .int .i64 to', .string tx, .slice A1 n1 c1, .slice B1 m1 d1] 27)) (below1 _ _)
    clear hx hbad
    go_enter Try.func11, Try.ntmps11
    go_wp2
    go_ret
    exact ⟨rfl, below1 _ _⟩

end Go.Proofs.Ytaklbbkjhbkieaa

namespace Go.Proofs.Ytaklbbkjhbkieaa
open Go.RowKit
set_option linter.unusedVariables false

def aliveTree : Tree := .mk 4 0 15 [] [.mk 2 2 3 [49] [] [], .mk 5 5 13 [] [.mk 2 11 12 [50] [] []] [[97]]] []
theorem alive_show : showT aliveTree = [91, 49, 44, 123, 34, 97, 34, 58, 50, 125, 93] := by decide +kernel
theorem alive_cnt : cntT aliveTree ≤ 800000 := by decide +kernel
theorem alive_ok : OkT aliveTree := by
  unfold aliveTree
  simp [OkT, OkL]
theorem aliveParse (w : World) : Calls Try.prog 6 #[.string ⟨#[91, 32, 49, 44, 32, 123, 34, 97, 34, 32, 58, 50, 125, 32, 93]⟩, .int .i64 9] w fun e w' =>
    ∃ x : V6, e = .returned (.tuple #[.agg #[.int .i64 x.kd, .int .i64 x.fr, .int .i64 x.to, .string ⟨x.tx.toArray⟩, .slice x.A x.n x.c, .slice x.B x.m x.d], .agg #[.int .i64 1, .int .i64 15]]) ∧ VIs w' aliveTree x ∧ Below w.heap.size w w' := by
  have h := rParse_any ⟨#[91, 32, 49, 44, 32, 123, 34, 97, 34, 32, 58, 50, 125, 32, 93]⟩ 9 (by decide) (by decide) (by decide) w
  have e : ParseR (⟨#[91, 32, 49, 44, 32, 123, 34, 97, 34, 32, 58, 50, 125, 32, 93]⟩ : ByteArray).data.toList ((9 : Nat) : Int) = (aliveTree, 1, 15) := alive_text
  rw [e] at h
  exact h
theorem aliveText (x : V6) (w : World) (h : VIs w aliveTree x) : Calls Try.prog 7 #[.agg #[.int .i64 x.kd, .int .i64 x.fr, .int .i64 x.to, .string ⟨x.tx.toArray⟩, .slice x.A x.n x.c, .slice x.B x.m x.d]] w fun e w' =>
    e = .returned (.string ⟨#[91, 49, 44, 123, 34, 97, 34, 58, 50, 125, 93]⟩) ∧ Below w.heap.size w w' := by
  have := text_any aliveTree x w h alive_ok alive_cnt (by rw [alive_show]; decide) (by rw [alive_show]; decide)
  rw [alive_show] at this
  exact this
set_option maxHeartbeats 4000000 in
set_option maxRecDepth 100000 in
theorem alive11_any (W : World) : Calls Try.prog 5 #[] W fun e w' => e = .returned (.bool true) ∧ Below W.heap.size W w' := by
  go_enter Try.func5, Try.ntmps5
  go_wp2_with (first
    | (go_at_call 6
       go_must (
         refine (aliveParse _).mono ?_
         rintro e w1 ⟨x, rfl, hv1, hb1⟩
         have hb2 := below2 w1 (.cells #[.int .i64 x.kd, .int .i64 x.fr, .int .i64 x.to, .string ⟨x.tx.toArray⟩, .slice x.A x.n x.c, .slice x.B x.m x.d] 27) (.cells #[.int .i64 1, .int .i64 15] 29)
         have HV := Lib.hid (And.intro (VIs.stay hb2 _ x hv1) (hb1.trans (hb2.mono hb1.size)))
         clear hv1 hb1 hb2))
    | (go_at_call 7
       go_must (
         refine (aliveText x _ HV.out.1).mono ?_
         rintro e w2 ⟨rfl, hb⟩
         have HB := Lib.hid (HV.out.2.trans (hb.mono HV.out.2.size))
         clear hb)))
  go_ret
  exact ⟨rfl, HB.out⟩

theorem row_len_cap {k : IntKind} {w : World} {A : Option Addr} {len cap : Nat} {zs : List Int} (h : IsRow k w A len cap zs) : len ≤ cap ∧ cap ≤ maxLen := by
  rcases h with ⟨_, rfl, rfl, _⟩ | ⟨_, _, h1, h2, _⟩
  · exact ⟨Nat.le_refl _, by decide⟩
  · exact ⟨h1, h2⟩

set_option maxHeartbeats 8000000 in
set_option maxRecDepth 100000 in
theorem showBytes_big (A : Option Addr) (len cap : Nat) (fr to' : Int) (W : World) (hl : 1000 < len) (hm : len ≤ maxLen) :
    Calls Try.prog 4 #[.slice A len cap, .int .i64 fr, .int .i64 to'] W fun e w' => e = .returned (.bool true) ∧ Below W.heap.size W w' := by
  unfold maxLen at hm
  go_enter Try.func4, Try.ntmps4
  go_wp2_with (go_at_call 5; refine (alive11_any _).mono ?_; rintro e w1 ⟨rfl, hb1⟩; have HB := Lib.hid hb1; clear hb1)
  go_ret
  exact ⟨rfl, HB.out⟩
theorem bytesI_bad {l : List UInt8} {fr to' : Int} (h : fr < 0 ∨ to' < fr ∨ (l.length : Int) < to') : bytesI l fr to' = [] := if_pos h
theorem bytesI_good {l : List UInt8} {fr to' : Int} (h : ¬ (fr < 0 ∨ to' < fr ∨ (l.length : Int) < to')) : bytesI l fr to' = (l.drop fr.toNat).take (to'.toNat - fr.toNat) := if_neg h

set_option maxHeartbeats 8000000 in
set_option maxRecDepth 100000 in
theorem showBytes_bad (A : Option Addr) (len cap : Nat) (l : List UInt8) (fr to' : Int) (W : World) (hx : Rd W W.heap.size A len (byteCells l)) (hc : len ≤ cap) (hl : len ≤ 1000) (hb : (fr < 0) ∨ (¬ fr < 0 ∧ to' < fr) ∨ (¬ fr < 0 ∧ ¬ to' < fr ∧ (len : Int) < to')) :
    Calls Try.prog 4 #[.slice A len cap, .int .i64 fr, .int .i64 to'] W fun e w' => e = .returned (.bool true) ∧ Below W.heap.size W w' := by
  have hll : l.length = len := by have := hx.1; rwa [byteCells_length] at this
  have hn : bytesI l fr to' = [] := bytesI_bad (by rw [hll]; omega)
  have HBY := Lib.hid (fun (w : World) (h : Below W.heap.size W w) => bytes_any (W := w) ((hx.stay h).more h.size) hc 0 fr to' ⟨#[]⟩ none 0 0 none 0 0)
  rw [hn] at HBY
  clear hx hn
  rcases hb with h | ⟨h, h'⟩ | ⟨h, h', h''⟩
  all_goals
    go_enter Try.func4, Try.ntmps4
    go_wp2_with (first
      | (go_at_call 5; refine (alive11_any _).mono ?_; rintro e w1 ⟨rfl, hb1⟩; have HB := Lib.hid hb1; clear hb1)
      | (go_at_call 11; refine (HBY.out _ HB.out).mono ?_; rintro e w2 ⟨rfl, hb2⟩; have HB2 := Lib.hid (HB.out.trans (hb2.mono HB.out.size)); clear hb2))
    go_ret
    exact ⟨ret_b (by decide), HB2.out⟩

set_option maxHeartbeats 8000000 in
set_option maxRecDepth 100000 in
theorem showBytes_good (A : Option Addr) (len cap : Nat) (l : List UInt8) (fr to' : Int) (W : World) (hx : Rd W W.heap.size A len (byteCells l)) (hc : len ≤ cap) (hl : len ≤ 1000) (h : ¬ fr < 0) (h' : ¬ to' < fr) (h'' : ¬ (len : Int) < to') :
    Calls Try.prog 4 #[.slice A len cap, .int .i64 fr, .int .i64 to'] W fun e w' => e = .returned (.bool true) ∧ Below W.heap.size W w' := by
  have hll : l.length = len := by have := hx.1; rwa [byteCells_length] at this
  have hn : bytesI l fr to' = (l.drop fr.toNat).take (to'.toNat - fr.toNat) := bytesI_good (by rw [hll]; omega)
  have HBY := Lib.hid (fun (w : World) (h : Below W.heap.size W w) => bytes_any (W := w) ((hx.stay h).more h.size) hc 0 fr to' ⟨#[]⟩ none 0 0 none 0 0)
  obtain ⟨A', n, c, hs, hcv⟩ := part_conv hx hc fr to' (by omega) (by omega) (by omega)
  rw [hn] at HBY
  generalize (l.drop fr.toNat).take (to'.toNat - fr.toNat) = r at *
  have HCV := Lib.hid hcv
  have hf0 : 0 ≤ fr := by omega
  have hf1 : fr ≤ to' := by omega
  have hf2 : to' ≤ len := by omega
  clear hx hn hcv
  go_enter Try.func4, Try.ntmps4
  go_wp2_with (first
    | (go_at_call 5; refine (alive11_any _).mono ?_; rintro e w1 ⟨rfl, hb1⟩; have HB := Lib.hid hb1; clear hb1)
    | (go_at_call 11; refine (HBY.out _ HB.out).mono ?_; rintro e w2 ⟨rfl, hb2⟩; have HB2 := Lib.hid (HB.out.trans (hb2.mono HB.out.size)); clear hb2; have cv2 := HCV.out w2 HB2.out))
  go_ret
  exact ⟨ret_b (by simp), HB2.out⟩

theorem showBytes_walk (A : Option Addr) (len cap : Nat) (zs : List Int) (fr to' : Int) (W : World) (h : IsRow .u8 W A len cap zs) (_ : (Lit.int .i64 fr).wf = true) (_ : (Lit.int .i64 to').wf = true) :
    Calls Try.prog 4 #[.slice A len cap, .int .i64 fr, .int .i64 to'] W fun e w' => e = .returned (.bool true) ∧ Below W.heap.size W w' := by
  obtain ⟨hc, hm⟩ := row_len_cap h
  obtain ⟨l, hx⟩ := h.bytes
  by_cases hl : len ≤ 1000
  · by_cases h0 : fr < 0
    · exact showBytes_bad A len cap l fr to' W hx hc hl (.inl h0)
    · by_cases h1 : to' < fr
      · exact showBytes_bad A len cap l fr to' W hx hc hl (.inr (.inl ⟨h0, h1⟩))
      · by_cases h2 : (len : Int) < to'
        · exact showBytes_bad A len cap l fr to' W hx hc hl (.inr (.inr ⟨h0, h1, h2⟩))
        · exact showBytes_good A len cap l fr to' W hx hc hl h0 h1 h2
  · exact showBytes_big A len cap fr to' W (by omega) (by omega)

end Go.Proofs.Ytaklbbkjhbkieaa

namespace Go.Proofs.Ytaklbbkjhbkieaa
open Go.RowKit
set_option linter.unusedVariables false

theorem cntL_app : ∀ (ts : List Tree) (u : Tree), cntL (ts ++ [u]) = cntL ts + cntT u + 1
  | [], u => by show cntT u + 1 + 0 = 0 + cntT u + 1; omega
  | t :: ts, u => by
    show cntT t + 1 + cntL (ts ++ [u]) = cntT t + 1 + cntL ts + cntT u + 1
    rw [cntL_app ts u]
    omega
theorem cntL_len : ∀ ts : List Tree, ts.length ≤ cntL ts
  | [] => Nat.le_refl _
  | t :: ts => by
    have := cntL_len ts
    show ts.length + 1 ≤ cntT t + 1 + cntL ts
    omega
theorem OkL_app : ∀ (ts : List Tree) (u : Tree), OkL ts → OkT u → OkL (ts ++ [u])
  | [], u, _, h => by unfold OkL; exact ⟨h, by unfold OkL; trivial⟩
  | t :: ts, u, h, g => by
    unfold OkL at h
    show OkL (t :: (ts ++ [u]))
    unfold OkL
    exact ⟨h.1, OkL_app ts u h.2 g⟩
/-- A part without a fault that begins at k. -/
def OkP (k : Nat) (p : PartR) : Prop := p.fault = 0 → OkT p.val ∧ k < p.pt ∧ cntT p.val ≤ 2 * (p.pt - k) ∧ headT p.val ≠ [] ∧ p.val.fr = k ∧ p.val.to = p.pt
theorem OkP.brk {k : Nat} {kd : Int} {fr : Nat} {ts : List Tree} {ns : List (List UInt8)} {f : Int} {pt : Nat} (hf : f ≠ 0) : OkP k (brkR kd fr ts ns f pt) := fun e => absurd e hf
theorem leaf_ok {kd : Int} {fr t : Nat} {tx : List UInt8} (h : tx.length ≤ 1000) (h4 : kd ≠ 4) (h5 : kd ≠ 5) : OkT (.mk kd fr t tx [] []) := by
  unfold OkT
  exact ⟨h, fun e => absurd e h5, fun _ => rfl, (fun s h => by cases h), Nat.zero_le _, by unfold OkL; trivial⟩
theorem quotedR_ok (l : List UInt8) (hl : l.length ≤ 1000) (k : Nat) (hk : k < l.length) : OkP k (quotedR l k) := by
  have hb := (scanR_bd (l.drop (k + 1)).length (l.drop (k + 1))).2
  rw [List.length_drop] at hb
  have hb : (scanL (l.drop (k + 1))).1.length ≤ l.length - (k + 1) := by unfold scanL; rw [List.length_drop]; exact hb
  unfold quotedR
  split
  · exact .brk (by decide)
  · split
    · rename_i h1 h2
      exact .brk h1
    · intro _
      refine ⟨leaf_ok (by omega) (by decide) (by decide), by show k < k + 1 + _; omega, ?_, ?_, rfl, rfl⟩
      · show 1 + 0 ≤ 2 * (k + 1 + _ - k); omega
      · show strT _ ≠ []
        unfold strT
        simp
theorem numW_zero (l : List UInt8) (a : Int) (k : Nat) (h : (numW a l k).1 = k) : (numW a l k).2.2 = a := by
  cases l with
  | nil => rfl
  | cons c t =>
    unfold numW at h ⊢
    split at h
    · have := numW_bd t (nxI a c.toNat) (k + 1)
      omega
    · rename_i hn
      rw [if_neg hn]
theorem numberR_ok (l : List UInt8) (hl : l.length ≤ 1000) (cl : Bool) (k : Nat) (hk : k < l.length) : OkP k (numberR l cl k) := by
  have hb := numW_bd (l.drop k) 0 0
  have hz := numW_zero (l.drop k) 0 0
  rw [List.length_drop] at hb
  unfold numberR
  split
  · exact .brk (by decide)
  · split
    · exact .brk (by decide)
    · rename_i h1 h2
      have h0 : (numW 0 (l.drop k) 0).1 ≠ 0 := fun e => h2 (.inr (by rw [hz e]; rfl))
      intro _
      have hlen : ((l.drop k).take (numW 0 (l.drop k) 0).1).length = (numW 0 (l.drop k) 0).1 := by rw [List.length_take, List.length_drop]; omega
      refine ⟨leaf_ok (by rw [hlen]; omega) (by decide) (by decide), by show k < k + _; omega, ?_, ?_, rfl, rfl⟩
      · show 1 + 0 ≤ 2 * (k + _ - k); omega
      · show (l.drop k).take (numW 0 (l.drop k) 0).1 ≠ []
        intro e
        rw [e] at hlen
        simp at hlen
        omega
theorem wordR_ok (l : List UInt8) (hl : l.length ≤ 1000) (k : Nat) (hk : k < l.length) : OkP k (wordR l k) := by
  have hb := wordW_bd (l.drop k) []
  rw [List.length_drop, List.length_nil] at hb
  unfold wordR
  split
  · exact .brk (by decide)
  · split
    · exact .brk (by decide)
    · rename_i h1 h2
      have hb2 := hb.2 h2
      intro _
      have hlen : ((l.drop k).take ((wordW [] (l.drop k)).1 + 1)).length = (wordW [] (l.drop k)).1 + 1 := by rw [List.length_take, List.length_drop]; omega
      have hkd : ∀ P : Int → Prop, P 0 → P 1 → P (if (l.drop k).take ((wordW [] (l.drop k)).1 + 1) = lN then 0 else 1) := fun P a b => by split <;> assumption
      refine ⟨leaf_ok (by rw [hlen]; omega) (hkd (· ≠ 4) (by decide) (by decide)) (hkd (· ≠ 5) (by decide) (by decide)), by show k < k + _ + 1; omega, ?_, ?_, rfl, rfl⟩
      · show 1 + 0 ≤ 2 * (k + _ + 1 - k); omega
      · have e : headT (.mk (if (l.drop k).take ((wordW [] (l.drop k)).1 + 1) = lN then 0 else 1) k (k + (wordW [] (l.drop k)).1 + 1) ((l.drop k).take ((wordW [] (l.drop k)).1 + 1)) [] []) = (l.drop k).take ((wordW [] (l.drop k)).1 + 1) := by
          unfold headT
          show (if (if _ then (0 : Int) else 1) = 4 then _ else if (if _ then (0 : Int) else 1) = 5 then _ else if (if _ then (0 : Int) else 1) = 3 then _ else _) = _
          split <;> rfl
        show headT _ ≠ []
        rw [e]
        intro e2
        rw [e2] at hlen
        simp at hlen

section
variable {l : List UInt8} {sm : Nat → PartR}
theorem arrGo_ok (hl : l.length ≤ 1000) (hsm : ∀ k, k < l.length → PBd l.length k (sm k)) (hok : ∀ k, k < l.length → OkP k (sm k)) (fr : Nat) : ∀ (f k : Nat) (items : List Tree), fr + 1 ≤ k → k ≤ l.length → OkL items → cntL items ≤ 2 * (k - (fr + 1)) → OkP fr (arrGo l sm fr f k items)
  | 0, k, items, _, _, _, _ => .brk (by decide)
  | f + 1, k, items, h1, h2, h3, h4 => by
    unfold arrGo
    split
    · exact .brk (by decide)
    · rename_i hk
      have hb := hsm k (by omega)
      split
      · rename_i h; exact .brk h
      · rename_i h
        have h0 : (sm k).fault = 0 := Classical.not_not.1 h
        obtain ⟨hk2, hbeg⟩ := hb.2 h0
        obtain ⟨o1, o2, o3, _⟩ := hok k (by omega) h0
        have hbl := blankR_le l (sm k).pt hb.1
        have hb1 := hb.1
        rw [if_pos hbeg]
        have hL := OkL_app items _ h3 o1
        have hC := cntL_app items (sm k).val
        split
        · exact .brk (by decide)
        · split
          · intro _
            refine ⟨?_, by show fr < blankR l (sm k).pt + 1; omega, ?_, (by show ([91] : List UInt8) ≠ []; simp), rfl, rfl⟩
            · have := cntL_len (items ++ [(sm k).val])
              unfold OkT
              exact ⟨Nat.zero_le _, (fun e => by cases e), fun e => absurd (.inl rfl) e, (fun s h => by cases h), by omega, hL⟩
            · show 1 + cntL (items ++ [(sm k).val]) ≤ 2 * (blankR l (sm k).pt + 1 - fr)
              omega
          · split
            · exact .brk (by decide)
            · have hbl2 := blankR_le l (blankR l (sm k).pt + 1) (by omega)
              exact arrGo_ok hl hsm hok fr f _ _ (by omega) (by omega) hL (by omega)
theorem arrR_ok (hl : l.length ≤ 1000) (hsm : ∀ k, k < l.length → PBd l.length k (sm k)) (hok : ∀ k, k < l.length → OkP k (sm k)) (k : Nat) (hk : k < l.length) : OkP k (arrR l sm k) := by
  have hbl := blankR_le l (k + 1) (by omega)
  unfold arrR
  split
  · rename_i h
    intro _
    refine ⟨?_, by show k < blankR l (k + 1) + 1; omega, by show 1 + 0 ≤ 2 * (blankR l (k + 1) + 1 - k); omega, (by show ([91] : List UInt8) ≠ []; simp), rfl, rfl⟩
    unfold OkT
    exact ⟨Nat.zero_le _, (fun e => by cases e), fun e => absurd (.inl rfl) e, (fun s h => by cases h), Nat.zero_le _, by unfold OkL; trivial⟩
  · exact arrGo_ok hl hsm hok k _ _ [] hbl.1 hbl.2 (by unfold OkL; trivial) (Nat.zero_le _)
theorem nameR_small (hl : l.length ≤ 1000) (k : Nat) (nm : List UInt8) (v : Nat) (r : Int × Nat) (h : nameR l k = (some (nm, v), r)) : nm.length ≤ 1000 := by
  unfold nameR at h
  split at h
  · cases h
  rename_i hk
  split at h
  · cases h
  split at h
  · cases h
  rename_i h3
  have hq := quotedR_ok l hl k (by omega) (Classical.not_not.1 h3)
  split at h
  · cases h
  split at h
  · cases h
  split at h
  · cases h
  · have e : nm = (quotedR l k).val.tx := by cases h; rfl
    rw [e]
    exact hq.1.head.1
theorem objGo_ok (hl : l.length ≤ 1000) (hsm : ∀ k, k < l.length → PBd l.length k (sm k)) (hok : ∀ k, k < l.length → OkP k (sm k)) (fr : Nat) : ∀ (f k : Nat) (items : List Tree) (names : List (List UInt8)), fr + 1 ≤ k → k ≤ l.length → OkL items → cntL items ≤ 2 * (k - (fr + 1)) →
    names.length = items.length → (∀ s ∈ names, s.length ≤ 1000) → OkP fr (objGo l sm fr f k items names)
  | 0, k, items, names, _, _, _, _, _, _ => .brk (by decide)
  | f + 1, k, items, names, h1, h2, h3, h4, h5, h6 => by
    have hn := nameR_bd l k
    unfold objGo
    rcases hr : nameR l k with ⟨_ | ⟨nm, v⟩, r⟩
    · exact .brk (hn.1 r.1 r.2 hr).1
    · obtain ⟨hk, hkv⟩ := hn.2 nm v r hr
      have hnl := nameR_small hl k nm v r hr
      show OkP fr (if (sm v).fault ≠ 0 then _ else _)
      have hb := hsm v hkv
      split
      · rename_i h; exact .brk h
      · rename_i h
        have h0 : (sm v).fault = 0 := Classical.not_not.1 h
        obtain ⟨hk2, hbeg⟩ := hb.2 h0
        obtain ⟨o1, o2, o3, _⟩ := hok v hkv h0
        have hbl := blankR_le l (sm v).pt hb.1
        have hb1 := hb.1
        rw [if_pos hbeg, if_pos hbeg]
        have hL := OkL_app items _ h3 o1
        have hC := cntL_app items (sm v).val
        have hN : (names ++ [nm]).length = (items ++ [(sm v).val]).length := by simp [h5]
        have hS : ∀ s ∈ names ++ [nm], s.length ≤ 1000 := fun s hs => by
          rcases List.mem_append.1 hs with hs | hs
          · exact h6 s hs
          · rw [List.mem_singleton.1 hs]; exact hnl
        split
        · exact .brk (by decide)
        · split
          · intro _
            refine ⟨?_, by show fr < blankR l (sm v).pt + 1; omega, ?_, (by show ([123] : List UInt8) ≠ []; simp), rfl, rfl⟩
            · have := cntL_len (items ++ [(sm v).val])
              unfold OkT
              exact ⟨Nat.zero_le _, fun _ => hN, fun e => absurd (.inr rfl) e, hS, by omega, hL⟩
            · show 1 + cntL (items ++ [(sm v).val]) ≤ 2 * (blankR l (sm v).pt + 1 - fr)
              omega
          · split
            · exact .brk (by decide)
            · have hbl2 := blankR_le l (blankR l (sm v).pt + 1) (by omega)
              exact objGo_ok hl hsm hok fr f _ _ _ (by omega) (by omega) hL (by omega) hN hS
theorem objR_ok (hl : l.length ≤ 1000) (hsm : ∀ k, k < l.length → PBd l.length k (sm k)) (hok : ∀ k, k < l.length → OkP k (sm k)) (k : Nat) (hk : k < l.length) : OkP k (objR l sm k) := by
  have hbl := blankR_le l (k + 1) (by omega)
  unfold objR
  split
  · rename_i h
    intro _
    refine ⟨?_, by show k < blankR l (k + 1) + 1; omega, by show 1 + 0 ≤ 2 * (blankR l (k + 1) + 1 - k); omega, (by show ([123] : List UInt8) ≠ []; simp), rfl, rfl⟩
    unfold OkT
    exact ⟨Nat.zero_le _, fun _ => rfl, fun e => absurd (.inr rfl) e, (fun s h => by cases h), Nat.zero_le _, by unfold OkL; trivial⟩
  · exact objGo_ok hl hsm hok k _ _ [] [] hbl.1 hbl.2 (by unfold OkL; trivial) (Nat.zero_le _) rfl (fun s h => by cases h)
end
theorem someR_ok (l : List UInt8) (hl : l.length ≤ 1000) (cl : Bool) : ∀ (n k : Nat), k < l.length → OkP k (someR l cl n k)
  | 0, k, hk => by
    unfold someR
    split
    · exact quotedR_ok l hl k hk
    split
    · exact numberR_ok l hl cl k hk
    split
    · exact wordR_ok l hl k hk
    · intro e
      exfalso
      revert e
      show ¬ (if _ then (12 : Int) else 8) = 0
      split <;> decide
  | n + 1, k, hk => by
    unfold someR
    split
    · exact quotedR_ok l hl k hk
    split
    · exact numberR_ok l hl cl k hk
    split
    · exact wordR_ok l hl k hk
    split
    · exact arrR_ok hl (someR_bd l cl n) (someR_ok l hl cl n) k hk
    split
    · exact objR_ok hl (someR_bd l cl n) (someR_ok l hl cl n) k hk
    · intro e
      exact absurd e (show ¬ (8 : Int) = 0 by decide)
/-- No part's fault is 1. -/
theorem quotedR_f (l : List UInt8) (k : Nat) : (quotedR l k).fault ≠ 1 := by
  unfold quotedR
  split
  · show (10 : Int) ≠ 1; decide
  · split
    · rename_i h1 h2; exact h2
    · show (0 : Int) ≠ 1; decide
theorem numberR_f (l : List UInt8) (cl : Bool) (k : Nat) : (numberR l cl k).fault ≠ 1 := by
  unfold numberR
  split
  · show (5 : Int) ≠ 1; decide
  · split
    · show (10 : Int) ≠ 1; decide
    · show (0 : Int) ≠ 1; decide
theorem wordR_f (l : List UInt8) (k : Nat) : (wordR l k).fault ≠ 1 := by
  unfold wordR
  split
  · show (6 : Int) ≠ 1; decide
  · split
    · show (10 : Int) ≠ 1; decide
    · show (0 : Int) ≠ 1; decide
theorem arrGo_f (l : List UInt8) (sm : Nat → PartR) (hf : ∀ k, (sm k).fault ≠ 1) (fr : Nat) : ∀ (f k : Nat) (items : List Tree), (arrGo l sm fr f k items).fault ≠ 1
  | 0, k, items => by show (10 : Int) ≠ 1; decide
  | f + 1, k, items => by
    unfold arrGo
    split
    · show (10 : Int) ≠ 1; decide
    split
    · exact hf k
    split
    · show (10 : Int) ≠ 1; decide
    split
    · show (0 : Int) ≠ 1; decide
    split
    · show (8 : Int) ≠ 1; decide
    · exact arrGo_f l sm hf fr f _ _
theorem arrR_f (l : List UInt8) (sm : Nat → PartR) (hf : ∀ k, (sm k).fault ≠ 1) (k : Nat) : (arrR l sm k).fault ≠ 1 := by
  unfold arrR
  split
  · show (0 : Int) ≠ 1; decide
  · exact arrGo_f l sm hf k _ _ _
theorem nameR_f (l : List UInt8) (k : Nat) (f : Int) (p : Nat) (h : nameR l k = (none, f, p)) : f ≠ 1 := by
  unfold nameR at h
  split at h
  · cases h; decide
  split at h
  · cases h; decide
  split at h
  · cases h; exact quotedR_f l k
  split at h
  · cases h; decide
  split at h
  · cases h; decide
  split at h
  · cases h; decide
  · cases h
theorem objGo_f (l : List UInt8) (sm : Nat → PartR) (hf : ∀ k, (sm k).fault ≠ 1) (fr : Nat) : ∀ (f k : Nat) (items : List Tree) (names : List (List UInt8)), (objGo l sm fr f k items names).fault ≠ 1
  | 0, k, items, names => by show (10 : Int) ≠ 1; decide
  | f + 1, k, items, names => by
    unfold objGo
    rcases hr : nameR l k with ⟨_ | ⟨nm, v⟩, r⟩
    · exact nameR_f l k r.1 r.2 hr
    · show (if (sm v).fault ≠ 0 then _ else _ : PartR).fault ≠ 1
      split
      · exact hf v
      split
      · show (10 : Int) ≠ 1; decide
      split
      · show (0 : Int) ≠ 1; decide
      split
      · show (8 : Int) ≠ 1; decide
      · exact objGo_f l sm hf fr f _ _ _
theorem objR_f (l : List UInt8) (sm : Nat → PartR) (hf : ∀ k, (sm k).fault ≠ 1) (k : Nat) : (objR l sm k).fault ≠ 1 := by
  unfold objR
  split
  · show (0 : Int) ≠ 1; decide
  · exact objGo_f l sm hf k _ _ _ _
theorem someR_f (l : List UInt8) (cl : Bool) : ∀ (n k : Nat), (someR l cl n k).fault ≠ 1
  | 0, k => by
    unfold someR
    split
    · exact quotedR_f l k
    split
    · exact numberR_f l cl k
    split
    · exact wordR_f l k
    · show (if _ then (12 : Int) else 8) ≠ 1
      split <;> decide
  | n + 1, k => by
    unfold someR
    split
    · exact quotedR_f l k
    split
    · exact numberR_f l cl k
    split
    · exact wordR_f l k
    split
    · exact arrR_f l _ (someR_f l cl n) k
    split
    · exact objR_f l _ (someR_f l cl n) k
    · show (8 : Int) ≠ 1; decide
/-- What Parse accepts can be written. -/
theorem parseR_ok (l : List UInt8) (hl : l.length ≤ 1000) (d : Int) (v : Tree) (pp : Nat) (h : ParseR l d = (v, 1, pp)) : OkT v ∧ cntT v ≤ 2000 ∧ headT v ≠ [] ∧ v.fr ≤ v.to ∧ v.to ≤ l.length := by
  unfold ParseR at h
  split at h
  · rename_i h1
    have e : (SomeR l d true).1 = v := by injection h
    revert h1 e
    unfold SomeR
    split
    · intro h1; exact absurd h1 (show ¬ (11 : Int) = 1 by decide)
    · rename_i hk
      have hlt : blankR l 0 < l.length := by omega
      have hp := someR_ok l hl true (newN d).most (blankR l 0) hlt
      have hbd := someR_bd l true (newN d).most (blankR l 0) hlt
      split
      · intro h1; exact absurd h1 (show ¬ (0 : Int) = 1 by decide)
      · split
        · rename_i hf
          intro h1 e
          exact absurd (show (someR l true (newN d).most (blankR l 0)).fault = 1 from h1) (someR_f l true _ _)
        · rename_i hf
          have h0 := Classical.not_not.1 hf
          obtain ⟨a, b, c, e1, e2, e3⟩ := hp h0
          have hb := hbd.1
          split
          · intro h1; exact absurd h1 (show ¬ (9 : Int) = 1 by decide)
          · intro _ e
            subst e
            exact ⟨a, by show cntT (someR l true (newN d).most (blankR l 0)).val ≤ 2000; omega, e1, by show (someR l true (newN d).most (blankR l 0)).val.fr ≤ (someR l true (newN d).most (blankR l 0)).val.to; omega, by show (someR l true (newN d).most (blankR l 0)).val.to ≤ l.length; omega⟩
  · rename_i h1
    have e : (SomeR l d true).2.2.1 = 1 := by injection h with _ h2; rw [h2]
    exact absurd e h1

/-- How long texts are, at most. -/
theorem headT_le {t : Tree} (h : OkT t) : (headT t).length ≤ 7000 := by
  obtain ⟨kd, fr, to', tx, items, names⟩ := t
  unfold OkT at h
  have h1 := h.1
  have := strT_le tx
  unfold headT
  show (if kd = 4 then [91] else if kd = 5 then [123] else if kd = 3 then strT tx else tx).length ≤ _
  (repeat' split) <;> (try simp) <;> omega
mutual
theorem txt_le (ln : Bool) (C : Nat) : ∀ (t : Tree) (d : Nat), OkT t → d + cntT t ≤ C → (txtT ln d t).length ≤ cntT t * (20000 + 4 * C)
  | .mk kd fr to' tx items names, d, h, hc => by
    have hh := headT_le h
    by_cases hk : kd = 4 ∨ kd = 5
    · rw [txt_node ln d (.mk kd fr to' tx items names) hk]
      unfold restT closeT
      have hi := items_le ln C items names d (decide (kd = 5)) true h.parts.2.2.1 (by unfold OkT at h; exact h.2.2.2.2.2) (by have : cntT (.mk kd fr to' tx items names) = 1 + cntL items := rfl; omega)
      have hn := nlT_length ln (2 * d)
      have e : cntT (.mk kd fr to' tx items names) = 1 + cntL items := rfl
      rw [e] at hc ⊢
      rw [Nat.add_mul, List.length_append, List.length_append, List.length_append]
      have e2 : (itemsR ln d (decide ((Tree.mk kd fr to' tx items names).kd = 5)) ((Tree.mk kd fr to' tx items names).items.drop 0) ((Tree.mk kd fr to' tx items names).names.drop 0) (decide (0 = 0))) = itemsR ln d (decide (kd = 5)) items names true := rfl
      rw [e2]
      have e3 : (if decide (0 < (Tree.mk kd fr to' tx items names).items.length) = true then nlT ln (2 * d) else []).length ≤ 2 * d + 1 := by
        split
        · exact hn
        · simp
      have e4 : ∀ b : Bool, ([if b = true then (125 : UInt8) else 93]).length = 1 := fun b => rfl
      rw [e4]
      omega
    · rw [txt_leaf ln d (.mk kd fr to' tx items names) hk (h.parts.2.1 hk)]
      have e : cntT (.mk kd fr to' tx items names) = 1 + cntL items := rfl
      rw [e, Nat.add_mul]
      omega
theorem items_le (ln : Bool) (C : Nat) : ∀ (ts : List Tree) (names : List (List UInt8)) (d : Nat) (obj fst : Bool), (∀ s ∈ names, s.length ≤ 1000) → OkL ts → d + 1 + cntL ts ≤ C → (itemsR ln d obj ts names fst).length ≤ cntL ts * (20000 + 4 * C)
  | [], names, d, obj, fst, _, _, _ => by show (0 : Nat) ≤ _; exact Nat.zero_le _
  | t :: ts, names, d, obj, fst, hn, h, hc => by
    unfold OkL at h
    have e : cntL (t :: ts) = cntT t + 1 + cntL ts := rfl
    rw [e] at hc ⊢
    have h1 := txt_le ln C t (d + 1) h.1 (by omega)
    have h2 := items_le ln C ts names.tail d obj false (fun s hs => hn s (List.mem_of_mem_tail hs)) h.2 (by omega)
    have h3 := nlT_length ln (2 * (d + 1))
    have h4 : (nameTx ln (names.headD [])).length ≤ 6010 := by
      have := nameTx_length ln (names.headD [])
      have := strT_le (names.headD [])
      have hl : (names.headD []).length ≤ 1000 := by
        cases names with
        | nil => exact Nat.zero_le _
        | cons s r => exact hn s (by simp)
      omega
    show ((if fst then [] else [44]) ++ (nlT ln (2 * (d + 1)) ++ ((if obj then nameTx ln (names.headD []) else []) ++ (txtT ln (d + 1) t ++ itemsR ln d obj ts names.tail false)))).length ≤ _
    have h5 : (if fst = true then ([] : List UInt8) else [44]).length ≤ 1 := by split <;> simp
    have h6 : (if obj = true then nameTx ln (names.headD []) else []).length ≤ 6010 := by
      split
      · exact h4
      · simp
    simp only [List.length_append]
    rw [Nat.add_mul, Nat.add_mul]
    omega
end
theorem txt_small (ln : Bool) (t : Tree) (h : OkT t) (hc : cntT t ≤ 2000) : (txtT ln 0 t).length ≤ 100000000000 := by
  have := txt_le ln 2000 t 0 h (by omega)
  have h2 : cntT t * (20000 + 4 * 2000) ≤ 2000 * (20000 + 4 * 2000) := Nat.mul_le_mul_right _ hc
  omega
theorem txt_some (ln : Bool) (d : Nat) (t : Tree) (h : OkT t) (hh : headT t ≠ []) : txtT ln d t ≠ [] := by
  by_cases hk : t.kd = 4 ∨ t.kd = 5
  · rw [txt_node ln d t hk]
    intro e
    exact hh (List.append_eq_nil_iff.1 e).1
  · obtain ⟨kd, fr, to', tx, items, names⟩ := t
    rw [txt_leaf ln d (.mk kd fr to' tx items names) hk (h.parts.2.1 hk)]
    exact hh

end Go.Proofs.Ytaklbbkjhbkieaa

namespace Go.Proofs.Ytaklbbkjhbkieaa
open Go.RowKit
set_option linter.unusedVariables false

theorem rputStr_of (l : List UInt8) (hl : l.length ≤ 1000) (w : World) : Calls Try.prog 14 #[.string ⟨l.toArray⟩] w fun e w' => e = .returned (.string ⟨(strT l).toArray⟩) ∧ Below w.heap.size w w' :=
  (rput_any ⟨l.toArray⟩ w (by show l.length ≤ _; omega)).mono fun e w' h => h
/-- The contract of the document's Text for a value. -/
def TextR (t : Tree) : Prop := ∀ (x : V6) (W : World), VIs W t x → OkT t → (showT t).length ≤ 100000000000 → Calls Try.prog 8 #[.agg #[.int .i64 x.kd, .int .i64 x.fr, .int .i64 x.to, .string ⟨x.tx.toArray⟩, .slice x.A x.n x.c, .slice x.B x.m x.d]] W
  fun e w' => e = .returned (.string ⟨(showT t).toArray⟩) ∧ Below W.heap.size W w'

theorem vis_kd {w : World} {t : Tree} {x : V6} (h : VIs w t x) : x.kd = t.kd := by
  cases t
  unfold VIs at h
  exact h.1
set_option maxHeartbeats 4000000 in
set_option maxRecDepth 100000 in
theorem rText_str (t : Tree) (h3 : t.kd = 3) (hs : showT t = strT t.tx) : TextR t := by
  intro x W hv hok _
  obtain ⟨ho1, _⟩ := hok.head
  have hk : x.kd = 3 := (vis_kd hv).trans h3
  have HP := Lib.hid (fun w => rputStr_of x.tx (by rw [vis_tx hv]; exact ho1) w)
  rw [hs, ← vis_tx hv]
  clear hv hok hs h3 ho1
  go_enter Try.func8, Try.ntmps8
  go_wp2_with (
    go_at_call 14
    go_must (
      refine (HP.out _).mono ?_
      rintro e w1 ⟨rfl, hb1⟩
      have H1 := Lib.hid ((below1 W _).trans (hb1.mono (by simp)))
      clear hb1))
  go_ret
  exact ⟨rfl, H1.out⟩
set_option maxHeartbeats 4000000 in
set_option maxRecDepth 100000 in
theorem rText_plain (t : Tree) (h3 : t.kd ≠ 3) (h4 : t.kd ≠ 4) (h5 : t.kd ≠ 5) (hs : showT t = t.tx) : TextR t := by
  intro x W hv hok _
  have e3 : (x.kd == 3) = false := beq_eq_false_iff_ne.2 (by rw [vis_kd hv]; exact h3)
  have e4 : (x.kd != 4) = true := bne_iff_ne.2 (by rw [vis_kd hv]; exact h4)
  have e5 : (x.kd != 5) = true := bne_iff_ne.2 (by rw [vis_kd hv]; exact h5)
  rw [hs, ← vis_tx hv]
  clear hv hok hs h3 h4 h5
  go_enter Try.func8, Try.ntmps8
  go_wp2
  go_ret
  exact ⟨rfl, below1 _ _⟩

/-- Where Text's loop stands. -/
def RelTx (W1 : World) (obj : Bool) (items : List Tree) (names : List (List UInt8)) (T : List UInt8) (wr : World) (s k : Value) : Prop :=
  ∃ (i : Nat) (S : ByteArray), i ≤ items.length ∧ k = .int .i64 i ∧ s = .string S ∧ S.data.toList ++ itemsR false 0 obj (items.drop i) (names.drop i) (decide (i = 0)) = T ∧ Below W1.heap.size W1 wr
theorem itemsR_at (ln : Bool) (d : Nat) (obj : Bool) (items : List Tree) (names : List (List UInt8)) (i : Nat) (u : Tree) (hu : items[i]? = some u) :
    itemsR ln d obj (items.drop i) (names.drop i) (decide (i = 0)) = (if i = 0 then [] else [44]) ++ (nlT ln (2 * (d + 1)) ++ ((if obj then nameTx ln ((names.drop i).headD []) else []) ++ (txtT ln (d + 1) u ++ itemsR ln d obj (items.drop (i + 1)) (names.drop (i + 1)) (decide (i + 1 = 0))))) := by
  have hi : i < items.length := (List.getElem?_eq_some_iff.1 hu).1
  have hd : items.drop i = u :: items.drop (i + 1) := by
    rw [List.drop_eq_getElem_cons hi]
    congr 1
    rw [List.getElem?_eq_getElem hi] at hu
    exact Option.some.inj hu
  rw [hd]
  show (if decide (i = 0) = true then [] else [44]) ++ (nlT ln (2 * (d + 1)) ++ ((if obj = true then nameTx ln ((names.drop i).headD []) else []) ++ (txtT ln (d + 1) u ++ itemsR ln d obj (items.drop (i + 1)) (names.drop i).tail false))) = _
  rw [List.tail_drop]
  have e1 : (if decide (i = 0) = true then ([] : List UInt8) else [44]) = if i = 0 then [] else [44] := by simp
  have e3 : decide (i + 1 = 0) = false := by simp
  rw [e1, e3]
/-- An element's cells in a slice of values. -/
theorem elem_cells {w : World} {A : Option Addr} {m : Nat} {xs : List V6} (h : RdG valK w A m xs) {i : Nat} {y : V6} (hy : xs[i]? = some y) : ∃ b o : Nat, A = some ⟨b, o, none⟩ ∧ b < w.heap.size ∧
    w.cell? ⟨b, o + i * 6, none⟩ = some (.int .i64 y.kd) ∧ w.cell? ⟨b, o + i * 6 + 1, none⟩ = some (.int .i64 y.fr) ∧ w.cell? ⟨b, o + i * 6 + 2, none⟩ = some (.int .i64 y.to) ∧ w.cell? ⟨b, o + i * 6 + 3, none⟩ = some (.string ⟨y.tx.toArray⟩) ∧
    w.cell? ⟨b, o + i * 6 + 4, none⟩ = some (.slice y.A y.n y.c) ∧ w.cell? ⟨b, o + i * 6 + 5, none⟩ = some (.slice y.B y.m y.d) := by
  obtain ⟨b, o, e, b2, o2, e2, hlt, hc⟩ := h.item hy
  injection e2 with e3 e4
  subst e3 e4
  exact ⟨b, o, e, hlt, hc 0 _ rfl, hc 1 _ rfl, hc 2 _ rfl, hc 3 _ rfl, hc 4 _ rfl, hc 5 _ rfl⟩

set_option maxHeartbeats 8000000 in
set_option maxRecDepth 100000 in
theorem rText_e4 (fr to' : Nat) (tx : List UInt8) (items : List Tree) (names : List (List UInt8)) (h0 : items.length = 0) : TextR (.mk 4 fr to' tx items names) := by
  intro x W hv hok hsz
  have hm := hv.many
  have hk : x.kd = 4 := vis_kd hv
  obtain ⟨hn5, _, hnn, hni⟩ := hok.parts
  obtain ⟨xs, h8, h9⟩ : ∃ xs, RdG valK W x.A x.n xs ∧ VLs W items xs := by unfold VIs at hv; obtain ⟨_, _, _, _, _, _, _, xs, h8, h9⟩ := hv; exact ⟨xs, h8, h9⟩
  have h7 : RdG namK W x.B x.m names := by unfold VIs at hv; exact hv.2.2.2.2.2.2.1
  have hcap : x.n ≤ x.c := by unfold VIs at hv; exact hv.2.2.2.2.1
  have hcap2 : x.m ≤ x.d := by unfold VIs at hv; exact hv.2.2.2.2.2.1
  obtain ⟨xk, xf, xt, xx, xA, n, xc, xB, m, xd⟩ := x
  obtain ⟨hmn, hmm⟩ := hm
  replace hmn : n = items.length := hmn
  replace hmm : m = names.length := hmm
  replace hk : xk = 4 := hk
  subst hk
  replace hcap : n ≤ xc := hcap
  replace hcap2 : m ≤ xd := hcap2
  replace h8 : RdG valK W xA n xs := h8
  replace h7 : RdG namK W xB m names := h7
  have hsh : showT (.mk 4 fr to' tx items names) = 91 :: (itemsR false 0 false items names true ++ [93]) := by rw [items_showA]; unfold showT; rfl
  rw [hsh] at hsz
  rw [hsh]
  obtain rfl : items = [] := List.eq_nil_of_length_eq_zero h0
  have hz : n = 0 := hmn
  subst hz
  clear hv hok h8 h9 h7 hcap hcap2 hmm hmn hn5 hnn hni h0 hsh hsz
  show Calls _ _ #[.agg #[.int .i64 4, .int .i64 xf, .int .i64 xt, .string ⟨xx.toArray⟩, .slice xA 0 xc, .slice xB m xd]] _ _
  go_enter Try.func8, Try.ntmps8
  go_wp2
  refine wp_loop_rounds 2 ?_
  rw [rounds_succ]
  go_wp2
  go_ret
  exact ⟨rfl, below1 _ _⟩
set_option maxHeartbeats 16000000 in
set_option maxRecDepth 100000 in
theorem rText_4 (fr to' : Nat) (tx : List UInt8) (items : List Tree) (names : List (List UInt8)) (h0 : 0 < items.length) (ih : ∀ u ∈ items, TextR u) : TextR (.mk 4 fr to' tx items names) := by
  intro x W hv hok hsz
  have hm := hv.many
  have hk : x.kd = 4 := vis_kd hv
  obtain ⟨hn5, _, hnn, hni⟩ := hok.parts
  obtain ⟨xs, h8, h9⟩ : ∃ xs, RdG valK W x.A x.n xs ∧ VLs W items xs := by unfold VIs at hv; obtain ⟨_, _, _, _, _, _, _, xs, h8, h9⟩ := hv; exact ⟨xs, h8, h9⟩
  have h7 : RdG namK W x.B x.m names := by unfold VIs at hv; exact hv.2.2.2.2.2.2.1
  have hcap : x.n ≤ x.c := by unfold VIs at hv; exact hv.2.2.2.2.1
  have hcap2 : x.m ≤ x.d := by unfold VIs at hv; exact hv.2.2.2.2.2.1
  obtain ⟨xk, xf, xt, xx, xA, n, xc, xB, m, xd⟩ := x
  obtain ⟨hmn, hmm⟩ := hm
  replace hmn : n = items.length := hmn
  replace hmm : m = names.length := hmm
  replace hk : xk = 4 := hk
  subst hk
  replace hcap : n ≤ xc := hcap
  replace hcap2 : m ≤ xd := hcap2
  replace h8 : RdG valK W xA n xs := h8
  replace h7 : RdG namK W xB m names := h7
  have hsh : showT (.mk 4 fr to' tx items names) = 91 :: (itemsR false 0 false items names true ++ [93]) := by rw [items_showA]; unfold showT; rfl
  rw [hsh] at hsz
  rw [hsh]
  obtain ⟨ib, io, rfl, hib, _⟩ := h8.2 (by omega)
  have HIT := Lib.hid (fun (w : World) (hb : Below W.heap.size W w) (i : Nat) (u : Tree) (hu : items[i]? = some u) => show ∃ y, VIs w u y ∧ xs[i]? = some y from by
    obtain ⟨y, hy, hvy⟩ := h9.at i u hu
    exact ⟨y, VIs.stay hb u y hvy, hy⟩)
  have HRD := Lib.hid (fun (w : World) (hb : Below W.heap.size W w) => h8.below hb)
  obtain ⟨T, hTT⟩ : ∃ T, itemsR false 0 false items names true = T := ⟨_, rfl⟩
  rw [hTT] at hsz
  rw [hTT]
  have HT9 := Lib.hid (show T.length ≤ 100000000000 from by simp at hsz; omega)
  have HT := Lib.hid hTT
  have HM := Lib.hid (And.intro hmn hmm)
  have HN := Lib.hid hmn
  have HI := Lib.hid ih
  have HO := Lib.hid hok
  have hn9 : n ≤ 1000000 := by omega
  clear hv hok h8 h9 h7 hsh hTT ih hmn hmm hn5 hnn hni h0 hsz
  show Calls _ _ #[.agg #[.int .i64 4, .int .i64 xf, .int .i64 xt, .string ⟨xx.toArray⟩, .slice (some ⟨ib, io, none⟩) n xc, .slice xB m xd]] _ _
  go_enter Try.func8, Try.ntmps8
  go_upto_region 5 with fail
  change Code.wp _ _ _ _ (W.alloc (.cells #[.int .i64 4, .int .i64 xf, .int .i64 xt, .string ⟨xx.toArray⟩, .slice (some ⟨ib, io, none⟩) n xc, .slice xB m xd] 27))
  have hb0 := below1 W (.cells #[.int .i64 4, .int .i64 xf, .int .i64 xt, .string ⟨xx.toArray⟩, .slice (some ⟨ib, io, none⟩) n xc, .slice xB m xd] 27)
  have hO1 := Own.fresh W 27 #[.int .i64 4, .int .i64 xf, .int .i64 xt, .string ⟨xx.toArray⟩, .slice (some ⟨ib, io, none⟩) n xc, .slice xB m xd]
  generalize W.alloc (.cells #[.int .i64 4, .int .i64 xf, .int .i64 xt, .string ⟨xx.toArray⟩, .slice (some ⟨ib, io, none⟩) n xc, .slice xB m xd] 27) = W1 at hb0 hO1 ⊢
  have c4 := hO1.at 4
  simp at c4
  have HO1 := Lib.hid hO1
  have HB0 := Lib.hid hb0
  clear hb0 hO1
  go_wp2
  go_loopw [3, 25] (fun s k wr => RelTx W1 false items names T wr s k) (fun _ k _ => n - (intOf k).toNat)
  case atStart => exact ⟨0, ByteArray.empty, Nat.zero_le _, rfl, rfl, HT.out, Below.refl _ _⟩
  case round =>
    obtain ⟨i, S, hi, rfl, rfl, hS, hbw⟩ := hrel
    have hi : i ≤ n := by rw [HN.out]; exact hi
    have hO := HO1.out.stay hbw HO1.out.inside
    have hbW := HB0.out.trans (hbw.mono HB0.out.size)
    by_cases hlt : i < n
    · obtain ⟨u, hu⟩ : ∃ u, items[i]? = some u := ⟨_, List.getElem?_eq_getElem (by rw [← HN.out]; exact hlt)⟩
      obtain ⟨y, hvy, hy⟩ := HIT.out wr hbW i u hu
      obtain ⟨ib', io', hA, _, e0, e1, e2, e3, e4, e5⟩ := elem_cells (HRD.out wr hbW) hy
      injection hA with hA
      injection hA with hA1 hA2
      subst hA1 hA2
      rw [itemsR_at false 0 false items names i u hu] at hS
      have hlen := congrArg List.length hS
      simp only [List.length_append] at hlen
      have hS9 : S.size ≤ 100000000000 := by have e : S.data.toList.length = S.size := rfl; have := HT9.out; omega
      have hu9 : (showT u).length ≤ 100000000000 := by have e : (txtT false (0 + 1) u).length = (showT u).length := rfl; have := HT9.out; omega
      have hsu : (⟨(showT u).toArray⟩ : ByteArray).size ≤ 100000000000 := by show (showT u).toArray.size ≤ _; simpa using hu9
      have HTU := Lib.hid (fun (w : World) (h : VIs w u y) => HI.out u (List.mem_of_getElem? hu) y w h (OkT.item HO.out hu) hu9)
      clear hlen hu9
      have h44 : (⟨#[44]⟩ : ByteArray).size = 1 := rfl
      have hsc : (S ++ (⟨#[44]⟩ : ByteArray)).size ≤ 100000000001 := by rw [ByteArray.size_append, h44]; omega
      have hb5 := below1 wr (.cells #[.int .i64 y.kd, .int .i64 y.fr, .int .i64 y.to, .string ⟨y.tx.toArray⟩, .slice y.A y.n y.c, .slice y.B y.m y.d] 27)
      have HV5 := Lib.hid (VIs.stay hb5 u y hvy)
      have hO5 := hO.over (.cells #[.int .i64 y.kd, .int .i64 y.fr, .int .i64 y.to, .string ⟨y.tx.toArray⟩, .slice y.A y.n y.c, .slice y.B y.m y.d] 27)
      have k0' := hO5.at 0
      simp at k0'
      have HX := Lib.hid (And.intro hO5 (And.intro (Own.fresh wr 27 #[.int .i64 y.kd, .int .i64 y.fr, .int .i64 y.to, .string ⟨y.tx.toArray⟩, .slice y.A y.n y.c, .slice y.B y.m y.d]) trivial))
      have HB5 := Lib.hid (hbw.trans (hb5.mono hbw.size))
      have HS := Lib.hid hS
      clear hvy hbw hbW hO hO5 hS hb5
      by_cases h0 : i = 0
      · have hz0 : ¬ 0 < i := by omega
        have H0 := Lib.hid h0
        clear h0
        go_wp2_with (first
          | (go_at_call 8
             go_must (
               refine (HTU.out _ HV5.out).mono ?_
               rintro e w3 ⟨rfl, hb3⟩
               have H3 := Lib.hid (HB5.out.trans (hb3.mono HB5.out.size))
               clear hb3)))
        go_roundw
        case rel =>
          refine ⟨i + 1, _, (by rw [← HN.out]; omega), (by go_num), rfl, ?_, H3.out⟩
          have := HS.out
          rw [if_pos H0.out] at this
          simp only [cat_list]
          simpa [nlT, txtT, nameTx, List.append_assoc] using this
        case measure => simp [intOf]; omega
      · have hz0 : 0 < i := by omega
        clear h0
        go_wp2_with (first
          | (go_at_call 8
             go_must (
               refine (HTU.out _ HV5.out).mono ?_
               rintro e w3 ⟨rfl, hb3⟩
               have H3 := Lib.hid (HB5.out.trans (hb3.mono HB5.out.size))
               clear hb3)))
        go_roundw
        case rel =>
          refine ⟨i + 1, _, (by rw [← HN.out]; omega), (by go_num), rfl, ?_, H3.out⟩
          have := HS.out
          rw [if_neg (Nat.ne_of_gt hz0)] at this
          simp only [cat_list]
          simpa [nlT, txtT, nameTx, List.append_assoc] using this
        case measure => simp [intOf]; omega
    · have hin : i = n := by omega
      subst hin
      have k0 := hO.at 0
      simp at k0
      have hS9 : S.size ≤ 100000000000 := by have e : S.data.toList.length = S.size := rfl; have := congrArg List.length hS; rw [List.length_append] at this; have := HT9.out; omega
      have h91 : (⟨#[91]⟩ : ByteArray).size = 1 := rfl
      have h93 : (⟨#[93]⟩ : ByteArray).size = 1 := rfl
      have hse : ((⟨#[91]⟩ : ByteArray) ++ S).size ≤ 100000000001 := by rw [ByteArray.size_append, h91]; omega
      have HS := Lib.hid hS
      have HBW := Lib.hid hbW
      clear hS hbw hbW hO
      go_wp2
      go_ret
      have := HS.out
      rw [HN.out, List.drop_length] at this
      have e : S.data.toList = T := by rw [← this]; show _ = _ ++ []; rw [List.append_nil]
      have hfin : ((⟨#[91]⟩ : ByteArray) ++ S ++ (⟨#[93]⟩ : ByteArray)) = ⟨(91 :: (T ++ [93])).toArray⟩ := ba_ext (by simp [e])
      exact ⟨congrArg (fun s => Ending.returned (Value.string s)) hfin, HBW.out⟩
set_option maxHeartbeats 8000000 in
set_option maxRecDepth 100000 in
theorem rText_e5 (fr to' : Nat) (tx : List UInt8) (items : List Tree) (names : List (List UInt8)) (h0 : items.length = 0) : TextR (.mk 5 fr to' tx items names) := by
  intro x W hv hok hsz
  have hm := hv.many
  have hk : x.kd = 5 := vis_kd hv
  obtain ⟨hn5, _, hnn, hni⟩ := hok.parts
  obtain ⟨xs, h8, h9⟩ : ∃ xs, RdG valK W x.A x.n xs ∧ VLs W items xs := by unfold VIs at hv; obtain ⟨_, _, _, _, _, _, _, xs, h8, h9⟩ := hv; exact ⟨xs, h8, h9⟩
  have h7 : RdG namK W x.B x.m names := by unfold VIs at hv; exact hv.2.2.2.2.2.2.1
  have hcap : x.n ≤ x.c := by unfold VIs at hv; exact hv.2.2.2.2.1
  have hcap2 : x.m ≤ x.d := by unfold VIs at hv; exact hv.2.2.2.2.2.1
  obtain ⟨xk, xf, xt, xx, xA, n, xc, xB, m, xd⟩ := x
  obtain ⟨hmn, hmm⟩ := hm
  replace hmn : n = items.length := hmn
  replace hmm : m = names.length := hmm
  replace hk : xk = 5 := hk
  subst hk
  replace hcap : n ≤ xc := hcap
  replace hcap2 : m ≤ xd := hcap2
  replace h8 : RdG valK W xA n xs := h8
  replace h7 : RdG namK W xB m names := h7
  have hsh : showT (.mk 5 fr to' tx items names) = 123 :: (itemsR false 0 true items names true ++ [125]) := by rw [items_showO]; unfold showT; rfl
  rw [hsh] at hsz
  rw [hsh]
  obtain rfl : items = [] := List.eq_nil_of_length_eq_zero h0
  have hz : n = 0 := hmn
  subst hz
  clear hv hok h8 h9 h7 hcap hcap2 hmm hmn hn5 hnn hni h0 hsh hsz
  show Calls _ _ #[.agg #[.int .i64 5, .int .i64 xf, .int .i64 xt, .string ⟨xx.toArray⟩, .slice xA 0 xc, .slice xB m xd]] _ _
  go_enter Try.func8, Try.ntmps8
  go_wp2
  refine wp_loop_rounds 2 ?_
  rw [rounds_succ]
  go_wp2
  go_ret
  exact ⟨rfl, below1 _ _⟩
set_option maxHeartbeats 16000000 in
set_option maxRecDepth 100000 in
theorem rText_5 (fr to' : Nat) (tx : List UInt8) (items : List Tree) (names : List (List UInt8)) (h0 : 0 < items.length) (ih : ∀ u ∈ items, TextR u) : TextR (.mk 5 fr to' tx items names) := by
  intro x W hv hok hsz
  have hm := hv.many
  have hk : x.kd = 5 := vis_kd hv
  obtain ⟨hn5, _, hnn, hni⟩ := hok.parts
  obtain ⟨xs, h8, h9⟩ : ∃ xs, RdG valK W x.A x.n xs ∧ VLs W items xs := by unfold VIs at hv; obtain ⟨_, _, _, _, _, _, _, xs, h8, h9⟩ := hv; exact ⟨xs, h8, h9⟩
  have h7 : RdG namK W x.B x.m names := by unfold VIs at hv; exact hv.2.2.2.2.2.2.1
  have hcap : x.n ≤ x.c := by unfold VIs at hv; exact hv.2.2.2.2.1
  have hcap2 : x.m ≤ x.d := by unfold VIs at hv; exact hv.2.2.2.2.2.1
  obtain ⟨xk, xf, xt, xx, xA, n, xc, xB, m, xd⟩ := x
  obtain ⟨hmn, hmm⟩ := hm
  replace hmn : n = items.length := hmn
  replace hmm : m = names.length := hmm
  replace hk : xk = 5 := hk
  subst hk
  replace hcap : n ≤ xc := hcap
  replace hcap2 : m ≤ xd := hcap2
  replace h8 : RdG valK W xA n xs := h8
  replace h7 : RdG namK W xB m names := h7
  have hsh : showT (.mk 5 fr to' tx items names) = 123 :: (itemsR false 0 true items names true ++ [125]) := by rw [items_showO]; unfold showT; rfl
  rw [hsh] at hsz
  rw [hsh]
  obtain ⟨ib, io, rfl, hib, _⟩ := h8.2 (by omega)
  obtain ⟨nb, no, rfl, hnb, _⟩ := h7.2 (by have := hn5 rfl; omega)
  have HIT := Lib.hid (fun (w : World) (hb : Below W.heap.size W w) (i : Nat) (u : Tree) (hu : items[i]? = some u) => show ∃ y, VIs w u y ∧ xs[i]? = some y from by
    obtain ⟨y, hy, hvy⟩ := h9.at i u hu
    exact ⟨y, VIs.stay hb u y hvy, hy⟩)
  have HRD := Lib.hid (fun (w : World) (hb : Below W.heap.size W w) => h8.below hb)
  have HND := Lib.hid (fun (w : World) (hb : Below W.heap.size W w) => h7.below hb)
  obtain ⟨T, hTT⟩ : ∃ T, itemsR false 0 true items names true = T := ⟨_, rfl⟩
  rw [hTT] at hsz
  rw [hTT]
  have HT9 := Lib.hid (show T.length ≤ 100000000000 from by simp at hsz; omega)
  have HT := Lib.hid hTT
  have HM := Lib.hid (And.intro (show n = names.length from hmn.trans (hn5 rfl).symm) (And.intro hmn hnn))
  have HN := Lib.hid hmn
  have HMM := Lib.hid (show m = n from (hmm.trans (hn5 rfl)).trans hmn.symm)
  have HI := Lib.hid ih
  have HO := Lib.hid hok
  have hn9 : n ≤ 1000000 := by omega
  clear hv hok h8 h9 h7 hsh hTT ih hmn hmm hn5 hnn hni h0 hsz
  show Calls _ _ #[.agg #[.int .i64 5, .int .i64 xf, .int .i64 xt, .string ⟨xx.toArray⟩, .slice (some ⟨ib, io, none⟩) n xc, .slice (some ⟨nb, no, none⟩) m xd]] _ _
  go_enter Try.func8, Try.ntmps8
  go_upto_region 5 with fail
  change Code.wp _ _ _ _ (W.alloc (.cells #[.int .i64 5, .int .i64 xf, .int .i64 xt, .string ⟨xx.toArray⟩, .slice (some ⟨ib, io, none⟩) n xc, .slice (some ⟨nb, no, none⟩) m xd] 27))
  have hb0 := below1 W (.cells #[.int .i64 5, .int .i64 xf, .int .i64 xt, .string ⟨xx.toArray⟩, .slice (some ⟨ib, io, none⟩) n xc, .slice (some ⟨nb, no, none⟩) m xd] 27)
  have hO1 := Own.fresh W 27 #[.int .i64 5, .int .i64 xf, .int .i64 xt, .string ⟨xx.toArray⟩, .slice (some ⟨ib, io, none⟩) n xc, .slice (some ⟨nb, no, none⟩) m xd]
  generalize W.alloc (.cells #[.int .i64 5, .int .i64 xf, .int .i64 xt, .string ⟨xx.toArray⟩, .slice (some ⟨ib, io, none⟩) n xc, .slice (some ⟨nb, no, none⟩) m xd] 27) = W1 at hb0 hO1 ⊢
  have c4 := hO1.at 4
  simp at c4
  have HO1 := Lib.hid hO1
  have HB0 := Lib.hid hb0
  clear hb0 hO1
  go_wp2
  go_loopw [3, 25] (fun s k wr => RelTx W1 true items names T wr s k) (fun _ k _ => n - (intOf k).toNat)
  case atStart => exact ⟨0, ByteArray.empty, Nat.zero_le _, rfl, rfl, HT.out, Below.refl _ _⟩
  case round =>
    obtain ⟨i, S, hi, rfl, rfl, hS, hbw⟩ := hrel
    have hi : i ≤ n := by rw [HN.out]; exact hi
    have hO := HO1.out.stay hbw HO1.out.inside
    have hbW := HB0.out.trans (hbw.mono HB0.out.size)
    by_cases hlt : i < n
    · obtain ⟨u, hu⟩ : ∃ u, items[i]? = some u := ⟨_, List.getElem?_eq_getElem (by rw [← HN.out]; exact hlt)⟩
      obtain ⟨y, hvy, hy⟩ := HIT.out wr hbW i u hu
      obtain ⟨ib', io', hA, _, e0, e1, e2, e3, e4, e5⟩ := elem_cells (HRD.out wr hbW) hy
      injection hA with hA
      injection hA with hA1 hA2
      subst hA1 hA2
      rw [itemsR_at false 0 true items names i u hu] at hS
      have him : i < m := by rw [HMM.out]; exact hlt
      obtain ⟨nm, hnm⟩ : ∃ nm, names[i]? = some nm := ⟨_, List.getElem?_eq_getElem (by rw [← HM.out.1]; omega)⟩
      have hnd : (names.drop i).headD [] = nm := by
        rw [List.drop_eq_getElem_cons (List.getElem?_eq_some_iff.1 hnm).1]
        exact (List.getElem?_eq_some_iff.1 hnm).2
      rw [hnd] at hS
      have n0 := (HND.out wr hbW).at rfl hnm (j := 0) (u := .string ⟨nm.toArray⟩) rfl
      simp [namK] at n0
      have n0' := (HND.out wr hbW).at rfl hnm (j := 0) (u := .string ⟨nm.toArray⟩) rfl
      have HPU := Lib.hid (fun w => rputStr_of nm (HM.out.2.2 _ (List.mem_of_getElem? hnm)) w)
      have hlen := congrArg List.length hS
      simp only [List.length_append] at hlen
      have hS9 : S.size ≤ 100000000000 := by have e : S.data.toList.length = S.size := rfl; have := HT9.out; omega
      have hu9 : (showT u).length ≤ 100000000000 := by have e : (txtT false (0 + 1) u).length = (showT u).length := rfl; have := HT9.out; omega
      have hsu : (⟨(showT u).toArray⟩ : ByteArray).size ≤ 100000000000 := by show (showT u).toArray.size ≤ _; simpa using hu9
      have hsn : (⟨(strT nm).toArray⟩ : ByteArray).size ≤ 10000 := by show (strT nm).toArray.size ≤ _; have := strT_le nm; have := HM.out.2.2 _ (List.mem_of_getElem? hnm); simp; omega
      have HTU := Lib.hid (fun (w : World) (h : VIs w u y) => HI.out u (List.mem_of_getElem? hu) y w h (OkT.item HO.out hu) hu9)
      clear hlen hu9
      have h44 : (⟨#[44]⟩ : ByteArray).size = 1 := rfl
      have hsc : (S ++ (⟨#[44]⟩ : ByteArray)).size ≤ 100000000001 := by rw [ByteArray.size_append, h44]; omega
      have h58 : (⟨#[58]⟩ : ByteArray).size = 1 := rfl
      have hn1 : ((⟨(strT nm).toArray⟩ : ByteArray) ++ (⟨#[58]⟩ : ByteArray)).size ≤ 10001 := by rw [ByteArray.size_append, h58]; omega
      have hn2 : (S ++ ((⟨(strT nm).toArray⟩ : ByteArray) ++ (⟨#[58]⟩ : ByteArray))).size ≤ 100000010001 := by rw [ByteArray.size_append]; omega
      have hn3 : (S ++ (⟨#[44]⟩ : ByteArray) ++ ((⟨(strT nm).toArray⟩ : ByteArray) ++ (⟨#[58]⟩ : ByteArray))).size ≤ 100000010002 := by rw [ByteArray.size_append]; omega
      have hb5 := below1 wr (.cells #[.int .i64 y.kd, .int .i64 y.fr, .int .i64 y.to, .string ⟨y.tx.toArray⟩, .slice y.A y.n y.c, .slice y.B y.m y.d] 27)
      have HV5 := Lib.hid (VIs.stay hb5 u y hvy)
      have hO5 := hO.over (.cells #[.int .i64 y.kd, .int .i64 y.fr, .int .i64 y.to, .string ⟨y.tx.toArray⟩, .slice y.A y.n y.c, .slice y.B y.m y.d] 27)
      have k0' := hO5.at 0
      simp at k0'
      have k5' := hO5.at 5
      simp at k5'
      have m0 := (HND.out _ (hbW.trans (hb5.mono hbW.size))).at rfl hnm (j := 0) (u := .string ⟨nm.toArray⟩) rfl
      simp [namK] at m0
      have HX := Lib.hid (And.intro hO5 (And.intro (Own.fresh wr 27 #[.int .i64 y.kd, .int .i64 y.fr, .int .i64 y.to, .string ⟨y.tx.toArray⟩, .slice y.A y.n y.c, .slice y.B y.m y.d]) trivial))
      have HB5 := Lib.hid (hbw.trans (hb5.mono hbw.size))
      have HS := Lib.hid hS
      clear hvy hbw hbW hO hO5 hS hb5
      by_cases h0 : i = 0
      · have hz0 : ¬ 0 < i := by omega
        have H0 := Lib.hid h0
        clear h0
        go_wp2_with (first
          | (go_at_call 14
             go_must (
               refine (HPU.out _).mono ?_
               rintro e w2 ⟨rfl, hb2⟩
               have z0 := (HX.out.1.stay hb2 HX.out.1.inside).at 0
               have hx2 := HX.out.2.1.stay hb2 HX.out.2.1.inside
               have x0 := hx2.at 0
               have x1 := hx2.at 1
               have x2 := hx2.at 2
               have x3 := hx2.at 3
               have x4 := hx2.at 4
               have x5 := hx2.at 5
               simp at z0 x0 x1 x2 x3 x4 x5
               have HV6 := Lib.hid (And.intro (VIs.stay hb2 u y HV5.out) (HB5.out.trans (hb2.mono HB5.out.size)))
               clear hb2 hx2))
          | (go_at_call 8
             go_must (
               refine (HTU.out _ HV6.out.1).mono ?_
               rintro e w3 ⟨rfl, hb3⟩
               have H3 := Lib.hid (HV6.out.2.trans (hb3.mono HV6.out.2.size))
               clear hb3)))
        go_roundw
        case rel =>
          refine ⟨i + 1, _, (by rw [← HN.out]; omega), (by go_num), rfl, ?_, H3.out⟩
          have := HS.out
          rw [if_pos H0.out] at this
          simp only [cat_list]
          simpa [nlT, txtT, nameTx, List.append_assoc] using this
        case measure => simp [intOf]; omega
      · have hz0 : 0 < i := by omega
        clear h0
        go_wp2_with (first
          | (go_at_call 14
             go_must (
               refine (HPU.out _).mono ?_
               rintro e w2 ⟨rfl, hb2⟩
               have z0 := (HX.out.1.stay hb2 HX.out.1.inside).at 0
               have hx2 := HX.out.2.1.stay hb2 HX.out.2.1.inside
               have x0 := hx2.at 0
               have x1 := hx2.at 1
               have x2 := hx2.at 2
               have x3 := hx2.at 3
               have x4 := hx2.at 4
               have x5 := hx2.at 5
               simp at z0 x0 x1 x2 x3 x4 x5
               have HV6 := Lib.hid (And.intro (VIs.stay hb2 u y HV5.out) (HB5.out.trans (hb2.mono HB5.out.size)))
               clear hb2 hx2))
          | (go_at_call 8
             go_must (
               refine (HTU.out _ HV6.out.1).mono ?_
               rintro e w3 ⟨rfl, hb3⟩
               have H3 := Lib.hid (HV6.out.2.trans (hb3.mono HV6.out.2.size))
               clear hb3)))
        go_roundw
        case rel =>
          refine ⟨i + 1, _, (by rw [← HN.out]; omega), (by go_num), rfl, ?_, H3.out⟩
          have := HS.out
          rw [if_neg (Nat.ne_of_gt hz0)] at this
          simp only [cat_list]
          simpa [nlT, txtT, nameTx, List.append_assoc] using this
        case measure => simp [intOf]; omega
    · have hin : i = n := by omega
      subst hin
      have k0 := hO.at 0
      simp at k0
      have hS9 : S.size ≤ 100000000000 := by have e : S.data.toList.length = S.size := rfl; have := congrArg List.length hS; rw [List.length_append] at this; have := HT9.out; omega
      have h91 : (⟨#[123]⟩ : ByteArray).size = 1 := rfl
      have h93 : (⟨#[125]⟩ : ByteArray).size = 1 := rfl
      have hse : ((⟨#[123]⟩ : ByteArray) ++ S).size ≤ 100000000001 := by rw [ByteArray.size_append, h91]; omega
      have HS := Lib.hid hS
      have HBW := Lib.hid hbW
      clear hS hbw hbW hO
      go_wp2
      go_ret
      have := HS.out
      rw [HN.out, List.drop_length] at this
      have e : S.data.toList = T := by rw [← this]; show _ = _ ++ []; rw [List.append_nil]
      have hfin : ((⟨#[123]⟩ : ByteArray) ++ S ++ (⟨#[125]⟩ : ByteArray)) = ⟨(123 :: (T ++ [125])).toArray⟩ := ba_ext (by simp [e])
      exact ⟨congrArg (fun s => Ending.returned (Value.string s)) hfin, HBW.out⟩
mutual
theorem rText_any : ∀ t : Tree, TextR t
  | .mk kd fr to' tx items names => by
    by_cases h3 : kd = 3
    · subst h3; exact rText_str _ rfl (by unfold showT; rfl)
    by_cases h4 : kd = 4
    · subst h4
      by_cases h0 : items.length = 0
      · exact rText_e4 fr to' tx items names h0
      · exact rText_4 fr to' tx items names (by omega) (rTexts items)
    by_cases h5 : kd = 5
    · subst h5
      by_cases h0 : items.length = 0
      · exact rText_e5 fr to' tx items names h0
      · exact rText_5 fr to' tx items names (by omega) (rTexts items)
    · exact rText_plain _ h3 h4 h5 (by unfold showT; rw [if_neg h3, if_neg h4, if_neg h5]; rfl)
theorem rTexts : ∀ ts : List Tree, ∀ u ∈ ts, TextR u
  | [], u, h => by cases h
  | t :: ts, u, h => by
    rcases List.mem_cons.1 h with e | h
    · rw [e]; exact rText_any t
    · exact rTexts ts u h
end

end Go.Proofs.Ytaklbbkjhbkieaa

namespace Go.Proofs.Ytaklbbkjhbkieaa
open Go.RowKit
set_option linter.unusedVariables false

def RelBk (W : World) (n : Nat) (wr : World) (s k : Value) : Prop := ∃ (i : Nat) (S : ByteArray), i ≤ n ∧ k = .int .i64 i ∧ s = .string S ∧ S.data.toList = newL i ∧ wr = W
set_option maxHeartbeats 4000000 in
set_option maxRecDepth 100000 in
theorem rblanks_any (n : Nat) (hn : n ≤ 1000000) (W : World) : Calls Try.prog 15 #[.int .i64 n] W fun e w' => e = .returned (.string ⟨(newL n).toArray⟩) ∧ W = w' := by
  go_enter Try.func15, Try.ntmps15
  go_wp2
  go_loop [3, 4] (fun s k => ∃ (i : Nat) (S : ByteArray), i ≤ n ∧ k = .int .i64 i ∧ s = .string S ∧ S.data.toList = newL i) (fun _ k => n - (intOf k).toNat)
  case atStart => exact ⟨0, ⟨#[10]⟩, Nat.zero_le _, rfl, rfl, rfl⟩
  case round =>
    obtain ⟨i, S, hi, rfl, rfl, hS⟩ := hrel
    have hS9 : S.size = i + 1 := by have e : S.data.toList.length = S.size := rfl; rw [hS, newL_length] at e; exact e.symm
    have h32 : (⟨#[32]⟩ : ByteArray).size = 1 := rfl
    have HS := Lib.hid hS
    clear hS
    by_cases hlt : i < n
    · go_wp2
      go_round
      case rel =>
        refine ⟨i + 1, _, by omega, by go_num, rfl, ?_⟩
        rw [cat_list, HS.out]
        unfold newL
        rw [List.replicate_succ']
        simp
      case measure => simp [intOf]; omega
    · obtain rfl : i = n := by omega
      go_wp2
      go_ret
      have hfin : S = ⟨(newL i).toArray⟩ := ba_ext (by rw [HS.out])
      exact ⟨congrArg (fun s => Ending.returned (Value.string s)) hfin, rfl⟩
theorem rblanks_of (n : Nat) (i : Int) (hi : i = n) (hn : n ≤ 1000000) (w : World) : Calls Try.prog 15 #[.int .i64 i] w fun e w' => e = .returned (.string ⟨(newL n).toArray⟩) ∧ Below w.heap.size w w' := by
  subst hi
  exact (rblanks_any n hn w).mono fun e w' ⟨h1, h2⟩ => ⟨h1, h2 ▸ Below.refl _ _⟩
theorem cnt_item {items : List Tree} {i : Nat} {u : Tree} (h : items[i]? = some u) : cntT u + 1 ≤ cntL items := by
  induction items generalizing i with
  | nil => cases h
  | cons t ts ih =>
    have e : cntL (t :: ts) = cntT t + 1 + cntL ts := rfl
    cases i with
    | zero =>
      obtain rfl : t = u := by simpa using h
      omega
    | succ i =>
      have := ih (i := i) (by simpa using h)
      omega
/-- The contract of the document's Lines for a value. -/
def LineR (t : Tree) : Prop := ∀ (x : V6) (W : World) (d : Nat), VIs W t x → OkT t → d + cntT t ≤ 100000 → (lineT d t).length ≤ 100000000000 → Calls Try.prog 10 #[.agg #[.int .i64 x.kd, .int .i64 x.fr, .int .i64 x.to, .string ⟨x.tx.toArray⟩, .slice x.A x.n x.c, .slice x.B x.m x.d], .int .i64 d] W
  fun e w' => e = .returned (.string ⟨(lineT d t).toArray⟩) ∧ Below W.heap.size W w'
def RelLi (W1 : World) (d : Nat) (obj : Bool) (items : List Tree) (names : List (List UInt8)) (T : List UInt8) (wr : World) (s k : Value) : Prop :=
  ∃ (i : Nat) (S : ByteArray), i ≤ items.length ∧ k = .int .i64 i ∧ s = .string S ∧ S.data.toList ++ itemsR true d obj (items.drop i) (names.drop i) (decide (i = 0)) = T ∧ Below W1.heap.size W1 wr
set_option maxHeartbeats 4000000 in
set_option maxRecDepth 100000 in
theorem rLine_none (t : Tree) (h0 : t.items.length = 0) : LineR t := by
  intro x W d hv hok hd hsz
  have hz : x.n = 0 := by obtain ⟨kd, fr, to', tx, items, names⟩ := t; rw [hv.many.1]; exact h0
  have hl : lineT d t = showT t := by
    obtain ⟨kd, fr, to', tx, items, names⟩ := t
    obtain rfl : items = [] := List.eq_nil_of_length_eq_zero h0
    unfold lineT
    rfl
  rw [hl] at hsz
  have HT := Lib.hid (fun (w : World) (h : VIs w t x) => rText_any t x w h hok hsz)
  have HV := Lib.hid (VIs.stay (below1 W (.cells #[.int .i64 x.kd, .int .i64 x.fr, .int .i64 x.to, .string ⟨x.tx.toArray⟩, .slice x.A x.n x.c, .slice x.B x.m x.d] 27)) t x hv)
  rw [hl]
  clear hv hok hd hl h0 hsz
  obtain ⟨xk, xf, xt, xx, xA, n, xc, xB, m, xd⟩ := x
  have hz : n = 0 := hz
  subst hz
  show Calls _ _ #[.agg #[.int .i64 xk, .int .i64 xf, .int .i64 xt, .string ⟨xx.toArray⟩, .slice xA 0 xc, .slice xB m xd], .int .i64 d] _ _
  go_enter Try.func10, Try.ntmps10
  go_wp2_with (
    go_at_call 8
    go_must (
      refine (HT.out _ HV.out).mono ?_
      rintro e w1 ⟨rfl, hb1⟩
      have H1 := Lib.hid ((below1 W _).trans (hb1.mono (by simp)))
      clear hb1))
  go_ret
  exact ⟨rfl, H1.out⟩

set_option maxHeartbeats 16000000 in
set_option maxRecDepth 100000 in
theorem rLine_4 (fr to' : Nat) (tx : List UInt8) (items : List Tree) (names : List (List UInt8)) (h0 : 0 < items.length) (ih : ∀ u ∈ items, LineR u) : LineR (.mk 4 fr to' tx items names) := by
  intro x W d hv hok hd hsz
  have hm := hv.many
  have hk : x.kd = 4 := vis_kd hv
  obtain ⟨hn5, _, hnn, hni⟩ := hok.parts
  obtain ⟨xs, h8, h9⟩ : ∃ xs, RdG valK W x.A x.n xs ∧ VLs W items xs := by unfold VIs at hv; obtain ⟨_, _, _, _, _, _, _, xs, h8, h9⟩ := hv; exact ⟨xs, h8, h9⟩
  have h7 : RdG namK W x.B x.m names := by unfold VIs at hv; exact hv.2.2.2.2.2.2.1
  have hcap : x.n ≤ x.c := by unfold VIs at hv; exact hv.2.2.2.2.1
  have hcap2 : x.m ≤ x.d := by unfold VIs at hv; exact hv.2.2.2.2.2.1
  obtain ⟨xk, xf, xt, xx, xA, n, xc, xB, m, xd⟩ := x
  obtain ⟨hmn, hmm⟩ := hm
  replace hmn : n = items.length := hmn
  replace hmm : m = names.length := hmm
  replace hk : xk = 4 := hk
  subst hk
  replace hcap : n ≤ xc := hcap
  replace hcap2 : m ≤ xd := hcap2
  replace h8 : RdG valK W xA n xs := h8
  replace h7 : RdG namK W xB m names := h7
  have hsh : lineT d (.mk 4 fr to' tx items names) = 91 :: (itemsR true d false items names true ++ (newL (2 * d) ++ [93])) := by
    cases items with
    | nil => exact absurd h0 (by simp)
    | cons u r => rw [items_lineA]; unfold lineT; rfl
  rw [hsh] at hsz
  rw [hsh]
  obtain ⟨ib, io, rfl, hib, _⟩ := h8.2 (by omega)
  have HIT := Lib.hid (fun (w : World) (hb : Below W.heap.size W w) (i : Nat) (u : Tree) (hu : items[i]? = some u) => show ∃ y, VIs w u y ∧ xs[i]? = some y from by
    obtain ⟨y, hy, hvy⟩ := h9.at i u hu
    exact ⟨y, VIs.stay hb u y hvy, hy⟩)
  have HRD := Lib.hid (fun (w : World) (hb : Below W.heap.size W w) => h8.below hb)
  obtain ⟨T, hTT⟩ : ∃ T, itemsR true d false items names true = T := ⟨_, rfl⟩
  rw [hTT] at hsz
  rw [hTT]
  have HT9 := Lib.hid (show T.length ≤ 100000000000 from by simp at hsz; omega)
  have HT := Lib.hid hTT
  have HM := Lib.hid (And.intro hmn hmm)
  have HN := Lib.hid hmn
  have HI := Lib.hid ih
  have HO := Lib.hid hok
  have hn9 : n ≤ 1000000 := by omega
  have hnz : ¬ n = 0 := by omega
  have hnzb : ((n : Int) == 0) = false := beq_eq_false_iff_ne.2 (by omega)
  have HD := Lib.hid (fun (u : Tree) {i : Nat} (hu : items[i]? = some u) => show d + 1 + cntT u ≤ 100000 from by have := cnt_item hu; have e : cntT (.mk 4 fr to' tx items names) = 1 + cntL items := rfl; omega)
  have hd9 : d ≤ 100000 := by omega
  clear hv hok h8 h9 h7 hsh hTT hd ih hmn hmm hn5 hnn hni h0 hsz
  show Calls _ _ #[.agg #[.int .i64 4, .int .i64 xf, .int .i64 xt, .string ⟨xx.toArray⟩, .slice (some ⟨ib, io, none⟩) n xc, .slice xB m xd], .int .i64 d] _ _
  go_enter Try.func10, Try.ntmps10
  go_upto_region 3 with fail
  change Code.wp _ _ _ _ (W.alloc (.cells #[.int .i64 4, .int .i64 xf, .int .i64 xt, .string ⟨xx.toArray⟩, .slice (some ⟨ib, io, none⟩) n xc, .slice xB m xd] 27))
  have hb0 := below1 W (.cells #[.int .i64 4, .int .i64 xf, .int .i64 xt, .string ⟨xx.toArray⟩, .slice (some ⟨ib, io, none⟩) n xc, .slice xB m xd] 27)
  have hO1 := Own.fresh W 27 #[.int .i64 4, .int .i64 xf, .int .i64 xt, .string ⟨xx.toArray⟩, .slice (some ⟨ib, io, none⟩) n xc, .slice xB m xd]
  generalize W.alloc (.cells #[.int .i64 4, .int .i64 xf, .int .i64 xt, .string ⟨xx.toArray⟩, .slice (some ⟨ib, io, none⟩) n xc, .slice xB m xd] 27) = W1 at hb0 hO1 ⊢
  have c4 := hO1.at 4
  simp at c4
  have HO1 := Lib.hid hO1
  have HB0 := Lib.hid hb0
  clear hb0 hO1
  go_wp2
  go_loopw [5, 17] (fun s k wr => RelLi W1 d false items names T wr s k) (fun _ k _ => n - (intOf k).toNat)
  case atStart => exact ⟨0, ByteArray.empty, Nat.zero_le _, rfl, rfl, HT.out, Below.refl _ _⟩
  case round =>
    obtain ⟨i, S, hi, rfl, rfl, hS, hbw⟩ := hrel
    have hi : i ≤ n := by rw [HN.out]; exact hi
    have hO := HO1.out.stay hbw HO1.out.inside
    have hbW := HB0.out.trans (hbw.mono HB0.out.size)
    by_cases hlt : i < n
    · obtain ⟨u, hu⟩ : ∃ u, items[i]? = some u := ⟨_, List.getElem?_eq_getElem (by rw [← HN.out]; exact hlt)⟩
      obtain ⟨y, hvy, hy⟩ := HIT.out wr hbW i u hu
      obtain ⟨ib', io', hA, _, e0, e1, e2, e3, e4, e5⟩ := elem_cells (HRD.out wr hbW) hy
      injection hA with hA
      injection hA with hA1 hA2
      subst hA1 hA2
      rw [itemsR_at true d false items names i u hu] at hS
      have hlen := congrArg List.length hS
      simp only [List.length_append] at hlen
      have hS9 : S.size ≤ 100000000000 := by have e : S.data.toList.length = S.size := rfl; have := HT9.out; omega
      have hu9 : (lineT (d + 1) u).length ≤ 100000000000 := by have e : (txtT true (d + 1) u).length = (lineT (d + 1) u).length := rfl; have := HT9.out; omega
      have hsu : (⟨(lineT (d + 1) u).toArray⟩ : ByteArray).size ≤ 100000000000 := by show (lineT (d + 1) u).toArray.size ≤ _; simpa using hu9
      have HTU := Lib.hid (fun (w : World) (h : VIs w u y) => HI.out u (List.mem_of_getElem? hu) y w (d + 1) h (OkT.item HO.out hu) (HD.out u hu) hu9)
      clear hlen hu9
      have h44 : (⟨#[44]⟩ : ByteArray).size = 1 := rfl
      have hsc : (S ++ (⟨#[44]⟩ : ByteArray)).size ≤ 100000000001 := by rw [ByteArray.size_append, h44]; omega
      have hnl : (⟨(newL (2 * d + 2)).toArray⟩ : ByteArray).size ≤ 300000 := by show (newL (2 * d + 2)).toArray.size ≤ _; simp [newL]; omega
      have hb1 : (S ++ (⟨(newL (2 * d + 2)).toArray⟩ : ByteArray)).size ≤ 100000300000 := by rw [ByteArray.size_append]; omega
      have hb2 : (S ++ (⟨#[44]⟩ : ByteArray) ++ (⟨(newL (2 * d + 2)).toArray⟩ : ByteArray)).size ≤ 100000300001 := by rw [ByteArray.size_append]; omega
      have hb5 := below1 wr (.cells #[.int .i64 y.kd, .int .i64 y.fr, .int .i64 y.to, .string ⟨y.tx.toArray⟩, .slice y.A y.n y.c, .slice y.B y.m y.d] 27)
      have HV5 := Lib.hid (VIs.stay hb5 u y hvy)
      have hO5 := hO.over (.cells #[.int .i64 y.kd, .int .i64 y.fr, .int .i64 y.to, .string ⟨y.tx.toArray⟩, .slice y.A y.n y.c, .slice y.B y.m y.d] 27)
      have k0' := hO5.at 0
      simp at k0'
      have HX := Lib.hid (And.intro hO5 (And.intro (Own.fresh wr 27 #[.int .i64 y.kd, .int .i64 y.fr, .int .i64 y.to, .string ⟨y.tx.toArray⟩, .slice y.A y.n y.c, .slice y.B y.m y.d]) trivial))
      have HB5 := Lib.hid (hbw.trans (hb5.mono hbw.size))
      have HS := Lib.hid hS
      clear hvy hbw hbW hO hO5 hS hb5
      have tok : True := trivial
      by_cases h0 : i = 0
      · have hz0 : ¬ 0 < i := by omega
        have H0 := Lib.hid h0
        clear h0
        go_wp2_with (first
          | (go_at_call 15
             clear tok
             go_must (
               refine (rblanks_of (2 * d + 2) _ (by omega) (by omega) _).mono ?_
               rintro e w7 ⟨rfl, hb7⟩
               have hO7 := HX.out.1.stay hb7 HX.out.1.inside
               have hx7 := HX.out.2.1.stay hb7 HX.out.2.1.inside
               have z0 := hO7.at 0
               have x0 := hx7.at 0
               have x1 := hx7.at 1
               have x2 := hx7.at 2
               have x3 := hx7.at 3
               have x4 := hx7.at 4
               have x5 := hx7.at 5
               simp at z0 x0 x1 x2 x3 x4 x5
               have HX7 := Lib.hid (And.intro hO7 hx7)
               have HV7 := Lib.hid (And.intro (VIs.stay hb7 u y HV5.out) (HB5.out.trans (hb7.mono HB5.out.size)))
               clear hb7 hO7 hx7))
          | (go_at_call 10
             go_must (
               refine (HTU.out _ HV7.out.1).mono ?_
               rintro e w3 ⟨rfl, hb3⟩
               have H3 := Lib.hid (HV7.out.2.trans (hb3.mono HV7.out.2.size))
               clear hb3)))
        go_roundw
        case rel =>
          refine ⟨i + 1, _, (by rw [← HN.out]; omega), (by go_num), rfl, ?_, H3.out⟩
          have := HS.out
          rw [if_pos H0.out] at this
          simp only [cat_list]
          simpa [nlT, txtT, nameTx, List.append_assoc, Nat.mul_add] using this
        case measure => simp [intOf]; omega
      · have hz0 : 0 < i := by omega
        clear h0
        go_wp2_with (first
          | (go_at_call 15
             clear tok
             go_must (
               refine (rblanks_of (2 * d + 2) _ (by omega) (by omega) _).mono ?_
               rintro e w7 ⟨rfl, hb7⟩
               have hO7 := HX.out.1.stay hb7 HX.out.1.inside
               have hx7 := HX.out.2.1.stay hb7 HX.out.2.1.inside
               have z0 := hO7.at 0
               have x0 := hx7.at 0
               have x1 := hx7.at 1
               have x2 := hx7.at 2
               have x3 := hx7.at 3
               have x4 := hx7.at 4
               have x5 := hx7.at 5
               simp at z0 x0 x1 x2 x3 x4 x5
               have HX7 := Lib.hid (And.intro hO7 hx7)
               have HV7 := Lib.hid (And.intro (VIs.stay hb7 u y HV5.out) (HB5.out.trans (hb7.mono HB5.out.size)))
               clear hb7 hO7 hx7))
          | (go_at_call 10
             go_must (
               refine (HTU.out _ HV7.out.1).mono ?_
               rintro e w3 ⟨rfl, hb3⟩
               have H3 := Lib.hid (HV7.out.2.trans (hb3.mono HV7.out.2.size))
               clear hb3)))
        go_roundw
        case rel =>
          refine ⟨i + 1, _, (by rw [← HN.out]; omega), (by go_num), rfl, ?_, H3.out⟩
          have := HS.out
          rw [if_neg (Nat.ne_of_gt hz0)] at this
          simp only [cat_list]
          simpa [nlT, txtT, nameTx, List.append_assoc, Nat.mul_add] using this
        case measure => simp [intOf]; omega
    · have hin : i = n := by omega
      subst hin
      have k0 := hO.at 0
      simp at k0
      have hS9 : S.size ≤ 100000000000 := by have e : S.data.toList.length = S.size := rfl; have := congrArg List.length hS; rw [List.length_append] at this; have := HT9.out; omega
      have hnl : (⟨(newL (2 * d)).toArray⟩ : ByteArray).size ≤ 300000 := by show (newL (2 * d)).toArray.size ≤ _; simp [newL]; omega
      have h91 : (⟨#[91]⟩ : ByteArray).size = 1 := rfl
      have h93 : (⟨#[93]⟩ : ByteArray).size = 1 := rfl
      have hs1 : (S ++ (⟨(newL (2 * d)).toArray⟩ : ByteArray)).size ≤ 100000300000 := by rw [ByteArray.size_append]; omega
      have hse : ((⟨#[91]⟩ : ByteArray) ++ (S ++ (⟨(newL (2 * d)).toArray⟩ : ByteArray))).size ≤ 100000300001 := by rw [ByteArray.size_append, h91]; omega
      have HS := Lib.hid hS
      have HBW := Lib.hid hbW
      have HO9 := Lib.hid hO
      clear hS hbw hbW hO
      go_wp2_with (
        go_at_call 15
        go_must (
          refine (rblanks_of (2 * d) _ (by omega) (by omega) _).mono ?_
          rintro e w7 ⟨rfl, hb7⟩
          have z0 := (HO9.out.stay hb7 HO9.out.inside).at 0
          simp at z0
          have HB7 := Lib.hid (HBW.out.trans (hb7.mono HBW.out.size))
          clear hb7))
      go_ret
      have := HS.out
      rw [HN.out, List.drop_length] at this
      have e : S.data.toList = T := by rw [← this]; show _ = _ ++ []; rw [List.append_nil]
      have hfin : ((⟨#[91]⟩ : ByteArray) ++ (S ++ (⟨(newL (2 * d)).toArray⟩ : ByteArray)) ++ (⟨#[93]⟩ : ByteArray)) = ⟨(91 :: (T ++ (newL (2 * d) ++ [93]))).toArray⟩ := ba_ext (by simp [e])
      exact ⟨congrArg (fun s => Ending.returned (Value.string s)) hfin, HB7.out⟩

set_option maxHeartbeats 16000000 in
set_option maxRecDepth 100000 in
theorem rLine_5 (fr to' : Nat) (tx : List UInt8) (items : List Tree) (names : List (List UInt8)) (h0 : 0 < items.length) (ih : ∀ u ∈ items, LineR u) : LineR (.mk 5 fr to' tx items names) := by
  intro x W d hv hok hd hsz
  have hm := hv.many
  have hk : x.kd = 5 := vis_kd hv
  obtain ⟨hn5, _, hnn, hni⟩ := hok.parts
  obtain ⟨xs, h8, h9⟩ : ∃ xs, RdG valK W x.A x.n xs ∧ VLs W items xs := by unfold VIs at hv; obtain ⟨_, _, _, _, _, _, _, xs, h8, h9⟩ := hv; exact ⟨xs, h8, h9⟩
  have h7 : RdG namK W x.B x.m names := by unfold VIs at hv; exact hv.2.2.2.2.2.2.1
  have hcap : x.n ≤ x.c := by unfold VIs at hv; exact hv.2.2.2.2.1
  have hcap2 : x.m ≤ x.d := by unfold VIs at hv; exact hv.2.2.2.2.2.1
  obtain ⟨xk, xf, xt, xx, xA, n, xc, xB, m, xd⟩ := x
  obtain ⟨hmn, hmm⟩ := hm
  replace hmn : n = items.length := hmn
  replace hmm : m = names.length := hmm
  replace hk : xk = 5 := hk
  subst hk
  replace hcap : n ≤ xc := hcap
  replace hcap2 : m ≤ xd := hcap2
  replace h8 : RdG valK W xA n xs := h8
  replace h7 : RdG namK W xB m names := h7
  have hsh : lineT d (.mk 5 fr to' tx items names) = 123 :: (itemsR true d true items names true ++ (newL (2 * d) ++ [125])) := by
    cases items with
    | nil => exact absurd h0 (by simp)
    | cons u r => rw [items_lineO]; unfold lineT; rfl
  rw [hsh] at hsz
  rw [hsh]
  obtain ⟨ib, io, rfl, hib, _⟩ := h8.2 (by omega)
  obtain ⟨nb, no, rfl, hnb, _⟩ := h7.2 (by have := hn5 rfl; omega)
  have HIT := Lib.hid (fun (w : World) (hb : Below W.heap.size W w) (i : Nat) (u : Tree) (hu : items[i]? = some u) => show ∃ y, VIs w u y ∧ xs[i]? = some y from by
    obtain ⟨y, hy, hvy⟩ := h9.at i u hu
    exact ⟨y, VIs.stay hb u y hvy, hy⟩)
  have HRD := Lib.hid (fun (w : World) (hb : Below W.heap.size W w) => h8.below hb)
  have HND := Lib.hid (fun (w : World) (hb : Below W.heap.size W w) => h7.below hb)
  obtain ⟨T, hTT⟩ : ∃ T, itemsR true d true items names true = T := ⟨_, rfl⟩
  rw [hTT] at hsz
  rw [hTT]
  have HT9 := Lib.hid (show T.length ≤ 100000000000 from by simp at hsz; omega)
  have HT := Lib.hid hTT
  have HM := Lib.hid (And.intro (show n = names.length from hmn.trans (hn5 rfl).symm) (And.intro hmn hnn))
  have HN := Lib.hid hmn
  have HMM := Lib.hid (show m = n from (hmm.trans (hn5 rfl)).trans hmn.symm)
  have HI := Lib.hid ih
  have HO := Lib.hid hok
  have hn9 : n ≤ 1000000 := by omega
  have hnz : ¬ n = 0 := by omega
  have hnzb : ((n : Int) == 0) = false := beq_eq_false_iff_ne.2 (by omega)
  have HD := Lib.hid (fun (u : Tree) {i : Nat} (hu : items[i]? = some u) => show d + 1 + cntT u ≤ 100000 from by have := cnt_item hu; have e : cntT (.mk 5 fr to' tx items names) = 1 + cntL items := rfl; omega)
  have hd9 : d ≤ 100000 := by omega
  clear hv hok h8 h9 h7 hsh hTT hd ih hmn hmm hn5 hnn hni h0 hsz
  show Calls _ _ #[.agg #[.int .i64 5, .int .i64 xf, .int .i64 xt, .string ⟨xx.toArray⟩, .slice (some ⟨ib, io, none⟩) n xc, .slice (some ⟨nb, no, none⟩) m xd], .int .i64 d] _ _
  go_enter Try.func10, Try.ntmps10
  go_upto_region 3 with fail
  change Code.wp _ _ _ _ (W.alloc (.cells #[.int .i64 5, .int .i64 xf, .int .i64 xt, .string ⟨xx.toArray⟩, .slice (some ⟨ib, io, none⟩) n xc, .slice (some ⟨nb, no, none⟩) m xd] 27))
  have hb0 := below1 W (.cells #[.int .i64 5, .int .i64 xf, .int .i64 xt, .string ⟨xx.toArray⟩, .slice (some ⟨ib, io, none⟩) n xc, .slice (some ⟨nb, no, none⟩) m xd] 27)
  have hO1 := Own.fresh W 27 #[.int .i64 5, .int .i64 xf, .int .i64 xt, .string ⟨xx.toArray⟩, .slice (some ⟨ib, io, none⟩) n xc, .slice (some ⟨nb, no, none⟩) m xd]
  generalize W.alloc (.cells #[.int .i64 5, .int .i64 xf, .int .i64 xt, .string ⟨xx.toArray⟩, .slice (some ⟨ib, io, none⟩) n xc, .slice (some ⟨nb, no, none⟩) m xd] 27) = W1 at hb0 hO1 ⊢
  have c4 := hO1.at 4
  simp at c4
  have HO1 := Lib.hid hO1
  have HB0 := Lib.hid hb0
  clear hb0 hO1
  go_wp2
  go_loopw [5, 17] (fun s k wr => RelLi W1 d true items names T wr s k) (fun _ k _ => n - (intOf k).toNat)
  case atStart => exact ⟨0, ByteArray.empty, Nat.zero_le _, rfl, rfl, HT.out, Below.refl _ _⟩
  case round =>
    obtain ⟨i, S, hi, rfl, rfl, hS, hbw⟩ := hrel
    have hi : i ≤ n := by rw [HN.out]; exact hi
    have hO := HO1.out.stay hbw HO1.out.inside
    have hbW := HB0.out.trans (hbw.mono HB0.out.size)
    by_cases hlt : i < n
    · obtain ⟨u, hu⟩ : ∃ u, items[i]? = some u := ⟨_, List.getElem?_eq_getElem (by rw [← HN.out]; exact hlt)⟩
      obtain ⟨y, hvy, hy⟩ := HIT.out wr hbW i u hu
      obtain ⟨ib', io', hA, _, e0, e1, e2, e3, e4, e5⟩ := elem_cells (HRD.out wr hbW) hy
      injection hA with hA
      injection hA with hA1 hA2
      subst hA1 hA2
      rw [itemsR_at true d true items names i u hu] at hS
      have him : i < m := by rw [HMM.out]; exact hlt
      obtain ⟨nm, hnm⟩ : ∃ nm, names[i]? = some nm := ⟨_, List.getElem?_eq_getElem (by rw [← HM.out.1]; omega)⟩
      have hnd : (names.drop i).headD [] = nm := by
        rw [List.drop_eq_getElem_cons (List.getElem?_eq_some_iff.1 hnm).1]
        exact (List.getElem?_eq_some_iff.1 hnm).2
      rw [hnd] at hS
      have n0 := (HND.out wr hbW).at rfl hnm (j := 0) (u := .string ⟨nm.toArray⟩) rfl
      simp [namK] at n0
      have n0' := (HND.out wr hbW).at rfl hnm (j := 0) (u := .string ⟨nm.toArray⟩) rfl
      have HPU := Lib.hid (fun w => rputStr_of nm (HM.out.2.2 _ (List.mem_of_getElem? hnm)) w)
      have hlen := congrArg List.length hS
      simp only [List.length_append] at hlen
      have hS9 : S.size ≤ 100000000000 := by have e : S.data.toList.length = S.size := rfl; have := HT9.out; omega
      have hu9 : (lineT (d + 1) u).length ≤ 100000000000 := by have e : (txtT true (d + 1) u).length = (lineT (d + 1) u).length := rfl; have := HT9.out; omega
      have hsu : (⟨(lineT (d + 1) u).toArray⟩ : ByteArray).size ≤ 100000000000 := by show (lineT (d + 1) u).toArray.size ≤ _; simpa using hu9
      have hsn : (⟨(strT nm).toArray⟩ : ByteArray).size ≤ 10000 := by show (strT nm).toArray.size ≤ _; have := strT_le nm; have := HM.out.2.2 _ (List.mem_of_getElem? hnm); simp; omega
      have HTU := Lib.hid (fun (w : World) (h : VIs w u y) => HI.out u (List.mem_of_getElem? hu) y w (d + 1) h (OkT.item HO.out hu) (HD.out u hu) hu9)
      clear hlen hu9
      have h44 : (⟨#[44]⟩ : ByteArray).size = 1 := rfl
      have hsc : (S ++ (⟨#[44]⟩ : ByteArray)).size ≤ 100000000001 := by rw [ByteArray.size_append, h44]; omega
      have hnl : (⟨(newL (2 * d + 2)).toArray⟩ : ByteArray).size ≤ 300000 := by show (newL (2 * d + 2)).toArray.size ≤ _; simp [newL]; omega
      have hb1 : (S ++ (⟨(newL (2 * d + 2)).toArray⟩ : ByteArray)).size ≤ 100000300000 := by rw [ByteArray.size_append]; omega
      have hb2 : (S ++ (⟨#[44]⟩ : ByteArray) ++ (⟨(newL (2 * d + 2)).toArray⟩ : ByteArray)).size ≤ 100000300001 := by rw [ByteArray.size_append]; omega
      have h58 : (⟨#[58, 32]⟩ : ByteArray).size = 2 := rfl
      have hn1 : ((⟨(strT nm).toArray⟩ : ByteArray) ++ (⟨#[58, 32]⟩ : ByteArray)).size ≤ 10002 := by rw [ByteArray.size_append, h58]; omega
      have hn2 : (S ++ (⟨(newL (2 * d + 2)).toArray⟩ : ByteArray) ++ ((⟨(strT nm).toArray⟩ : ByteArray) ++ (⟨#[58, 32]⟩ : ByteArray))).size ≤ 100000310002 := by rw [ByteArray.size_append]; omega
      have hn3 : (S ++ (⟨#[44]⟩ : ByteArray) ++ (⟨(newL (2 * d + 2)).toArray⟩ : ByteArray) ++ ((⟨(strT nm).toArray⟩ : ByteArray) ++ (⟨#[58, 32]⟩ : ByteArray))).size ≤ 100000310003 := by rw [ByteArray.size_append]; omega
      have hb5 := below1 wr (.cells #[.int .i64 y.kd, .int .i64 y.fr, .int .i64 y.to, .string ⟨y.tx.toArray⟩, .slice y.A y.n y.c, .slice y.B y.m y.d] 27)
      have HV5 := Lib.hid (VIs.stay hb5 u y hvy)
      have hO5 := hO.over (.cells #[.int .i64 y.kd, .int .i64 y.fr, .int .i64 y.to, .string ⟨y.tx.toArray⟩, .slice y.A y.n y.c, .slice y.B y.m y.d] 27)
      have k0' := hO5.at 0
      simp at k0'
      have k5' := hO5.at 5
      simp at k5'
      have m0 := (HND.out _ (hbW.trans (hb5.mono hbW.size))).at rfl hnm (j := 0) (u := .string ⟨nm.toArray⟩) rfl
      simp [namK] at m0
      have HBW := Lib.hid hbW
      have HX := Lib.hid (And.intro hO5 (And.intro (Own.fresh wr 27 #[.int .i64 y.kd, .int .i64 y.fr, .int .i64 y.to, .string ⟨y.tx.toArray⟩, .slice y.A y.n y.c, .slice y.B y.m y.d]) trivial))
      have HB5 := Lib.hid (hbw.trans (hb5.mono hbw.size))
      have HS := Lib.hid hS
      clear hvy hbw hbW hO hO5 hS hb5
      have tok : True := trivial
      by_cases h0 : i = 0
      · have hz0 : ¬ 0 < i := by omega
        have H0 := Lib.hid h0
        clear h0
        go_wp2_with (first
          | (go_at_call 15
             clear tok
             go_must (
               refine (rblanks_of (2 * d + 2) _ (by omega) (by omega) _).mono ?_
               rintro e w7 ⟨rfl, hb7⟩
               have hO7 := HX.out.1.stay hb7 HX.out.1.inside
               have hx7 := HX.out.2.1.stay hb7 HX.out.2.1.inside
               have z0 := hO7.at 0
               have x0 := hx7.at 0
               have x1 := hx7.at 1
               have x2 := hx7.at 2
               have x3 := hx7.at 3
               have x4 := hx7.at 4
               have x5 := hx7.at 5
               simp at z0 x0 x1 x2 x3 x4 x5
               have z5 := hO7.at 5
               have hbW7 := HBW.out.trans ((below1 wr (.cells #[.int .i64 y.kd, .int .i64 y.fr, .int .i64 y.to, .string ⟨y.tx.toArray⟩, .slice y.A y.n y.c, .slice y.B y.m y.d] 27)).mono HBW.out.size)
               have m7 := (HND.out w7 (hbW7.trans (hb7.mono hbW7.size))).at rfl hnm (j := 0) (u := .string ⟨nm.toArray⟩) rfl
               simp [namK] at m7 z5
               have HX7 := Lib.hid (And.intro hO7 hx7)
               have HV7 := Lib.hid (And.intro (VIs.stay hb7 u y HV5.out) (HB5.out.trans (hb7.mono HB5.out.size)))
               clear hb7 hO7 hx7))
          | (go_at_call 14
             go_must (
               refine (HPU.out _).mono ?_
               rintro e w2 ⟨rfl, hb2⟩
               have hx2 := HX7.out.2.stay hb2 HX7.out.2.inside
               have X0 := hx2.at 0
               have X1 := hx2.at 1
               have X2 := hx2.at 2
               have X3 := hx2.at 3
               have X4 := hx2.at 4
               have X5 := hx2.at 5
               simp at X0 X1 X2 X3 X4 X5
               have HV6 := Lib.hid (And.intro (VIs.stay hb2 u y HV7.out.1) (HV7.out.2.trans (hb2.mono HV7.out.2.size)))
               clear hb2 hx2))
          | (go_at_call 10
             go_must (
               refine (HTU.out _ HV6.out.1).mono ?_
               rintro e w3 ⟨rfl, hb3⟩
               have H3 := Lib.hid (HV6.out.2.trans (hb3.mono HV6.out.2.size))
               clear hb3)))
        go_roundw
        case rel =>
          refine ⟨i + 1, _, (by rw [← HN.out]; omega), (by go_num), rfl, ?_, H3.out⟩
          have := HS.out
          rw [if_pos H0.out] at this
          simp only [cat_list]
          simpa [nlT, txtT, nameTx, List.append_assoc, Nat.mul_add] using this
        case measure => simp [intOf]; omega
      · have hz0 : 0 < i := by omega
        clear h0
        go_wp2_with (first
          | (go_at_call 15
             clear tok
             go_must (
               refine (rblanks_of (2 * d + 2) _ (by omega) (by omega) _).mono ?_
               rintro e w7 ⟨rfl, hb7⟩
               have hO7 := HX.out.1.stay hb7 HX.out.1.inside
               have hx7 := HX.out.2.1.stay hb7 HX.out.2.1.inside
               have z0 := hO7.at 0
               have x0 := hx7.at 0
               have x1 := hx7.at 1
               have x2 := hx7.at 2
               have x3 := hx7.at 3
               have x4 := hx7.at 4
               have x5 := hx7.at 5
               simp at z0 x0 x1 x2 x3 x4 x5
               have z5 := hO7.at 5
               have hbW7 := HBW.out.trans ((below1 wr (.cells #[.int .i64 y.kd, .int .i64 y.fr, .int .i64 y.to, .string ⟨y.tx.toArray⟩, .slice y.A y.n y.c, .slice y.B y.m y.d] 27)).mono HBW.out.size)
               have m7 := (HND.out w7 (hbW7.trans (hb7.mono hbW7.size))).at rfl hnm (j := 0) (u := .string ⟨nm.toArray⟩) rfl
               simp [namK] at m7 z5
               have HX7 := Lib.hid (And.intro hO7 hx7)
               have HV7 := Lib.hid (And.intro (VIs.stay hb7 u y HV5.out) (HB5.out.trans (hb7.mono HB5.out.size)))
               clear hb7 hO7 hx7))
          | (go_at_call 14
             go_must (
               refine (HPU.out _).mono ?_
               rintro e w2 ⟨rfl, hb2⟩
               have hx2 := HX7.out.2.stay hb2 HX7.out.2.inside
               have X0 := hx2.at 0
               have X1 := hx2.at 1
               have X2 := hx2.at 2
               have X3 := hx2.at 3
               have X4 := hx2.at 4
               have X5 := hx2.at 5
               simp at X0 X1 X2 X3 X4 X5
               have HV6 := Lib.hid (And.intro (VIs.stay hb2 u y HV7.out.1) (HV7.out.2.trans (hb2.mono HV7.out.2.size)))
               clear hb2 hx2))
          | (go_at_call 10
             go_must (
               refine (HTU.out _ HV6.out.1).mono ?_
               rintro e w3 ⟨rfl, hb3⟩
               have H3 := Lib.hid (HV6.out.2.trans (hb3.mono HV6.out.2.size))
               clear hb3)))
        go_roundw
        case rel =>
          refine ⟨i + 1, _, (by rw [← HN.out]; omega), (by go_num), rfl, ?_, H3.out⟩
          have := HS.out
          rw [if_neg (Nat.ne_of_gt hz0)] at this
          simp only [cat_list]
          simpa [nlT, txtT, nameTx, List.append_assoc, Nat.mul_add] using this
        case measure => simp [intOf]; omega
    · have hin : i = n := by omega
      subst hin
      have k0 := hO.at 0
      simp at k0
      have hS9 : S.size ≤ 100000000000 := by have e : S.data.toList.length = S.size := rfl; have := congrArg List.length hS; rw [List.length_append] at this; have := HT9.out; omega
      have hnl : (⟨(newL (2 * d)).toArray⟩ : ByteArray).size ≤ 300000 := by show (newL (2 * d)).toArray.size ≤ _; simp [newL]; omega
      have h91 : (⟨#[123]⟩ : ByteArray).size = 1 := rfl
      have h93 : (⟨#[125]⟩ : ByteArray).size = 1 := rfl
      have hs1 : (S ++ (⟨(newL (2 * d)).toArray⟩ : ByteArray)).size ≤ 100000300000 := by rw [ByteArray.size_append]; omega
      have hse : ((⟨#[123]⟩ : ByteArray) ++ (S ++ (⟨(newL (2 * d)).toArray⟩ : ByteArray))).size ≤ 100000300001 := by rw [ByteArray.size_append, h91]; omega
      have HS := Lib.hid hS
      have HBW := Lib.hid hbW
      have HO9 := Lib.hid hO
      clear hS hbw hbW hO
      go_wp2_with (
        go_at_call 15
        go_must (
          refine (rblanks_of (2 * d) _ (by omega) (by omega) _).mono ?_
          rintro e w7 ⟨rfl, hb7⟩
          have z0 := (HO9.out.stay hb7 HO9.out.inside).at 0
          simp at z0
          have HB7 := Lib.hid (HBW.out.trans (hb7.mono HBW.out.size))
          clear hb7))
      go_ret
      have := HS.out
      rw [HN.out, List.drop_length] at this
      have e : S.data.toList = T := by rw [← this]; show _ = _ ++ []; rw [List.append_nil]
      have hfin : ((⟨#[123]⟩ : ByteArray) ++ (S ++ (⟨(newL (2 * d)).toArray⟩ : ByteArray)) ++ (⟨#[125]⟩ : ByteArray)) = ⟨(123 :: (T ++ (newL (2 * d) ++ [125]))).toArray⟩ := ba_ext (by simp [e])
      exact ⟨congrArg (fun s => Ending.returned (Value.string s)) hfin, HB7.out⟩

mutual
theorem rLine_any : ∀ t : Tree, LineR t
  | .mk kd fr to' tx items names => by
    by_cases h0 : items.length = 0
    · exact rLine_none _ h0
    by_cases h4 : kd = 4
    · subst h4
      exact rLine_4 fr to' tx items names (by omega) (rLines items)
    by_cases h5 : kd = 5
    · subst h5
      exact rLine_5 fr to' tx items names (by omega) (rLines items)
    · intro x W d hv hok hd _
      have := hok.parts.2.1 (by omega)
      exact absurd (by rw [this]; rfl) h0
theorem rLines : ∀ ts : List Tree, ∀ u ∈ ts, LineR u
  | [], u, h => by cases h
  | t :: ts, u, h => by
    rcases List.mem_cons.1 h with e | h
    · rw [e]; exact rLine_any t
    · exact rLines ts u h
end

end Go.Proofs.Ytaklbbkjhbkieaa
