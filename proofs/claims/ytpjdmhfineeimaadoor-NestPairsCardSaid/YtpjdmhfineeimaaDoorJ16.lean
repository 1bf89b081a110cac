/- The walk of NestPairs, over what the program's nest is proved to do. -/
import Derived.Test.YtpjdmhfineeimaaDoorJ09
import Derived.Test.YtpjdmhfineeimaaDoorJ15
import Derived.Deep.DeepMust
import Derived.Deep.CutRange
import Derived.Deep.LoopGhost
namespace Go.Proofs.YtpjdmhfineeimaaDoor
open Go.RowKit
set_option linter.unusedVariables false

def manyLe (n : Nst) (k : Nat) : Prop := ∀ o ∈ n.op, o.many ≤ k
theorem takeN_many (n : Nst) (t : Tok) (k : Nat) (h : manyLe n k) : manyLe (takeN n t).1 (k + 1) := by
  have same : ∀ l : List Opn, (∀ o ∈ l, o.many ≤ k) → ∀ o ∈ l, o.many ≤ k + 1 := fun l h o ho => Nat.le_succ_of_le (h o ho)
  have more : ∀ l : List Opn, (∀ o ∈ l, o.many ≤ k) → ∀ o ∈ moreO l, o.many ≤ k + 1 := fun l h o ho => by
    cases l with
    | nil => cases ho
    | cons q r =>
      rcases List.mem_cons.1 ho with rfl | ho
      · have := h q (by simp); show q.many + 1 ≤ k + 1; omega
      · exact Nat.le_succ_of_le (h o (by simp [ho]))
  have name : ∀ (s : List UInt8) (l : List Opn), (∀ o ∈ l, o.many ≤ k) → ∀ o ∈ nameO s l, o.many ≤ k + 1 := fun s l h o ho => by
    cases l with
    | nil => cases ho
    | cons q r =>
      rcases List.mem_cons.1 ho with rfl | ho
      · exact Nat.le_succ_of_le (h q (by simp))
      · exact Nat.le_succ_of_le (h o (by simp [ho]))
  unfold takeN
  split
  · obtain ⟨most, op, may, begun, came⟩ := n
    have h : ∀ o ∈ op, o.many ≤ k := h
    have tail : ∀ (o : Opn) (r : List Opn), op = o :: r → ∀ x ∈ r, x.many ≤ k := fun o r e x hx => h x (by rw [e]; simp [hx])
    have push : ∀ x : Opn, x.many = 0 → ∀ o ∈ x :: op, o.many ≤ k + 1 := fun x hx o ho => by
      rcases List.mem_cons.1 ho with rfl | ho
      · omega
      · exact same op h o ho
    unfold takeO
    cases may <;> cases op <;> simp only [] <;> (repeat' split) <;> first
      | exact same _ h
      | exact push _ rfl
      | exact more _ (tail _ _ rfl)
  · split
    · exact name _ _ h
    · exact more _ h

theorem cts_le (n : Nst) (p : Option (Int × Nat)) (k : Nat) (h : manyLe n k) : ∀ x ∈ cts n p, x ≤ k + 1 := by
  have hF : ∀ (l : List Opn) (c : Nat), c ≤ 1 → (∀ o ∈ l, o.many ≤ k) → ∀ x ∈ ctF c l, x ≤ k + 1 := by
    intro l
    induction l with
    | nil => intro c hc _ x hx; simp [ctF] at hx; omega
    | cons o r ih =>
      intro c hc ho x hx
      rcases List.mem_cons.1 hx with rfl | hx
      · have := ho o (by simp); omega
      · exact ih 1 (Nat.le_refl _) (fun q hq => ho q (by simp [hq])) x hx
  intro x hx
  rcases List.mem_append.1 hx with hx | hx
  · refine hF n.op (cB n p) ?_ h x (List.mem_reverse.1 hx)
    unfold cB
    split <;> omega
  · obtain ⟨_, _, rfl⟩ := List.mem_map.1 hx
    omega

theorem takeN_most (n : Nst) (t : Tok) : (takeN n t).1.most = n.most := by
  unfold takeN
  split
  · obtain ⟨most, op, may, begun, came⟩ := n
    unfold takeO
    cases may <;> cases op <;> simp only [] <;> (repeat' split) <;> rfl
  · split <;> rfl

theorem evs_len (n : Nst) (p : Option (Int × Nat)) : (evs n p).length ≤ n.op.length + 1 := by
  have : (evP n p).length ≤ 1 := by
    cases p with
    | none => simp [evP]
    | some kf =>
      show (if n.may.val then [(⟨1, beginK kf.1, kf.2, 0, stepO n.op, []⟩ : Evt)] else []).length ≤ 1
      split <;> simp
  simp [evs]
  exact this

/-- What the program's nest does. -/
structure NestC where
  St : World → Nat → (Nat → Prop) → Nst → Prop
  has : ∀ {w b F n}, St w b F n → F b ∧ b < w.heap.size
  mono : ∀ {w b F G n}, St w b F n → (∀ j, j < w.heap.size → F j → G j) → St w b G n
  stay : ∀ {w w' b F G n}, St w b F n → Touch G w w' → (∀ j, j < w.heap.size → F j → ¬ G j) → St w' b F n
  new : ∀ (d : Int) (w : World), -1000000 ≤ d → d ≤ 1000000 → Calls Tryd.prog 5 #[.int .i64 d] w fun e w' => ∃ b, e = .returned (.pointer (some ⟨b, 0, none⟩)) ∧ St w' b (fun j => w.heap.size ≤ j) (newN d) ∧ Below w.heap.size w w'
  take : ∀ (w : World) (b : Nat) (F : Nat → Prop) (n : Nst) (s : Nat × Option Nat) (p : Option (Int × Nat)) (t : Tok), InvN n s p → okW p t → t.fr ≤ 1000000 → t.to ≤ 1000000 → manyLe n 1000000 → n.op.length ≤ 4990 → Tab w → ¬ F 0 → (∀ j, F j → j < w.heap.size) → St w b F n →
    Calls Tryd.prog 7 #[.pointer (some ⟨b, 0, none⟩), .agg (tokCells t).toArray] w fun e w' => ∃ v, e = .returned (.tuple #[v, .int .i64 (takeN n t).2.2]) ∧ GRow evK w' w.heap.size v (takeN n t).2.1 ∧ Touch F w w' ∧ St w' b (fun j => F j ∨ w.heap.size ≤ j) (takeN n t).1
  depth : ∀ (w : World) (b : Nat) (F : Nat → Prop) (n : Nst), St w b F n → Calls Tryd.prog 8 #[.pointer (some ⟨b, 0, none⟩)] w fun e w' => e = .returned (.int .i64 n.op.length) ∧ Below w.heap.size w w'
  done : ∀ (w : World) (b : Nat) (F : Nat → Prop) (n : Nst), St w b F n → Calls Tryd.prog 9 #[.pointer (some ⟨b, 0, none⟩)] w fun e w' => e = .returned (.bool n.may.isNothing) ∧ Below w.heap.size w w'

/-- What holds at NestPairs' loop over tokens. -/
structure AtTok (C : NestC) (l : List UInt8) (ts : List Tok) (sE : Nat × Option Nat) (pE : Option (Int × Nat)) (W w2 wr : World) (bt b0 B most : Nat) (vO vC : Value) (k : Nat) (s : Nat × Option Nat) (p : Option (Int × Nat)) (n : Nst) (F : Nat → Prop) : Prop where
  le : k ≤ ts.length
  inv : InvN n s p
  many : manyLe n k
  st : C.St wr b0 F n
  bnd : ∀ j, F j → W.heap.size ≤ j ∧ j < wr.heap.size ∧ j ≠ bt
  rowO : GRow evK wr B vO (evs n p)
  rowC : GRow ctK wr B vC (cts n p)
  offO : ∀ g, vO.ownBlock = some g → ¬ F g ∧ vC.ownBlock ≠ some g
  offC : ∀ g, vC.ownBlock = some g → ¬ F g
  bel : Below W.heap.size W wr
  toks : wr.heap[bt]? = w2.heap[bt]?
  spans : Spans l (ts.drop k) s sE
  wf : WfTo (ts.drop k) p pE
  mst : n.most = most

end Go.Proofs.YtpjdmhfineeimaaDoor

namespace Go.Proofs.YtpjdmhfineeimaaDoor
open Go.RowKit
set_option linter.unusedVariables false

/-- Tokens, one by one: where one is then, the events, and whether no fault came. -/
def runN : Nst → List Tok → Nst × List Evt × Bool
  | n, [] => (n, [], true)
  | n, t :: ts => ((runN (takeN n t).1 ts).1, (takeN n t).2.1 ++ (runN (takeN n t).1 ts).2.1, decide ((takeN n t).2.2 = 0) && (runN (takeN n t).1 ts).2.2)

/-- What holds at nestAlive's loop over tokens. -/
structure AtAl (C : NestC) (l : List UInt8) (ts : List Tok) (sE : Nat × Option Nat) (pE : Option (Int × Nat)) (nE : Nst) (all : List Evt) (W w2 wr : World) (bt b0 B : Nat) (vO : Value) (k : Nat) (s : Nat × Option Nat) (p : Option (Int × Nat)) (n : Nst) (F : Nat → Prop) (E rest : List Evt) : Prop where
  le : k ≤ ts.length
  inv : InvN n s p
  many : manyLe n k
  most : n.most = 3
  st : C.St wr b0 F n
  bnd : ∀ j, F j → W.heap.size ≤ j ∧ j < wr.heap.size ∧ j ≠ bt
  row : GRow evK wr B vO E
  few : E.length ≤ k
  big : B ≤ wr.heap.size
  off : ∀ g, vO.ownBlock = some g → ¬ F g
  bel : Below W.heap.size W wr
  toks : wr.heap[bt]? = w2.heap[bt]?
  spans : Spans l (ts.drop k) s sE
  wf : WfTo (ts.drop k) p pE
  run : runN n (ts.drop k) = (nE, rest, true)
  sum : E ++ rest = all
def RelAn (C : NestC) (l : List UInt8) (ts : List Tok) (sE : Nat × Option Nat) (pE : Option (Int × Nat)) (nE : Nst) (all : List Evt) (W w2 : World) (bt b0 B : Nat) (vO vi : Value) (wr : World) : Prop :=
  ∃ k s p n F E rest, vi = .int .i64 (k : Nat) ∧ AtAl C l ts sE pE nE all W w2 wr bt b0 B vO k s p n F E rest

/-- Behind Take, and the events appended. -/
theorem AtAl.next {C : NestC} {l : List UInt8} {ts : List Tok} {sE : Nat × Option Nat} {pE : Option (Int × Nat)} {nE : Nst} {all : List Evt} {W w2 wr w5 w6 : World} {bt b0 B k : Nat} {vO vO' : Value} {s : Nat × Option Nat} {p : Option (Int × Nat)} {n n' : Nst} {F : Nat → Prop} {E rest es : List Evt} {ob : Obj} {t : Tok}
    (h : AtAl C l ts sE pE nE all W w2 wr bt b0 B vO k s p n F E rest) (ht : ts[k]? = some t) (he : takeN n t = (n', es, 0)) (hlt : bt < wr.heap.size) (hW : W.heap.size ≤ wr.heap.size)
    (htch : Touch F (wr.alloc ob) w5) (hs : C.St w5 b0 (fun j => F j ∨ (wr.alloc ob).heap.size ≤ j) n') (hB : W.heap.size ≤ B)
    (hrow : GRow evK w6 B vO' (E ++ es)) (hg : w5.grownBy w6 vO.ownBlock) (ho : vO'.ownBlock = vO.ownBlock ∨ vO'.ownBlock = some w5.heap.size) (hne : ∀ g, vO.ownBlock = some g → g ≠ bt) :
    ∃ F' rest', AtAl C l ts sE pE nE all W w2 w6 bt b0 B vO' (k + 1) (nextTok s t) (nextW t) n' F' (E ++ es) rest' := by
  have hk : k < ts.length := (List.getElem?_eq_some_iff.1 ht).1
  have htk : ts[k] = t := by rw [List.getElem?_eq_getElem hk] at ht; exact Option.some.inj ht
  have hsp := h.spans
  have hwf := h.wf
  have hru := h.run
  rw [List.drop_eq_getElem_cons hk, htk] at hsp hwf hru
  obtain ⟨hok, hsp⟩ := hsp
  obtain ⟨hokw, hwf⟩ := hwf
  have hto := takeN_ok l n s p t h.inv hok hokw (by rw [he])
  rw [he] at hto
  obtain ⟨hinv, _⟩ := hto
  have hmn := takeN_many n t k h.many
  rw [he] at hmn
  have hms := (takeN_most n t).trans h.most
  rw [he] at hms
  have hle := (takeN_one n t).2
  rw [he] at hle
  simp only [runN, he] at hru
  injection hru with hru1 hru2
  injection hru2 with hru2 hru3
  have e1 : (wr.alloc ob).heap.size = wr.heap.size + 1 := by simp
  have hz := htch.size
  have hb1 := below1 wr ob
  have ft : ∀ j, j < wr.heap.size → ¬ F j → w5.heap[j]? = wr.heap[j]? := fun j hj hn => (htch.block j (by omega) hn).trans (hb1.block j hj)
  have hz6 := hg.size
  have hFo : ∀ g, vO.ownBlock = some g → ¬ (F g ∨ (wr.alloc ob).heap.size ≤ g) := fun g hg hh => by
    have := (h.row.low hg).2
    rcases hh with hh | hh
    · exact h.off g hg hh
    · omega
  have hT : Touch (fun j => vO.ownBlock = some j) w5 w6 := (Touch.refl _ w5).grown hg (fun k e => .inl e)
  refine ⟨fun j => (F j ∨ (wr.alloc ob).heap.size ≤ j) ∧ j < w5.heap.size, (runN n' (ts.drop (k + 1))).2.1, ⟨hk, hinv, hmn, hms, ?_, ?_, hrow, ?_, (by have := h.big; omega), ?_, ?_, ?_, hsp, hwf, ?_, ?_⟩⟩
  · exact C.stay (C.mono hs (fun j hj hh => ⟨hh, hj⟩)) hT (fun j hj hh e => hFo j e hh.1)
  · rintro j ⟨hh, hj⟩
    rcases hh with hh | hh
    · have := h.bnd j hh; exact ⟨this.1, by omega, this.2.2⟩
    · exact ⟨by omega, by omega, by omega⟩
  · have := h.few
    rw [List.length_append]
    have hle : es.length ≤ 1 := hle
    omega
  · intro g hgo hh
    rcases ho with e | e
    · exact hFo g (e ▸ hgo) hh.1
    · rw [e] at hgo
      injection hgo with hgo
      omega
  · exact ((h.bel.alloc hW _).trans (htch.below (fun j _ hj => (h.bnd j hj).1) (by omega))).trans (hT.below (fun j _ e => by have := (h.row.low e).1; omega) (by omega))
  · refine (hT.block bt (by omega) (fun e => hne bt e rfl)).trans ((ft bt hlt (fun hh => (h.bnd bt hh).2.2 rfl)).trans h.toks)
  · rw [← hru1]
    simp only [Bool.and_eq_true] at hru3
    rw [Prod.ext_iff]
    exact ⟨rfl, Prod.ext rfl hru3.2⟩
  · rw [List.append_assoc, hru2]
    exact h.sum

def tksA : List Tok := [⟨2, false, 0, 1, []⟩, ⟨9, true, 1, 1, []⟩, ⟨9, false, 1, 2, [55]⟩, ⟨3, false, 2, 3, []⟩]
theorem lexA_is : lexR [91, 55, 93] = (tksA, 1, 3) := by kernel_rfl
theorem runA_is : ∃ nE all, runN (newN 3) tksA = (nE, all, true) ∧ nE.may.isNothing = true ∧ all.length = 4 ∧ ∃ e, all[2]? = some e ∧ e.kind = 2 ∧ e.text = [55] := by
  refine ⟨_, _, rfl, rfl, rfl, _, rfl, rfl, rfl⟩

set_option maxRecDepth 100000 in
set_option maxHeartbeats 4000000 in
theorem nestAlive_any (C : NestC) (hA : AllN Tab) (W : World) (hT : Tab W) :
    Calls Tryd.prog 4 #[] W fun e w' => e = .returned (.bool true) ∧ Below W.heap.size W w' := by
  have h0 : 0 < W.heap.size := hT.elim fun _ h => h.inside
  have KN := Lib.hid (fun w => C.new 3 w (by decide) (by decide))
  obtain ⟨ts, hts⟩ : ∃ ts, ts = tksA := ⟨_, rfl⟩
  have hlx : lexR [91, 55, 93] = (ts, 1, 3) := by rw [hts]; exact lexA_is
  have KA0 := fun (w : World) (hTw : Tab w) => hA (some ⟨w.heap.size, 0, none⟩) 3 3 [91, 55, 93] _ ((Rd.of_block (heap_alloc_new w (.cells (byteCells [91, 55, 93]).toArray 5 (3, 4))) rfl).more (show w.heap.size + 1 ≤ (w.alloc (.cells (byteCells [91, 55, 93]).toArray 5 (3, 4))).heap.size by simp)) (by decide) (hTw.stay (below1 w _) (hTw.elim fun _ h => h.inside))
  rw [hlx] at KA0
  have KA := Lib.hid KA0
  clear KA0
  have kc := fun (w : World) (C : Array Value) (n c : Nat) => Lib.run_convert_bytes_const (P := Tryd.prog) w 22 5 C n c Tryd.underlying22 Tryd.underlying5
  obtain ⟨sE, hsp, _, _, _⟩ := lexR_spans [91, 55, 93]
  obtain ⟨pE, hwf⟩ := lexR_wf [91, 55, 93]
  rw [lexA_is] at hsp hwf
  obtain ⟨nE, all, hrun, hdone, hlen, e2, h2, h2k, h2t⟩ := runA_is
  have hsp : Spans [91, 55, 93] ts (0, none) sE := by rw [hts]; exact hsp
  have hwf : WfTo ts none pE := by rw [hts]; exact hwf
  have hlen4 : ts.length = 4 := by rw [hts]; rfl
  rw [← hts] at hrun
  have HTS := Lib.hid hts
  clear hts hlx
  clear hA
  go_enter Tryd.func4, Tryd.ntmps4
  go_wp2_with (first
    | (go_at_call 5; refine (KN.out _).mono ?_; rintro e w2 ⟨b0, rfl, hst, hb2⟩
       have hT2 := hT.stay hb2 h0
       have HS := Lib.hid hst
       clear hst)
    | (go_at_call 6; refine (KA.out w2 hT2).mono ?_; rintro e w3 ⟨v, rfl, htk, hb3, hnw⟩
       obtain ⟨A2, c2, rfl, hc1, hc2, hcell⟩ := htk
       obtain ⟨bt, o, rfl, hbt3, hcell⟩ := hcell (by omega)
       have HC := Lib.hid hcell
       have hbt2 := hnw bt rfl
       clear hcell hnw))
  have z2 := hb2.size
  have z3 := hb3.size
  have e3 : (w2.alloc (.cells #[.int .u8 91, .int .u8 55, .int .u8 93] 5 (3, 4))).heap.size = w2.heap.size + 1 := by simp
  have z3' : w2.heap.size + 1 ≤ w3.heap.size := by rw [← e3]; exact z3
  have hbt2' : w2.heap.size + 1 ≤ bt := by rw [← e3]; exact hbt2
  have hb23 : Below w2.heap.size w2 w3 := (below1 w2 _).trans (hb3.mono (by simp))
  have hB3 := hb2.trans (hb23.mono z2)
  generalize hw4 : World.alloc (World.alloc w3 _) _ = w4
  have H4 : AtAl C [91, 55, 93] ts sE pE nE all W w4 w4 bt b0 (w3.heap.size + 1) (.slice (some ⟨w3.heap.size + 1, 0, none⟩) 0 0) 0 (0, none) none (newN 3) (fun j => W.heap.size ≤ j ∧ j < w2.heap.size) [] all ∧ Below w3.heap.size w3 w4 ∧ w3.heap.size + 2 = w4.heap.size := by
    subst hw4
    have e1 : (w3.alloc (.cells #[.int .i64 1, .int .i64 3] 28)).heap.size = w3.heap.size + 1 := by simp
    have b2 : Below w3.heap.size w3 ((w3.alloc (.cells #[.int .i64 1, .int .i64 3] 28)).alloc (.cells #[] 40)) := below2 _ _ _
    refine ⟨⟨Nat.zero_le _, InvN.start 3, (fun o ho => by cases ho), rfl, ?_, ?_, ?_, Nat.zero_le _, (by simp), ?_, hB3.trans (b2.mono (by have := hB3.size; omega)), rfl, hsp, hwf, hrun, rfl⟩, b2, by simp⟩
    · refine C.stay (F := fun j => W.heap.size ≤ j ∧ j < w2.heap.size) (G := fun j => w2.heap.size ≤ j) ?_ (Touch.of_below ((hb23.trans (b2.mono (by omega)))) (fun _ _ h => h)) (fun j _ h g => by omega)
      exact C.mono HS.out (fun j hj h => ⟨h, hj⟩)
    · intro j ⟨h1, h2⟩
      exact ⟨by omega, by simp; omega, by omega⟩
    · have := GRow.made (K := evK) (l := []) (base := w3.heap.size + 1) (w3.alloc (.cells #[.int .i64 1, .int .i64 3] 28)) #[] rfl (by decide) (by simp)
      rw [e1] at this
      exact this
    · intro g hg h
      obtain rfl := ownBlock_is hg
      omega
  clear hw4
  obtain ⟨H4, hb4, hz4⟩ := H4
  have h4b := H4.bel
  have hz4b := h4b.size
  have hz3 := hB3.size
  have HW4 := Lib.hid H4
  clear hsp hwf hrun H4
  go_loopw [4, 21] (fun vO vi wr => RelAn C [91, 55, 93] ts sE pE nE all W w4 bt b0 (w3.heap.size + 1) vO vi wr) (fun _ vi _ => ts.length - (intOf vi).toNat)
  case atStart => exact ⟨0, (0, none), none, newN 3, _, [], all, rfl, HW4.out⟩
  case round =>
    obtain ⟨k, s, p, n, F, E, rest, rfl, h⟩ := hrel
    have hzr := h.bel.size
    obtain ⟨A8, c8, rfl, _⟩ := h.row.form
    by_cases hlt : k < ts.length
    · obtain ⟨c0, c1, c2', c3, c4⟩ := HC.out k ts[k] (List.getElem?_eq_getElem hlt)
      have hcw : ∀ j, wr.cell? ⟨bt, j, none⟩ = w3.cell? ⟨bt, j, none⟩ := fun j => by
        have e : wr.heap[bt]? = w3.heap[bt]? := h.toks.trans (hb4.block bt hbt3)
        unfold World.cell?
        rw [e]
      rw [← hcw] at c0 c1 c2' c3 c4
      have hbtr : bt < wr.heap.size := cell_inside c0
      have hsp := h.spans
      have hwf := h.wf
      have hru := h.run
      rw [List.drop_eq_getElem_cons hlt] at hsp hwf hru
      obtain ⟨hok, hsp⟩ := hsp
      obtain ⟨hokw, hwf⟩ := hwf
      have hrf : (takeN n ts[k]).2.2 = 0 := by
        simp only [runN] at hru
        injection hru with _ hru
        injection hru with _ hru
        simp only [Bool.and_eq_true, decide_eq_true_eq] at hru
        exact hru.1
      have htk : ts[k]? = some ts[k] := List.getElem?_eq_getElem hlt
      generalize ts[k] = t at *
      have hbnd : t.fr ≤ 1000000 ∧ t.to ≤ 1000000 := by
        unfold okTok at hok
        split at hok
        · obtain ⟨_, _, h1, h2⟩ := hok; simp at h2; omega
        · obtain ⟨_, _, h1, h2, _⟩ := hok; simp at h2; omega
      have hTr : Tab (wr.alloc (.cells (tokCells t).toArray 34)) := hT.stay ((h.bel.alloc (by omega) _)) h0
      have hF0 : ¬ F 0 := fun hh => by have := (h.bnd 0 hh).1; omega
      have hst5 := C.stay h.st (Touch.of_new (F := fun _ => False) (below1 wr (.cells (tokCells t).toArray 34))) (fun _ _ _ hh => hh)
      have hmst : n.op.length ≤ 4990 := by have := h.inv.deep; have := h.most; omega
      have HT := Lib.hid (C.take _ b0 F n s p t h.inv hokw hbnd.1 hbnd.2 (fun o ho => Nat.le_trans (h.many o ho) (by omega)) hmst hTr hF0 (fun j hj => by have := (h.bnd j hj).2.1; simp; omega) hst5)
      have hxt : (tokCells t).toArray = #[.int .i64 t.kind, .bool t.begun, .int .i64 t.fr, .int .i64 t.to, .string ⟨t.text.toArray⟩] := rfl
      rw [hxt] at HT
      have HI := Lib.hid h
      clear hst5 hTr hok hokw hsp hwf hcw h hxt hru
      obtain ⟨⟨n', es, fl⟩, hr⟩ : ∃ r, takeN n t = r := ⟨_, rfl⟩
      rw [hr] at hrf HT
      have hrf : fl = 0 := hrf
      subst hrf
      have HR := Lib.hid hr
      have HTK := Lib.hid htk
      have HROW := Lib.hid (show ∀ w', Touch F (wr.alloc (.cells #[.int .i64 t.kind, .bool t.begun, .int .i64 t.fr, .int .i64 t.to, .string ⟨t.text.toArray⟩] 34)) w' → GRow evK w' (w3.heap.size + 1) (.slice A8 E.length c8) E from fun w' ht => HI.out.row.stay (fun g hg => (ht.block g (by have := (HI.out.row.low hg).2; simp; omega) (HI.out.off g hg)).trans ((below1 wr _).block g (HI.out.row.low hg).2)))
      clear hr htk
      go_wp2_with (first
        | (go_at_call 7; refine HT.out.mono ?_; rintro e w5 ⟨v, rfl, hr5, ht5, hs5⟩
           obtain ⟨A5, c5, rfl, _⟩ := hr5.form
           have H5 := Lib.hid hr5
           have HT5 := Lib.hid ht5
           have HS5 := Lib.hid hs5
           clear hr5 ht5 hs5)
        | (at_builtin
           go_must (refine row_append (K := evK) _ rfl (.tmp 31) (.tmp 32) rfl (w3.heap.size + 1) (.slice A8 E.length c8) E rfl (HROW.out w5 HT5.out) A5 es.length c5 es rfl H5.out.rd (by have := HI.out.few; have := (takeN_one n t).2; rw [HR.out] at this; have hle : es.length ≤ 1 := this; omega) (by have := HT5.out.size; have := HI.out.big; simp at *; omega) ?_; intro vO' w6 hr6 hg6 ho6)))
      go_roundw
      case rel =>
        obtain ⟨F', rest', hat⟩ := HI.out.next HTK.out HR.out hbtr hzr HT5.out HS5.out (by omega) hr6 hg6 ho6 (fun g hg => by have := (HI.out.row.low hg).1; omega)
        exact ⟨k + 1, _, _, n', F', E ++ es, rest', by go_num, hat⟩
      case measure => simp [intOf]; omega
    · obtain rfl : k = ts.length := by have := h.le; omega
      have hru := h.run
      have hsm := h.sum
      rw [List.drop_length] at hru
      injection hru with hn1 hru
      injection hru with hr1 _
      have hE : E = all := by rw [← hsm, show rest = [] from hr1.symm]; simp
      have hdn : n.may.isNothing = true := by rw [hn1]; exact hdone
      have KD := Lib.hid (C.done wr b0 F n h.st)
      have hbel := h.bel
      have hrow := h.row
      subst hE
      obtain ⟨A8', c8', hv, _, _, hA8⟩ := hrow.form
      have hv1 : A8 = A8' := by injection hv
      clear hv
      subst hv1
      obtain ⟨g8, rfl, _, hg8⟩ := hA8 (by omega)
      have hc8 : ∀ j u, (evCells e2)[j]? = some u → wr.cell? ⟨g8, 2 * 8 + j, none⟩ = some u := fun j u hu => by
        have := (GRow.rd hrow).at (b := g8) (o := 0) rfl (i := 2) h2 (j := j) (u := u) hu
        simpa [evK] using this
      have y0 := hc8 0 _ rfl
      have y7 := hc8 7 _ rfl
      rw [h2k] at y0
      rw [h2t] at y7
      rw [hlen]
      rw [hdn] at KD
      clear hc8 hA8 hrow h hsm hlen hdn
      go_wp2_with (go_at_call 9; refine KD.out.mono ?_; rintro e w9 ⟨rfl, hb9⟩)
      go_ret
      exact ⟨rfl, hbel.trans (hb9.mono hbel.size)⟩

end Go.Proofs.YtpjdmhfineeimaaDoor
