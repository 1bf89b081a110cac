/- Package tree: the walk of begin, within a value that is open. -/
import Derived.Test.YthpkcapooeedeaaDoorJ25
import Derived.Deep.RegionHeld3
namespace Go.Proofs.YthpkcapooeedeaaDoor
open Go.RowKit
set_option linter.unusedVariables false

/-- What begin has made: the event, the value. -/
def HeldE (eb : Nat) (nm : Bool) (sn : List UInt8) (si : Nat) (ev : Int) (ef : Nat) (w : World) : Prop :=
  w.cell? ⟨eb, 4, none⟩ = some (.bool nm) ∧ w.cell? ⟨eb, 5, none⟩ = some (.string ⟨sn.toArray⟩) ∧ w.cell? ⟨eb, 6, none⟩ = some (.int .i64 si) ∧ w.cell? ⟨eb + 1, 0, none⟩ = some (.int .i64 ev) ∧ w.cell? ⟨eb + 1, 1, none⟩ = some (.int .i64 ef) ∧ w.cell? ⟨eb + 1, 2, none⟩ = some (.int .i64 0) ∧
    w.cell? ⟨eb + 1, 3, none⟩ = some (.string ⟨#[]⟩) ∧ w.cell? ⟨eb + 1, 4, none⟩ = some (.slice none 0 0) ∧ w.cell? ⟨eb + 1, 5, none⟩ = some (.slice none 0 0)
theorem HeldE.move {eb : Nat} {nm : Bool} {sn : List UInt8} {si : Nat} {ev : Int} {ef : Nat} {w w' : World} (h : HeldE eb nm sn si ev ef w) (h1 : w'.heap[eb]? = w.heap[eb]?) (h2 : w'.heap[eb + 1]? = w.heap[eb + 1]?) : HeldE eb nm sn si ev ef w' := by
  have a : ∀ i, w'.cell? ⟨eb, i, none⟩ = w.cell? ⟨eb, i, none⟩ := fun i => World.cell?_of_block (by exact h1)
  have b : ∀ i, w'.cell? ⟨eb + 1, i, none⟩ = w.cell? ⟨eb + 1, i, none⟩ := fun i => World.cell?_of_block (by exact h2)
  unfold HeldE at *
  rw [a, a, a, b, b, b, b, b, b]
  exact h

/-- The item's place, appended. -/
theorem more_one {w w2 w5 wd w9 : World} {b wb g c m d : Nat} {F : Nat → Prop} {vo : Value} {B : Option Addr} {k : Int} {f : Nat} {t : Tree} {s e : Stp} {r : List (Tree × Stp)} {x : V6} {xs : List V6} {ps : List (Option Addr)} {S G : Nat → Prop} {pb po : Nat} {A9 : Option Addr} {m9 c9 : Nat}
    (hbw : b < w2.heap.size) (hz : w.heap.size ≤ w2.heap.size) (hown : Own w2 b 41 #[.pointer (some ⟨wb, 0, none⟩), vo]) (hO : OpenB w2 G S wb vo t s r x xs ⟨pb, po, none⟩ ps) (hf : FootB w2.heap.size b vo S G F (oA x) (oB x)) (hJ : Joined w2 w5 pb po x (begunX k f) xs t.names e g c B m d) (hd : Below w5.heap.size w5 wd)
    (hr : GRow ptrK w9 0 (.slice A9 m9 c9) (ps ++ [some ⟨pb, po, none⟩] ++ [some ⟨g, xs.length * 6, none⟩])) (hg : wd.grownBy w9 vo.ownBlock) (ha : (Value.slice A9 m9 c9).ownBlock = vo.ownBlock ∨ (Value.slice A9 m9 c9).ownBlock = some wd.heap.size) (hw2 : Touch F w w2) :
    w9.cell? ⟨b, 1, none⟩ = some vo ∧ w9.frozen? ⟨b, 1, none⟩ = false ∧ BIs (w9.setCell ⟨b, 1, none⟩ (.slice A9 m9 c9)) b (fun j => F j ∨ w.heap.size ≤ j) ⟨(begunT k f, e) :: (t, s) :: r, none⟩ ∧ Touch F w (w9.setCell ⟨b, 1, none⟩ (.slice A9 m9 c9)) := by
  have z5 := hJ.touch.size
  have zd := hd.size
  have z9 := hg.size
  have hvb : vo.ownBlock ≠ some b := fun e => (hf.fo b e).2 rfl
  obtain ⟨pb', po', ep, hSp, hcells, _⟩ := hO.ctx.cells
  injection ep with ep1 ep2
  subst ep1 ep2
  have old : ∀ j, j < w5.heap.size → vo.ownBlock ≠ some j → w9.heap[j]? = w5.heap[j]? := fun j hj hn => (hg.block j (by omega) (fun e => hn e.symm)).trans (hd.block j hj)
  have o5 : Own w5 b 41 #[.pointer (some ⟨wb, 0, none⟩), vo] := (hJ.touch.block b hbw (fun h => by
    rcases h with h | h | h
    · exact (hf.fS pb hSp).2.2.1 h.symm
    · exact (hf.fA b h).2.1 rfl
    · exact (hf.fB b h).2.1 rfl)).trans hown
  have o9 : Own w9 b 41 #[.pointer (some ⟨wb, 0, none⟩), vo] := (old b (by omega) hvb).trans o5
  have hown9 : ∀ j, (Value.slice A9 m9 c9).ownBlock = some j → vo.ownBlock = some j ∨ w5.heap.size ≤ j := fun j hj => by
    rcases ha with e | e
    · exact .inl (e.symm.trans hj)
    · rw [e] at hj
      injection hj with hj
      exact .inr (by omega)
  have hn9 : ∀ j, (Value.slice A9 m9 c9).ownBlock = some j → j ≠ b := fun j hj e => by
    subst e
    rcases hown9 _ hj with h | h
    · exact hvb h
    · omega
  have hT : Touch (fun j => j = b ∨ vo.ownBlock = some j) w5 (w9.setCell ⟨b, 1, none⟩ (.slice A9 m9 c9)) := by
    refine Touch.setCell ?_ (p := ⟨b, 1, none⟩) (.inl (.inl rfl)) _
    exact ⟨hg.os.trans hd.os, hg.tape.trans hd.tape, hg.output.trans hd.output, by omega, fun j hj hn => old j hj (fun e => hn (.inr e))⟩
  refine ⟨by have := o9.at 1; simpa using this, o9.free 1, ?_, ?_⟩
  · refine (begin_more (w' := w9.setCell ⟨b, 1, none⟩ (.slice A9 m9 c9)) (vo' := .slice A9 m9 c9) hbw hO hf rfl hJ ?_ ?_ hT hown9).mono (fun j hj => hj.elim .inl (fun h => .inr (by omega)))
    · have := o9.put 1 (.slice A9 m9 c9)
      simpa using this
    · exact hr.stay (fun j hj => Below.heap_setCell _ _ _ _ (hn9 j hj))
  · have t5 : Touch F w w5 := hw2.trans (hJ.touch.mono (G := F) (fun j _ h => by
      rcases h with h | h | h
      · subst h; exact (hf.fS _ hSp).2.1
      · exact (hf.fA j h).1
      · exact (hf.fB j h).1)) (fun _ _ h => h)
    exact t5.trans hT (fun j _ h => by
      rcases h with h | h
      · subst h; exact hf.fb
      · exact (hf.fo j h).1)

end Go.Proofs.YthpkcapooeedeaaDoor

namespace Go.Proofs.YthpkcapooeedeaaDoor
open Go.RowKit
set_option linter.unusedVariables false

section
variable {P : Program} {ops : Array Oper} {Q : Exit → Act → World → Prop} {md : Region.Mode} {S : World → Prop} {z : Nat}

/-- Whatever order is picked; S holds behind each operation ahead of number z. -/
def wpTil (P : Program) (md : Region.Mode) (ops : Array Oper) (Q : Exit → Act → World → Prop) (S : World → Prop) (z : Nat) : Nat → Array Bool → Act → World → Prop
  | 0, listed, a, w => Region.ready md ops listed = [] ∧ Q .normal a w
  | n + 1, listed, a, w => (Region.ready md ops listed = [] → Q .normal a w) ∧ ∀ j ∈ Region.ready md ops listed, wpOp P ops Q j (fun a' w' => (j < z → S w') ∧ wpTil P md ops Q S z n (listed.setIfInBounds j true) a' w') a w
theorem til_any : ∀ (n : Nat) (listed : Array Bool) (a : Act) (w : World), wpTil P md ops Q S z n listed a w → wpAny P md ops Q n listed a w
  | 0, _, _, _, h => h
  | n + 1, _, _, _, h => ⟨h.1, fun j hj => wpOp_mono (fun a' w' hh => til_any n _ a' w' hh.2) (h.2 j hj)⟩
theorem til_region {id : Nat} {a : Act} {w : World} (hm : P.follows .mixedOrders = true) (hS : S w.drew) (h : S w.drew → wpTil P .any ops Q S z ops.size (Array.replicate ops.size false) a w.drew) : (Code.region id ops true).wp P Q a w :=
  wp_region_any hm (til_any _ _ _ _ (h hS))

/-- What has come up has those behind it for which it waited. -/
def closedB (md : Region.Mode) (ops : Array Oper) (listed : Array Bool) : Bool := (List.range ops.size).all fun j => !(listed.getD j false) || (match ops[j]? with
  | some o => o.after.toList.all fun e => !(Region.binds md e) || listed.getD e.on false
  | none => true)
def Closed (md : Region.Mode) (ops : Array Oper) (listed : Array Bool) : Prop := ∀ (j : Nat) (o : Oper), ops[j]? = some o → listed.getD j false = true → ∀ e ∈ o.after, Region.binds md e = true → listed.getD e.on false = true
theorem closed_spec {listed : Array Bool} (h : closedB md ops listed = true) : Closed md ops listed := by
  intro j o ho hl e he hb
  have hj : j < ops.size := (Array.getElem?_eq_some_iff.1 ho).1
  have h1 := List.all_eq_true.1 h j (List.mem_range.2 hj)
  rw [hl, ho] at h1
  have h2 := List.all_eq_true.1 (show (o.after.toList.all fun e => !(Region.binds md e) || listed.getD e.on false) = true by simpa using h1) e (Array.mem_toList_iff.2 he)
  rw [hb] at h2
  simpa using h2
/-- Number j waits for number i, step by step. -/
def awaits (md : Region.Mode) (ops : Array Oper) : Nat → Nat → Nat → Bool
  | 0, _, _ => false
  | n + 1, j, i => match ops[j]? with
    | some o => o.after.toList.any fun e => Region.binds md e && (e.on == i || awaits md ops n e.on i)
    | none => true
theorem awaits_spec {listed : Array Bool} (hc : Closed md ops listed) {i : Nat} : ∀ (n j : Nat) (o : Oper), ops[j]? = some o → (∀ e ∈ o.after, Region.binds md e = true → listed.getD e.on false = true) → awaits md ops n j i = true → (∀ e ∈ o.after, Region.binds md e = true → ∃ q, ops[e.on]? = some q) → (∀ (j : Nat) (o : Oper), ops[j]? = some o → ∀ e ∈ o.after, Region.binds md e = true → ∃ q, ops[e.on]? = some q) → listed.getD i false = true
  | 0, j, o, ho, hl, h, _, _ => by cases h
  | n + 1, j, o, ho, hl, h, hin, hall => by
    unfold awaits at h
    rw [ho] at h
    obtain ⟨e, he, h1⟩ := List.any_eq_true.1 h
    rw [Bool.and_eq_true, Bool.or_eq_true] at h1
    have he' := Array.mem_toList_iff.1 he
    have hle := hl e he' h1.1
    rcases h1.2 with h2 | h2
    · have : e.on = i := by simpa using h2
      rwa [this] at hle
    · obtain ⟨q, hq⟩ := hin e he' h1.1
      exact awaits_spec hc n e.on q hq (fun d hd hb => hc e.on q hq hle d hd hb) h2 (fun d hd hb => hall e.on q hq d hd hb) hall
/-- All from number z on wait for number i; all that is waited for is there. -/
def tillB (md : Region.Mode) (ops : Array Oper) (z i : Nat) : Bool := ((List.range ops.size).all fun j => decide (j < z) || awaits md ops ops.size j i) && ((List.range ops.size).all fun j => match ops[j]? with
  | some o => o.after.toList.all fun e => decide (e.on < ops.size)
  | none => true)
theorem till_spec {i : Nat} (h : tillB md ops z i = true) : (∀ j, z ≤ j → j < ops.size → awaits md ops ops.size j i = true) ∧ ∀ (j : Nat) (o : Oper), ops[j]? = some o → ∀ e ∈ o.after, Region.binds md e = true → ∃ q, ops[e.on]? = some q := by
  unfold tillB at h
  rw [Bool.and_eq_true] at h
  refine ⟨fun j hj hl => ?_, fun j o ho e he _ => ?_⟩
  · have h1 := List.all_eq_true.1 h.1 j (List.mem_range.2 hl)
    rw [decide_eq_false (by omega)] at h1
    simpa using h1
  · have hj : j < ops.size := (Array.getElem?_eq_some_iff.1 ho).1
    have h1 := List.all_eq_true.1 h.2 j (List.mem_range.2 hj)
    rw [ho] at h1
    have h2 := List.all_eq_true.1 h1 e (Array.mem_toList_iff.2 he)
    exact ⟨_, Array.getElem?_eq_getElem (of_decide_eq_true h2)⟩
theorem getD_both {listed : Array Bool} {i : Nat} (h : listed.getD i false = true) : listed.getD i true = true := by
  simp only [Array.getD_eq_getD_getElem?] at *
  cases hg : listed[i]? with
  | none => rfl
  | some x => rw [hg] at h; exact h
theorem til_first {i : Nat} {o : Oper} {v : Value} (hi : ops[i]? = some o) (hn : Region.noSelect ops = true) (hz : tillB md ops z i = true) (hQ : ∀ c a w, Q (.panic c) (a.put o.dst v) w → Q (.panic c) a w) (n : Nat) :
    ∀ (listed : Array Bool) (a : Act) (w : World), Closed md ops listed → (∀ j q, ops[j]? = some q → j ≠ i → listed.getD j true = false → (∀ e ∈ q.after, Region.binds md e = true → e.on ≠ i) → o.apart ops q = true) → i ∈ Region.ready md ops listed → YieldsIf P ops S o v a → S w →
      wpTil P md ops Q S z n (listed.setIfInBounds i true) (a.put o.dst v) w → wpTil P md ops Q S z (n + 1) listed a w := by
  induction n with
  | zero =>
    intro listed a w hc _ hr hy hS H
    refine ⟨fun e => absurd hr (by rw [e]; simp), fun j hj => ?_⟩
    by_cases e : j = i
    · subst e
      exact hy.wpOp hi hS ⟨fun _ => hS, H⟩
    · exact absurd (ready_mono hj e) (by rw [H.1]; simp)
  | succ n ih =>
    intro listed a w hc hap hr hy hS H
    refine ⟨fun e => absurd hr (by rw [e]; simp), fun j hj => ?_⟩
    by_cases e : j = i
    · subst e
      exact hy.wpOp hi hS ⟨fun _ => hS, H⟩
    obtain ⟨hun, q, hq, hall⟩ := mem_ready.1 hj
    have hi0 := (mem_ready.1 hr).1
    have hne : listed.getD i false ≠ true := fun h => by rw [getD_both h] at hi0; cases hi0
    have ahead : ∀ d ∈ q.after, Region.binds md d = true → d.on ≠ i := fun d hd hb hon => hne (hon ▸ hall d hd hb)
    obtain ⟨hz1, hz2⟩ := till_spec hz
    have hjz : j < z := by
      by_cases h : j < z
      · exact h
      · exact absurd (awaits_spec hc _ j q hq hall (hz1 j (by omega) (Array.getElem?_eq_some_iff.1 hq).1) (fun d hd hb => hz2 j q hq d hd hb) hz2) hne
    have hput := wpOp_putIf hq (hap j q hq e hun ahead) (fun cs b => Region.noSelect_spec hn i o cs b hi) (fun cs b => Region.noSelect_spec hn j q cs b hq) hQ hy (H.2 j (ready_mono hj e))
    refine wpOp_mono (fun a' w' hh => ?_) hput
    obtain ⟨hy', hS', H'⟩ := hh
    have hSw := hS' hjz
    have hc' : Closed md ops (listed.setIfInBounds j true) := fun l ql hl hll d hd hb => by
      by_cases ejl : j = l
      · subst ejl
        obtain rfl : ql = q := by rw [hq] at hl; injection hl with hl; exact hl.symm
        exact getD_set_true (hall d hd hb)
      · refine getD_set_true (hc l ql hl ?_ d hd hb)
        rw [getD_set_ne false ejl] at hll
        exact hll
    refine ⟨fun _ => hSw, ih (listed.setIfInBounds j true) a' w' hc' (fun l ql hl hli hlu hla => ?_) (ready_mono hr (Ne.symm e)) hy' hSw (by rw [Array.setIfInBounds_comm _ _ e]; exact H')⟩
    refine hap l ql hl hli ?_ hla
    by_cases ejl : j = l
    · subst ejl; exact hun
    · rwa [getD_set_ne true ejl] at hlu
theorem til_take {i : Nat} {d : Tmp} {o : Oper} {v : Value} {n : Nat} {listed : Array Bool} {a : Act} {w : World} (hi : ops[i]? = some o) (hd : o.dst = some d) (hn : Region.noSelect ops = true) (hz : tillB md ops z i = true) (hc : closedB md ops listed = true) (hf : Region.free md ops listed i = true) (hr : (Region.ready md ops listed).contains i = true)
    (hQ : ∀ c a w, Q (.panic c) (a.put (some d) v) w → Q (.panic c) a w) (hy : YieldsIf P ops S o v a) (hS : S w) (h : wpTil P md ops Q S z n (listed.setIfInBounds i true) (a.put (some d) v) w) : wpTil P md ops Q S z (n + 1) listed a w :=
  til_first hi hn hz (fun c a w h => hQ c a w (hd ▸ h)) n listed a w (closed_spec hc) (Region.free_spec hi hf) (by simpa using hr) hy hS (by rw [hd]; exact h)
/-- One alone may come up. -/
theorem til_one {i : Nat} {o : Oper} {n : Nat} {listed : Array Bool} {a : Act} {w : World} (hr : Region.ready md ops listed = [i]) (ho : ops[i]? = some o)
    (h : ∀ K : Act → World → Prop, Shut (∀ a w, (i < z → S w) → wpTil P md ops Q S z n (listed.setIfInBounds i true) a w → K a w) → if Region.wanted o (yielded ops a.tmps) = true then Oper.wp P o a w K Q else K (a.put o.dst undef) w) : wpTil P md ops Q S z (n + 1) listed a w := by
  refine ⟨fun e => (by rw [hr] at e; cases e), fun j hj => ?_⟩
  rw [hr] at hj
  obtain rfl : j = i := by simpa using hj
  exact wpOp_step ho (fun K hK => h K (fun a w hS hW => hK a w ⟨hS, hW⟩))
theorem til_done {listed : Array Bool} {a : Act} {w : World} (hr : Region.ready md ops listed = []) (h : Q .normal a w) : ∀ n, wpTil P md ops Q S z n listed a w
  | 0 => ⟨hr, h⟩
  | _ + 1 => ⟨fun _ => h, by rw [hr]; simp⟩
end

end Go.Proofs.YthpkcapooeedeaaDoor
