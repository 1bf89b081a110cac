/- What opens and closes in a text, as plain mathematics: tokens, one by one, make events; what opens closes, the last one first. -/
import Derived.Test.YthpkcapooeedeaaDoorJ03
import Derived.Test.YthpkcapooeedeaaDoorRows
namespace Go.Proofs.YthpkcapooeedeaaDoor

structure Stp where
  named : Bool
  name : List UInt8
  index : Nat
structure Evt where
  kind : Int
  value : Int
  fr : Nat
  to : Nat
  step : Stp
  text : List UInt8
inductive May where
  | value | item | member | name | colon | next | nothing | broken
/-- What is open: an object or an array, where it begins, what it is itself, how many values, or which name, it has. -/
structure Opn where
  obj : Bool
  fr : Nat
  step : Stp
  many : Nat
  name : List UInt8
/-- Where one is in a text: what is open (the innermost first), what may come, the kind of the token that has begun (0: none). -/
structure Nst where
  most : Nat
  op : List Opn
  may : May
  begun : Int
  came : Bool

def Opn.kd (o : Opn) : Int := if o.obj then 5 else 4
def stepO : List Opn → Stp
  | [] => ⟨false, [], 0⟩
  | o :: _ => if o.obj then ⟨true, o.name, 0⟩ else ⟨false, [], o.many⟩
def newN (d : Int) : Nst := ⟨if d < 1 then 1 else d.toNat, [], .value, 0, false⟩
def moreO : List Opn → List Opn
  | [] => []
  | o :: r => { o with many := o.many + 1 } :: r
def nameO (s : List UInt8) : List Opn → List Opn
  | [] => []
  | o :: r => { o with name := s } :: r
/-- Behind a value. -/
def endedN (n : Nst) : Nst := { n with op := moreO n.op, may := if n.op.isEmpty then .nothing else .next }
def badN (n : Nst) (k : Int) : Nst × List Evt × Int := ({ n with may := .broken }, [], k)
/-- The kind of an ended token's value. -/
def scalarK (t : Tok) : Int := if t.kind = 8 then 3 else if t.kind = 9 then 2 else if t.text = lN then 0 else 1
/-- The kind as which a token's value begins. -/
def beginK (k : Int) : Int := if k = 8 then 3 else if k = 9 then 2 else 0
/-- May a value come? -/
def May.val : May → Bool
  | .value => true
  | .item => true
  | _ => false
def May.nam : May → Bool
  | .member => true
  | .name => true
  | _ => false
def May.isNext : May → Bool
  | .next => true
  | _ => false
def isArr : List Opn → Bool
  | o :: _ => !o.obj
  | [] => false
def isObj : List Opn → Bool
  | o :: _ => o.obj
  | [] => false

/-- A token where none has begun. -/
def takeO (n : Nst) (t : Tok) : Nst × List Evt × Int := match n.may with
  | .broken => (n, [], 14)
  | .nothing => badN n 9
  | m =>
    if t.begun then
      if t.kind = 8 ∧ m.nam = true then ({ n with begun := 8, came := true }, [], 0)
      else if m.val = true then ({ n with begun := t.kind, came := true }, [⟨1, beginK t.kind, t.fr, 0, stepO n.op, []⟩], 0)
      else badN { n with came := true } 8
    else if (t.kind = 2 ∨ t.kind = 4) ∧ m.val = true then
      if n.most ≤ n.op.length then badN { n with came := true } 12
      else ({ n with op := ⟨decide (t.kind = 4), t.fr, stepO n.op, 0, []⟩ :: n.op, may := if t.kind = 4 then .member else .item, came := true }, [⟨1, t.kind / 4 + 4, t.fr, 0, stepO n.op, []⟩], 0)
    else match m, n.op with
      | .item, o :: r => if t.kind = 3 then ({ endedN { n with op := r } with came := true }, [⟨2, o.kd, o.fr, t.to, o.step, []⟩], 0) else badN { n with came := true } 8
      | .member, o :: r => if t.kind = 5 then ({ endedN { n with op := r } with came := true }, [⟨2, o.kd, o.fr, t.to, o.step, []⟩], 0) else badN { n with came := true } 8
      | .next, o :: r => if t.kind = (if o.obj then 5 else 3) then ({ endedN { n with op := r } with came := true }, [⟨2, o.kd, o.fr, t.to, o.step, []⟩], 0)
          else if t.kind = 6 then ({ n with may := if o.obj then .name else .value, came := true }, [], 0) else badN { n with came := true } 8
      | .colon, _ => if t.kind = 7 then ({ n with may := .value, came := true }, [], 0) else badN { n with came := true } 8
      | _, _ => badN { n with came := true } 8
/-- A token. -/
def takeN (n : Nst) (t : Tok) : Nst × List Evt × Int :=
  if n.begun = 0 then takeO n t
  else if n.may.nam = true then ({ n with begun := 0, op := nameO t.text n.op, may := .colon }, [], 0)
  else ({ endedN n with begun := 0 }, [⟨2, scalarK t, t.fr, t.to, stepO n.op, t.text⟩], 0)

/-- Tokens as they come of a text: what begins ends next. -/
def okW (p : Option (Int × Nat)) (t : Tok) : Prop := match p with
  | none => if t.begun then 8 ≤ t.kind ∧ t.kind ≤ 10 else 2 ≤ t.kind ∧ t.kind ≤ 7
  | some (k, f) => t.begun = false ∧ t.kind = k ∧ t.fr = f ∧ (k = 10 → t.text = lT ∨ t.text = lF ∨ t.text = lN)
def nextW (t : Tok) : Option (Int × Nat) := if t.begun then some (t.kind, t.fr) else none
def WfTo : List Tok → Option (Int × Nat) → Option (Int × Nat) → Prop
  | [], p, q => p = q
  | t :: ts, p, q => okW p t ∧ WfTo ts (nextW t) q
theorem wf_append (l m : List Tok) : ∀ p q r, WfTo l p q → WfTo m q r → WfTo (l ++ m) p r := by
  induction l with
  | nil => intro p q r h g; cases h; exact g
  | cons t l ih => intro p q r h g; exact ⟨h.1, ih _ _ _ h.2 g⟩

/-- What is pending behind some bytes. -/
def pendL : LSt → Option (Int × Nat)
  | .num _ f _ => some (9, f)
  | .word f _ => some (10, f)
  | .str _ f _ => some (8, f)
  | _ => none
def WStep (p : Option (Int × Nat)) (r : List Tok × Int × LSt) : Prop := ∃ q, WfTo r.1 p q ∧ (r.2.1 = 0 → q = pendL r.2.2)

theorem out_wf (k : Nat) (c : UInt8) : WStep none (outL k c) := by
  have hk : ∀ n : Nat, n < 256 → kindI n ≤ 10 ∧ 0 ≤ kindI n := by decide +kernel
  have hc := hk c.toNat (UInt8.toNat_lt c)
  unfold outL
  split
  · exact ⟨none, rfl, fun _ => rfl⟩
  split
  · exact ⟨none, rfl, fun e => by cases e⟩
  split
  · rename_i h1 h2 h3
    exact ⟨none, ⟨⟨by show (2 : Int) ≤ kindI c.toNat; omega, by show kindI c.toNat ≤ 7; omega⟩, rfl⟩, fun _ => rfl⟩
  split
  · exact ⟨_, ⟨⟨by show (8 : Int) ≤ 8; omega, by show (8 : Int) ≤ 10; omega⟩, rfl⟩, fun _ => rfl⟩
  split
  · exact ⟨_, ⟨⟨by show (8 : Int) ≤ 9; omega, by show (9 : Int) ≤ 10; omega⟩, rfl⟩, fun _ => rfl⟩
  · exact ⟨_, ⟨⟨by show (8 : Int) ≤ 10; omega, by show (10 : Int) ≤ 10; omega⟩, rfl⟩, fun _ => rfl⟩

theorem stepL_wf (st : LSt) (k : Nat) (c : UInt8) (hd : st ≠ .dead) : WStep (pendL st) (stepL st k c) := by
  cases st with
  | dead => exact absurd rfl hd
  | out => exact out_wf k c
  | num a f p =>
    show WStep (some (9, f)) (if nxI a c.toNat ≠ 0 then ([], 0, LSt.num (nxI a c.toNat) f (p ++ [c])) else
      if whI a && !stickI c.toNat then (⟨9, false, f, k, p⟩ :: (outL k c).1, (outL k c).2.1, (outL k c).2.2) else ([], 5, .dead))
    split
    · exact ⟨_, rfl, fun _ => rfl⟩
    split
    · obtain ⟨q, h1, h2⟩ := out_wf k c
      exact ⟨q, ⟨⟨rfl, rfl, rfl, fun e => by cases e⟩, h1⟩, h2⟩
    · exact ⟨_, rfl, fun e => by cases e⟩
  | word f p =>
    show WStep (some (10, f)) (if refL (p ++ [c]) = 2 then ([], 6, LSt.dead) else if refL (p ++ [c]) = 1 then ([⟨10, false, f, k + 1, p ++ [c]⟩], 0, .out) else ([], 0, .word f (p ++ [c])))
    split
    · exact ⟨_, rfl, fun e => by cases e⟩
    split
    · rename_i h
      exact ⟨none, ⟨⟨rfl, rfl, rfl, fun _ => ref_one h⟩, rfl⟩, fun _ => rfl⟩
    · exact ⟨_, rfl, fun _ => rfl⟩
  | str q f acc =>
    show WStep (some (8, f)) (strL q f acc k c (stepQ q c))
    cases hs : stepQ q c with
    | none => exact ⟨_, rfl, fun e => absurd e (faultQ_ne q c).2⟩
    | some x =>
      obtain ⟨q', e⟩ := x
      cases q' <;> first
        | exact ⟨_, rfl, fun _ => rfl⟩
        | exact ⟨none, ⟨⟨rfl, rfl, rfl, fun e => by cases e⟩, rfl⟩, fun _ => rfl⟩
theorem closeL_wf (st : LSt) (k : Nat) (hd : st ≠ .dead) : ∃ q, WfTo (closeL st k).1 (pendL st) q := by
  cases st with
  | dead => exact absurd rfl hd
  | out => exact ⟨_, rfl⟩
  | num a f p =>
    show ∃ q, WfTo (if whI a then (([⟨9, false, f, k, p⟩], 1) : List Tok × Int) else ([], 10)).1 (some (9, f)) q
    split
    · exact ⟨none, ⟨rfl, rfl, rfl, fun e => by cases e⟩, rfl⟩
    · exact ⟨_, rfl⟩
  | word f p => exact ⟨_, rfl⟩
  | str q f acc => exact ⟨_, rfl⟩
theorem stepL_dead (st : LSt) (k : Nat) (c : UInt8) (hd : st ≠ .dead) (h0 : (stepL st k c).2.1 = 0) : (stepL st k c).2.2 ≠ .dead := by
  have ho : (outL k c).2.1 = 0 → (outL k c).2.2 ≠ .dead := by
    unfold outL
    (repeat' split) <;> simp
  revert h0
  cases st with
  | dead => exact absurd rfl hd
  | out => exact ho
  | num a f p =>
    show (if nxI a c.toNat ≠ 0 then (([], 0, LSt.num (nxI a c.toNat) f (p ++ [c])) : List Tok × Int × LSt) else if whI a && !stickI c.toNat then (⟨9, false, f, k, p⟩ :: (outL k c).1, (outL k c).2.1, (outL k c).2.2) else ([], 5, .dead)).2.1 = 0 → (if nxI a c.toNat ≠ 0 then (([], 0, LSt.num (nxI a c.toNat) f (p ++ [c])) : List Tok × Int × LSt) else if whI a && !stickI c.toNat then (⟨9, false, f, k, p⟩ :: (outL k c).1, (outL k c).2.1, (outL k c).2.2) else ([], 5, .dead)).2.2 ≠ .dead
    split
    · intro _ e; cases e
    split
    · exact ho
    · intro e; cases e
  | word f p =>
    show (if refL (p ++ [c]) = 2 then (([], 6, .dead) : List Tok × Int × LSt) else if refL (p ++ [c]) = 1 then ([⟨10, false, f, k + 1, p ++ [c]⟩], 0, .out) else ([], 0, .word f (p ++ [c]))).2.1 = 0 → (if refL (p ++ [c]) = 2 then (([], 6, .dead) : List Tok × Int × LSt) else if refL (p ++ [c]) = 1 then ([⟨10, false, f, k + 1, p ++ [c]⟩], 0, .out) else ([], 0, .word f (p ++ [c]))).2.2 ≠ .dead
    (repeat' split) <;> intro e <;> first | (cases e; done) | (intro e2; cases e2)
  | str q f acc =>
    show (strL q f acc k c (stepQ q c)).2.1 = 0 → (strL q f acc k c (stepQ q c)).2.2 ≠ .dead
    cases hs : stepQ q c with
    | none => intro e; exact absurd e (faultQ_ne q c).2
    | some p =>
      obtain ⟨q', x⟩ := p
      cases q' <;> intro _ e <;> cases e
theorem lexGo_wf (t : List UInt8) : ∀ (st : LSt) (k : Nat) (acc : List Tok), st ≠ .dead → WfTo acc none (pendL st) → ∃ q, WfTo (lexGo st t k acc).1 none q := by
  induction t with
  | nil =>
    intro st k acc hd ha
    obtain ⟨q, h⟩ := closeL_wf st k hd
    exact ⟨q, wf_append _ _ _ _ _ ha h⟩
  | cons c t ih =>
    intro st k acc hd ha
    obtain ⟨q, h1, h2⟩ := stepL_wf st k c hd
    unfold lexGo
    by_cases hf : (stepL st k c).2.1 ≠ 0
    · rw [if_pos hf]
      exact ⟨q, wf_append _ _ _ _ _ ha h1⟩
    · rw [if_neg hf]
      have h0 := Decidable.not_not.1 hf
      refine ih _ _ _ (stepL_dead st k c hd h0) ?_
      rw [← h2 h0]
      exact wf_append _ _ _ _ _ ha h1
theorem lexR_wf (l : List UInt8) : ∃ q, WfTo (lexR l).1 none q := lexGo_wf l .out 0 [] (by simp) rfl

end Go.Proofs.YthpkcapooeedeaaDoor

namespace Go.Proofs.YthpkcapooeedeaaDoor

def opE (o : Opn) : Evt := ⟨1, o.kd, o.fr, 0, o.step, []⟩
/-- The value of a token that has begun. -/
def evP (n : Nst) : Option (Int × Nat) → List Evt
  | some (k, f) => if n.may.val then [⟨1, beginK k, f, 0, stepO n.op, []⟩] else []
  | none => []
/-- What is open, the outermost first. -/
def evs (n : Nst) (p : Option (Int × Nat)) : List Evt := n.op.reverse.map opE ++ evP n p
/-- How many values each has, the innermost first. -/
def ctF : Nat → List Opn → List Nat
  | c, [] => [c]
  | c, o :: r => (o.many + c) :: ctF 1 r
def May.isNothing : May → Bool
  | .nothing => true
  | _ => false
def cB (n : Nst) (p : Option (Int × Nat)) : Nat := if (evP n p).isEmpty && !n.may.isNothing then 0 else 1
def cts (n : Nst) (p : Option (Int × Nat)) : List Nat := (ctF (cB n p) n.op).reverse ++ (evP n p).map fun _ => 0

/-- What holds between two tokens. -/
structure InvN (n : Nst) (s : Nat × Option Nat) (p : Option (Int × Nat)) : Prop where
  most : 1 ≤ n.most
  deep : n.op.length ≤ n.most
  none : p = none → n.begun = 0 ∧ s.2 = none
  some : ∀ k f, p = some (k, f) → n.begun = k ∧ 8 ≤ k ∧ k ≤ 10 ∧ s.2 = some f ∧ (n.may.val = true ∨ n.may.nam = true)
  noth : n.may.isNothing = true → n.op = []
  low : ∀ o ∈ n.op, o.fr < s.1

/-- What a token does. -/
def DoesN (n n' : Nst) (p p' : Option (Int × Nat)) (es : List Evt) : Prop :=
  (es = [] ∧ evs n' p' = evs n p ∧ cts n' p' = cts n p) ∨
  (∃ e, es = [e] ∧ e.kind = 1 ∧ evs n' p' = evs n p ++ [e] ∧ (∃ cs c, cts n p = cs ++ [c] ∧ cts n' p' = cs ++ [c + 1] ++ [0] ∧ ∀ o, (evs n p).getLast? = some o → (o.value = 4 → e.step.named = false ∧ e.step.index = c) ∧ (o.value = 5 → e.step.named = true))) ∨
  (∃ e o c, es = [e] ∧ e.kind = 2 ∧ evs n p = evs n' p' ++ [o] ∧ cts n p = cts n' p' ++ [c] ∧ o.fr = e.fr ∧ o.step = e.step ∧ (e.value = o.value ∨ e.value = 1) ∧ e.fr < e.to)

theorem ctF_ne (c : Nat) (l : List Opn) : ctF c l ≠ [] := by cases l <;> simp [ctF]
theorem ctF_more (l : List Opn) (h : l ≠ []) : ctF 0 (moreO l) = ctF 1 l := by
  cases l with
  | nil => exact absurd rfl h
  | cons o r => simp [moreO, ctF]
theorem opE_more (l : List Opn) : (moreO l).map opE = l.map opE := by
  cases l with
  | nil => rfl
  | cons o r => rfl
theorem opE_name (s : List UInt8) (l : List Opn) : (nameO s l).map opE = l.map opE := by
  cases l with
  | nil => rfl
  | cons o r => rfl
theorem ctF_name (c : Nat) (s : List UInt8) (l : List Opn) : ctF c (nameO s l) = ctF c l := by
  cases l with
  | nil => rfl
  | cons o r => rfl
theorem map_rev (l : List Opn) : l.reverse.map opE = (l.map opE).reverse := by simp
/-- The last count of what is open, where nothing is pending, and what a value's step says of it. -/
theorem ct_last (l : List Opn) : ∃ cs c, (ctF 0 l).reverse = cs ++ [c] ∧ (ctF 1 l).reverse = cs ++ [c + 1] ∧ ∀ o, (l.reverse.map opE).getLast? = some o → (o.value = 4 → (stepO l).named = false ∧ (stepO l).index = c) ∧ (o.value = 5 → (stepO l).named = true) := by
  cases l with
  | nil => exact ⟨[], 0, rfl, rfl, fun o h => by simp at h⟩
  | cons o r =>
    refine ⟨(ctF 1 r).reverse, o.many, by simp [ctF], by simp [ctF], fun x h => ?_⟩
    have hx : opE o = x := by simpa using h
    subst hx
    cases ho : o.obj <;> simp [opE, Opn.kd, stepO, ho]
/-- Behind a value that ends. -/
theorem ct_ended (l : List Opn) : ctF (if l.isEmpty then 1 else 0) (moreO l) = ctF 1 l := by
  cases l with
  | nil => rfl
  | cons o r => simp [moreO, ctF]

section
variable {n : Nst} {s : Nat × Option Nat} {p : Option (Int × Nat)}
theorem InvN.start (d : Int) : InvN (newN d) (0, Option.none) Option.none := by
  refine ⟨?_, Nat.zero_le _, fun _ => ⟨rfl, rfl⟩, (fun k f e => by cases e), fun _ => rfl, (fun o h => by simp [newN] at h)⟩
  show 1 ≤ if d < 1 then 1 else d.toNat
  split <;> omega
theorem evs_start (d : Int) : evs (newN d) Option.none = [] ∧ cts (newN d) Option.none = [0] := ⟨rfl, rfl⟩
theorem evP_none (n : Nst) : evP n Option.none = [] := rfl
theorem cB_none (h : n.may.isNothing = false) : cB n Option.none = 0 := by simp [cB, evP_none, h]

/-- A value that opens. -/
theorem does_open (n : Nst) (n' : Nst) (p' : Option (Int × Nat)) (e : Evt) (hk : e.kind = 1) (hs : e.step = stepO n.op) (hn : n.may.isNothing = false) (he : evs n' p' = evs n Option.none ++ [e]) (hc : cts n' p' = (ctF 1 n.op).reverse ++ [0]) : DoesN n n' Option.none p' [e] := by
  obtain ⟨cs, c, h1, h2, h3⟩ := ct_last n.op
  refine .inr (.inl ⟨e, rfl, hk, he, cs, c, ?_, by rw [hc, h2], fun o ho => ?_⟩)
  · unfold cts
    rw [cB_none hn, evP_none, h1]
    simp
  · rw [hs]
    refine h3 o ?_
    simpa [evs, evP_none] using ho
/-- A value that closes, of those that hold others. -/
theorem does_close (o : Opn) (r : List Opn) (n' : Nst) (to : Nat) (hop : n.op = o :: r) (hn : n.may.isNothing = false) (hto : o.fr < to) (h' : n'.op = moreO r) (hm : n'.may = if r.isEmpty then .nothing else .next) : DoesN n n' Option.none Option.none [⟨2, o.kd, o.fr, to, o.step, []⟩] := by
  refine .inr (.inr ⟨_, opE o, o.many, rfl, rfl, ?_, ?_, rfl, rfl, .inl rfl, hto⟩)
  · unfold evs
    rw [evP_none, evP_none, hop, h', map_rev, map_rev, opE_more]
    simp
  · unfold cts
    rw [cB_none hn, evP_none, evP_none, hop, h']
    have hc : cB n' Option.none = if r.isEmpty then 1 else 0 := by
      unfold cB
      rw [hm, evP_none]
      cases r <;> rfl
    rw [hc, ct_ended]
    simp [ctF]
/-- Where nothing comes of a token. -/
theorem does_none (n' : Nst) (hn : n.may.isNothing = false) (hn' : n'.may.isNothing = false) (p' : Option (Int × Nat)) (hp : evP n' p' = []) (h' : n'.op = n.op) : DoesN n n' Option.none p' [] := by
  refine .inl ⟨rfl, ?_, ?_⟩
  · unfold evs; rw [hp, evP_none, h']
  · unfold cts
    rw [cB_none hn, evP_none, hp, h']
    have : cB n' p' = 0 := by simp [cB, hp, hn']
    rw [this]
end

theorem not_val {m : May} (h : m.nam = true) : m.val = false := by cases m <;> first | rfl | cases h
theorem val_not {m : May} (h : m.val = true) : m.isNothing = false := by cases m <;> first | rfl | cases h
theorem nam_not {m : May} (h : m.nam = true) : m.isNothing = false := by cases m <;> first | rfl | cases h

/-- A token by which a text goes on, where none has begun. -/
theorem takeO_ok (b : List UInt8) (n : Nst) (s : Nat × Option Nat) (t : Tok) (hi : InvN n s none) (ht : okTok b s t) (hw : okW none t) (h0 : (takeO n t).2.2 = 0) :
    InvN (takeO n t).1 (nextTok s t) (nextW t) ∧ DoesN n (takeO n t).1 none (nextW t) (takeO n t).2.1 := by
  obtain ⟨hb, hs2⟩ := hi.none rfl
  obtain ⟨most, op, may, begun, came⟩ := n
  obtain ⟨kd, bg, fr, to, tx⟩ := t
  have hb : begun = 0 := hb
  subst hb
  cases bg with
  | true =>
    obtain ⟨g1, g2, g3, g4⟩ : s.2 = none ∧ s.1 ≤ fr ∧ to = fr ∧ fr < b.length := ht
    obtain ⟨w1, w2⟩ : 8 ≤ kd ∧ kd ≤ 10 := hw
    have key : ∀ m : May, m = may → m ≠ .broken → m ≠ .nothing → takeO ⟨most, op, may, 0, came⟩ ⟨kd, true, fr, to, tx⟩ =
        (if kd = 8 ∧ m.nam = true then (⟨most, op, may, 8, true⟩, [], 0) else if m.val = true then (⟨most, op, may, kd, true⟩, [⟨1, beginK kd, fr, 0, stepO op, []⟩], 0) else badN ⟨most, op, may, 0, true⟩ 8) := by
      rintro m rfl h1 h2
      cases m <;> first | exact absurd rfl h1 | exact absurd rfl h2 | rfl
    by_cases h1 : may = .broken
    · subst h1; exact absurd h0 (by show (14 : Int) ≠ 0; decide)
    by_cases h2 : may = .nothing
    · subst h2; exact absurd h0 (by show (9 : Int) ≠ 0; decide)
    have hk := key may rfl h1 h2
    rw [hk] at h0 ⊢
    have hn : may.isNothing = false := by cases may <;> first | rfl | exact absurd rfl h2
    by_cases h8 : kd = 8 ∧ may.nam = true
    · rw [if_pos h8] at h0 ⊢
      obtain ⟨rfl, hna⟩ := h8
      refine ⟨⟨hi.most, hi.deep, (fun e => by cases e), (fun k f e => ?_), hi.noth, hi.low⟩, ?_⟩
      · injection e with e
        injection e with e1 e2
        subst e1 e2
        exact ⟨rfl, by omega, by omega, rfl, .inr hna⟩
      · exact does_none _ hn hn _ (show evP _ (some (8, fr)) = [] by simp [evP, not_val hna]) rfl
    · rw [if_neg h8] at h0 ⊢
      by_cases hv : may.val = true
      · rw [if_pos hv] at h0 ⊢
        refine ⟨⟨hi.most, hi.deep, (fun e => by cases e), (fun k f e => ?_), hi.noth, hi.low⟩, ?_⟩
        · injection e with e
          injection e with e1 e2
          subst e1 e2
          exact ⟨rfl, w1, w2, rfl, .inl hv⟩
        · have hp : evP ⟨most, op, may, kd, true⟩ (some (kd, fr)) = [⟨1, beginK kd, fr, 0, stepO op, []⟩] := by simp [evP, hv]
          refine does_open ⟨most, op, may, 0, came⟩ _ (some (kd, fr)) _ rfl rfl hn ?_ ?_
          · unfold evs; rw [hp, evP_none]; simp
          · unfold cts; rw [hp]; simp [cB, hp]
      · rw [if_neg hv] at h0
        exact absurd h0 (by show (8 : Int) ≠ 0; decide)
  | false =>
    obtain ⟨g1, g2, g3, g4, g5⟩ : (s.2 = none ∨ s.2 = some fr) ∧ s.1 ≤ fr ∧ fr < to ∧ to ≤ b.length ∧ AllBlank b s.1 fr := ht
    obtain ⟨w1, w2⟩ : 2 ≤ kd ∧ kd ≤ 7 := hw
    have hlow : ∀ o ∈ op, o.fr < to := fun o ho => by have : o.fr < s.1 := hi.low o ho; omega
    have close : ∀ (o : Opn) (r : List Opn) (m : May), op = o :: r → m.isNothing = false → InvN { endedN (⟨most, r, m, 0, came⟩ : Nst) with came := true } (to, none) none ∧
        DoesN ⟨most, op, m, 0, came⟩ { endedN (⟨most, r, m, 0, came⟩ : Nst) with came := true } none none [⟨2, o.kd, o.fr, to, o.step, []⟩] := by
      rintro o r m rfl hm
      refine ⟨⟨hi.most, ?_, fun _ => ⟨rfl, rfl⟩, (fun k f e => by cases e), ?_, ?_⟩, does_close o r _ to rfl hm (hlow o (by simp)) rfl rfl⟩
      · have := hi.deep
        show (moreO r).length ≤ most
        cases r <;> simp [moreO] at this ⊢ <;> omega
      · cases r with
        | nil => intro _; rfl
        | cons q r => intro h; cases h
      · intro x hx
        cases r with
        | nil => cases hx
        | cons q r =>
          rcases List.mem_cons.1 hx with rfl | hx
          · exact hlow q (by simp)
          · exact hlow x (by simp [hx])
    have stay : ∀ (m m' : May), m.isNothing = false → m'.isNothing = false → InvN (⟨most, op, m', 0, true⟩ : Nst) (to, none) none ∧ DoesN ⟨most, op, m, 0, came⟩ ⟨most, op, m', 0, true⟩ none none [] := fun m m' hm hm' =>
      ⟨⟨hi.most, hi.deep, fun _ => ⟨rfl, rfl⟩, (fun k f e => by cases e), (fun h => by rw [hm'] at h; cases h), hlow⟩, does_none _ hm hm' none rfl rfl⟩
    have opens : ∀ m : May, m = may → m.val = true → kd = 2 ∨ kd = 4 → op.length < most → InvN (⟨most, ⟨decide (kd = 4), fr, stepO op, 0, []⟩ :: op, if kd = 4 then .member else .item, 0, true⟩ : Nst) (to, none) none ∧
        DoesN ⟨most, op, m, 0, came⟩ ⟨most, ⟨decide (kd = 4), fr, stepO op, 0, []⟩ :: op, if kd = 4 then .member else .item, 0, true⟩ none none [⟨1, kd / 4 + 4, fr, 0, stepO op, []⟩] := by
      rintro m rfl hm hk hlt
      have hmay : (if kd = 4 then May.member else May.item).isNothing = false := by split <;> rfl
      refine ⟨⟨hi.most, (show (_ :: op).length ≤ most from hlt), fun _ => ⟨rfl, rfl⟩, (fun k f e => by cases e), (fun h => by rw [hmay] at h; cases h), ?_⟩, ?_⟩
      · intro x hx
        rcases List.mem_cons.1 hx with rfl | hx
        · exact g3
        · exact hlow x hx
      · have hkd : kd / 4 + 4 = (⟨decide (kd = 4), fr, stepO op, 0, []⟩ : Opn).kd := by
          rcases hk with rfl | rfl <;> rfl
        refine does_open ⟨most, op, m, 0, came⟩ _ none _ rfl rfl (val_not hm) ?_ ?_
        · unfold evs
          rw [evP_none, evP_none, hkd]
          simp [opE]
        · unfold cts
          rw [cB_none hmay, evP_none]
          simp [ctF]
    show InvN (takeO ⟨most, op, may, 0, came⟩ ⟨kd, false, fr, to, tx⟩).1 (to, none) none ∧ DoesN ⟨most, op, may, 0, came⟩ (takeO ⟨most, op, may, 0, came⟩ ⟨kd, false, fr, to, tx⟩).1 none none (takeO ⟨most, op, may, 0, came⟩ ⟨kd, false, fr, to, tx⟩).2.1
    by_cases hop : (kd = 2 ∨ kd = 4) ∧ may.val = true
    · have e : takeO ⟨most, op, may, 0, came⟩ ⟨kd, false, fr, to, tx⟩ = if most ≤ op.length then badN ⟨most, op, may, 0, true⟩ 12 else (⟨most, ⟨decide (kd = 4), fr, stepO op, 0, []⟩ :: op, if kd = 4 then .member else .item, 0, true⟩, [⟨1, kd / 4 + 4, fr, 0, stepO op, []⟩], 0) := by
        have hv := hop.2
        cases may <;> first | (cases hv; done) | (unfold takeO; simp only []; rw [if_neg (by simp), if_pos hop])
      rw [e] at h0 ⊢
      by_cases hd : most ≤ op.length
      · rw [if_pos hd] at h0
        exact absurd h0 (by show (12 : Int) ≠ 0; decide)
      · rw [if_neg hd]
        exact opens may rfl hop.2 hop.1 (by omega)
    · cases may with
      | broken => exact absurd h0 (by show (14 : Int) ≠ 0; decide)
      | nothing => exact absurd h0 (by show (9 : Int) ≠ 0; decide)
      | value =>
        unfold takeO at h0
        simp only [] at h0
        rw [if_neg (by simp), if_neg hop] at h0
        exact absurd h0 (by simp [badN])
      | name =>
        unfold takeO at h0
        simp only [] at h0
        rw [if_neg (by simp), if_neg hop] at h0
        exact absurd h0 (by simp [badN])
      | item =>
        cases hl : op with
        | nil =>
          unfold takeO at h0
          simp only [hl] at h0
          rw [if_neg (by simp), if_neg hop] at h0
          exact absurd h0 (by simp [badN])
        | cons o r =>
          unfold takeO at h0 ⊢
          simp only [hl] at h0 ⊢
          rw [if_neg (by simp), if_neg hop] at h0 ⊢
          by_cases hk : kd = 3
          · rw [if_pos hk]
            subst hl
            exact close o r .item rfl rfl
          · rw [if_neg hk] at h0
            exact absurd h0 (by simp [badN])
      | member =>
        cases hl : op with
        | nil =>
          unfold takeO at h0
          simp only [hl] at h0
          rw [if_neg (by simp), if_neg hop] at h0
          exact absurd h0 (by simp [badN])
        | cons o r =>
          unfold takeO at h0 ⊢
          simp only [hl] at h0 ⊢
          rw [if_neg (by simp), if_neg hop] at h0 ⊢
          by_cases hk : kd = 5
          · rw [if_pos hk]
            subst hl
            exact close o r .member rfl rfl
          · rw [if_neg hk] at h0
            exact absurd h0 (by simp [badN])
      | next =>
        cases hl : op with
        | nil =>
          unfold takeO at h0
          simp only [hl] at h0
          rw [if_neg (by simp), if_neg hop] at h0
          exact absurd h0 (by simp [badN])
        | cons o r =>
          unfold takeO at h0 ⊢
          simp only [hl] at h0 ⊢
          rw [if_neg (by simp), if_neg hop] at h0 ⊢
          by_cases hk : kd = if o.obj = true then 5 else 3
          · rw [if_pos hk]
            subst hl
            exact close o r .next rfl rfl
          · rw [if_neg hk] at h0 ⊢
            by_cases h6 : kd = 6
            · rw [if_pos h6]
              subst hl
              cases ho : o.obj
              · exact stay .next .value rfl rfl
              · exact stay .next .name rfl rfl
            · rw [if_neg h6] at h0
              exact absurd h0 (by simp [badN])
      | colon =>
        unfold takeO at h0 ⊢
        simp only [] at h0 ⊢
        rw [if_neg (by simp), if_neg hop] at h0 ⊢
        by_cases hk : kd = 7
        · rw [if_pos hk]
          exact stay .colon .value rfl rfl
        · rw [if_neg hk] at h0
          exact absurd h0 (by simp [badN])

/-- A token by which a text goes on. -/
theorem takeN_ok (b : List UInt8) (n : Nst) (s : Nat × Option Nat) (p : Option (Int × Nat)) (t : Tok) (hi : InvN n s p) (ht : okTok b s t) (hw : okW p t) (h0 : (takeN n t).2.2 = 0) :
    InvN (takeN n t).1 (nextTok s t) (nextW t) ∧ DoesN n (takeN n t).1 p (nextW t) (takeN n t).2.1 := by
  cases p with
  | none =>
    have e : takeN n t = takeO n t := by unfold takeN; rw [if_pos (hi.none rfl).1]
    rw [e] at h0 ⊢
    exact takeO_ok b n s t hi ht hw h0
  | some kf =>
    obtain ⟨k, f⟩ := kf
    obtain ⟨g1, g2, g3, g4, g5⟩ := hi.some k f rfl
    obtain ⟨w1, w2, w3, w4⟩ := hw
    obtain ⟨kd, bg, fr, to, tx⟩ := t
    have w1 : bg = false := w1
    have w2 : kd = k := w2
    have w3 : fr = f := w3
    subst w1 w2 w3
    obtain ⟨t1, t2, t3, t4, t5⟩ : (s.2 = none ∨ s.2 = some fr) ∧ s.1 ≤ fr ∧ fr < to ∧ to ≤ b.length ∧ AllBlank b s.1 fr := ht
    obtain ⟨most, op, may, begun, came⟩ := n
    have g1 : begun = kd := g1
    subst g1
    have hb : ¬ begun = 0 := by omega
    have hlow : ∀ o ∈ op, o.fr < to := fun o ho => by have : o.fr < s.1 := hi.low o ho; omega
    show InvN (takeN ⟨most, op, may, begun, came⟩ ⟨begun, false, fr, to, tx⟩).1 (to, none) none ∧ DoesN ⟨most, op, may, begun, came⟩ (takeN ⟨most, op, may, begun, came⟩ ⟨begun, false, fr, to, tx⟩).1 _ none (takeN ⟨most, op, may, begun, came⟩ ⟨begun, false, fr, to, tx⟩).2.1
    unfold takeN
    rw [if_neg hb]
    by_cases hn : may.nam = true
    · rw [if_pos hn]
      have hp : evP ⟨most, op, may, begun, came⟩ (some (begun, fr)) = [] := by simp [evP, not_val hn]
      refine ⟨⟨hi.most, ?_, fun _ => ⟨rfl, rfl⟩, (fun k f e => by cases e), (fun h => by cases h), ?_⟩, .inl ⟨rfl, ?_, ?_⟩⟩
      · have := hi.deep
        show (nameO tx op).length ≤ most
        cases op with
        | nil => simp [nameO]
        | cons q r => simpa [nameO] using this
      · intro o ho
        cases op with
        | nil => cases ho
        | cons q r =>
          rcases List.mem_cons.1 ho with rfl | ho
          · exact hlow q (by simp)
          · exact hlow o (by simp [ho])
      · unfold evs
        rw [hp, evP_none, map_rev, map_rev, opE_name]
      · unfold cts
        rw [hp, evP_none, ctF_name]
        have : cB ⟨most, op, may, begun, came⟩ (some (begun, fr)) = 0 := by simp [cB, hp, nam_not hn]
        rw [this]
        rfl
    · rw [if_neg hn]
      have hv : may.val = true := by rcases g5 with h | h
                                     · exact h
                                     · exact absurd h hn
      have hp : evP ⟨most, op, may, begun, came⟩ (some (begun, fr)) = [⟨1, beginK begun, fr, 0, stepO op, []⟩] := by simp [evP, hv]
      refine ⟨⟨hi.most, ?_, fun _ => ⟨rfl, rfl⟩, (fun k f e => by cases e), ?_, ?_⟩, .inr (.inr ⟨_, ⟨1, beginK begun, fr, 0, stepO op, []⟩, 0, rfl, rfl, ?_, ?_, rfl, rfl, ?_, t3⟩)⟩
      · have := hi.deep
        show (moreO op).length ≤ most
        cases op with
        | nil => simp [moreO]
        | cons q r => simpa [moreO] using this
      · cases op with
        | nil => intro _; rfl
        | cons q r => intro h; cases h
      · intro o ho
        cases op with
        | nil => cases ho
        | cons q r =>
          rcases List.mem_cons.1 ho with rfl | ho
          · exact hlow q (by simp)
          · exact hlow o (by simp [ho])
      · unfold evs
        rw [hp, evP_none, map_rev, map_rev]
        show _ = (((moreO op).map opE).reverse ++ []) ++ _
        rw [opE_more]
        simp
      · unfold cts
        rw [hp, evP_none]
        show (ctF (cB ⟨most, op, may, begun, came⟩ (some (begun, fr))) op).reverse ++ _ = (ctF (cB { endedN ⟨most, op, may, begun, came⟩ with begun := 0 } none) (moreO op)).reverse ++ [] ++ _
        have e1 : cB ⟨most, op, may, begun, came⟩ (some (begun, fr)) = 1 := by simp [cB, hp]
        have e2 : cB { endedN (⟨most, op, may, begun, came⟩ : Nst) with begun := 0 } none = if op.isEmpty then 1 else 0 := by
          unfold cB
          rw [evP_none]
          cases op <;> rfl
        rw [e1, e2, ct_ended]
        simp
      · have hk : begun = 8 ∨ begun = 9 ∨ begun = 10 := by omega
        rcases hk with rfl | rfl | rfl
        · exact .inl rfl
        · exact .inl rfl
        · show scalarK ⟨10, false, fr, to, tx⟩ = beginK 10 ∨ scalarK ⟨10, false, fr, to, tx⟩ = 1
          unfold scalarK
          simp only []
          rw [if_neg (by decide), if_neg (by decide)]
          split
          · exact .inl rfl
          · exact .inr rfl

/-- Beside a fault there are no events; of one token there is one at most. -/
theorem takeN_one (n : Nst) (t : Tok) : ((takeN n t).2.2 ≠ 0 → (takeN n t).2.1 = []) ∧ (takeN n t).2.1.length ≤ 1 := by
  have ho : ((takeO n t).2.2 ≠ 0 → (takeO n t).2.1 = []) ∧ (takeO n t).2.1.length ≤ 1 := by
    obtain ⟨most, op, may, begun, came⟩ := n
    cases may <;> cases op <;> unfold takeO <;> simp only [] <;> (repeat' split) <;> simp [badN]
  unfold takeN
  split
  · exact ho
  · split <;> simp

/-- Does it hold others? -/
def Evt.holds (e : Evt) : Bool := e.value == 4 || e.value == 5
theorem evs_deep (n : Nst) (p : Option (Int × Nat)) : ((evs n p).filter Evt.holds).length = n.op.length := by
  unfold evs
  rw [List.filter_append, List.length_append]
  have h1 : ∀ l : List Opn, ((l.map opE).filter Evt.holds).length = l.length := by
    intro l
    induction l with
    | nil => rfl
    | cons o r ih =>
      have : (opE o).holds = true := by cases h : o.obj <;> simp [opE, Opn.kd, h, Evt.holds]
      simp only [List.map_cons, List.filter_cons, this, if_true, List.length_cons, ih]
  have h2 : (evP n p).filter Evt.holds = [] := by
    cases p with
    | none => rfl
    | some kf =>
      obtain ⟨k, f⟩ := kf
      show (if n.may.val then [(⟨1, beginK k, f, 0, stepO n.op, []⟩ : Evt)] else []).filter Evt.holds = []
      split
      · have : (⟨1, beginK k, f, 0, stepO n.op, []⟩ : Evt).holds = false := by
          unfold Evt.holds beginK
          simp only []
          (repeat' split) <;> rfl
        simp only [List.filter_cons, this, List.filter_nil]
        rfl
      · rfl
  rw [h1, h2]
  simp
/-- The whole value has ended. -/
theorem evs_done (n : Nst) (s : Nat × Option Nat) (p : Option (Int × Nat)) (hi : InvN n s p) : n.may.isNothing = true ↔ evs n p = [] ∧ (cts n p).head? = some 1 := by
  constructor
  · intro h
    have hop := hi.noth h
    cases p with
    | none => exact ⟨by simp [evs, hop, evP], by simp [cts, hop, evP, ctF, cB, h]⟩
    | some kf =>
      obtain ⟨k, f⟩ := kf
      have := (hi.some k f rfl).2.2.2.2
      exfalso
      cases hm : n.may <;> simp_all [May.isNothing, May.val, May.nam]
  · rintro ⟨h1, h2⟩
    have hop : n.op = [] := by
      unfold evs at h1
      simpa using (List.append_eq_nil_iff.1 h1).1
    have hp : evP n p = [] := (List.append_eq_nil_iff.1 h1).2
    unfold cts at h2
    rw [hop, hp] at h2
    cases hn : n.may.isNothing
    · simp [ctF, cB, hp, hn] at h2
    · rfl
theorem cts_len (n : Nst) (p : Option (Int × Nat)) : (cts n p).length = (evs n p).length + 1 := by
  have : ∀ (l : List Opn) (c : Nat), (ctF c l).length = l.length + 1 := by
    intro l
    induction l with
    | nil => intro c; rfl
    | cons o r ih => intro c; simp [ctF, ih]
  simp [cts, evs, this]
  omega

end Go.Proofs.YthpkcapooeedeaaDoor

namespace Go.Proofs.YthpkcapooeedeaaDoor
open Go.RowKit
set_option linter.unusedVariables false

/-- How elements lie in a slice: their type, the slices' type, how many cells and bytes each takes, and which. -/
structure RowK (α : Type) where
  T : TypeId
  S : TypeId
  n : Nat
  bytes : Nat
  zero : Value
  enc : α → List Value
  pos : 0 < n
  len : ∀ a, (enc a).length = n
  one : ∀ a, ∀ u ∈ enc a, u.oneCell' = true
  under : Tryd.prog.underlying S = some (.slice T)
  info : (Tryd.prog.info? T).map (fun i => (i.zero, i.size, i.bytes)) = some (some zero, n, bytes)
  zlen : zero.cells.size = n
  small : bytes ≤ 1000

section
variable {α : Type} (K : RowK α)
/-- The cells of elements, one behind the other. -/
def RowK.all : List α → List Value
  | [] => []
  | a :: t => K.enc a ++ RowK.all t
theorem RowK.all_len : ∀ l : List α, (K.all l).length = l.length * K.n
  | [] => by simp [RowK.all]
  | a :: t => by simp [RowK.all, K.len, RowK.all_len t, Nat.add_mul]; omega
theorem RowK.all_append : ∀ l m : List α, K.all (l ++ m) = K.all l ++ K.all m
  | [], m => rfl
  | a :: t, m => by simp [RowK.all, RowK.all_append t m]
theorem RowK.all_one : ∀ l : List α, ∀ u ∈ K.all l, u.oneCell' = true
  | [], u, h => by cases h
  | a :: t, u, h => by
    rcases List.mem_append.1 h with h | h
    · exact K.one a u h
    · exact RowK.all_one t u h
theorem RowK.all_at : ∀ (l : List α) (i : Nat) (a : α), l[i]? = some a → ∀ j, j < K.n → (K.all l)[i * K.n + j]? = (K.enc a)[j]?
  | [], i, a, h => by cases h
  | u :: t, 0, a, h => by
    intro j hj
    obtain rfl : u = a := by simpa using h
    show (K.enc u ++ K.all t)[0 * K.n + j]? = _
    rw [Nat.zero_mul, Nat.zero_add, List.getElem?_append_left (by rw [K.len]; exact hj)]
  | u :: t, i + 1, a, h => by
    intro j hj
    have := RowK.all_at t i a (by simpa using h) j hj
    rw [← this]
    show (K.enc u ++ K.all t)[(i + 1) * K.n + j]? = _
    rw [List.getElem?_append_right (by rw [K.len, Nat.add_mul]; omega), K.len]
    congr 1
    rw [Nat.add_mul]
    omega
theorem RowK.all_take : ∀ (l : List α) (k : Nat), K.all (l.take k) = (K.all l).take (k * K.n)
  | [], k => by simp [RowK.all]
  | a :: t, 0 => by simp [RowK.all]
  | a :: t, k + 1 => by
    rw [List.take_succ_cons]
    show K.enc a ++ K.all (t.take k) = (K.enc a ++ K.all t).take ((k + 1) * K.n)
    have e1 : (K.enc a).take ((k + 1) * K.n) = K.enc a := List.take_of_length_le (by rw [K.len, Nat.add_mul]; omega)
    have e2 : (k + 1) * K.n - K.n = k * K.n := by rw [Nat.add_mul]; omega
    rw [RowK.all_take t k, List.take_append, K.len, e1, e2]

/-- What a slice of such elements reads as. -/
def RdG (w : World) (A : Option Addr) (m : Nat) (l : List α) : Prop :=
  l.length = m ∧ (0 < m → ∃ b o : Nat, A = some ⟨b, o, none⟩ ∧ b < w.heap.size ∧ ∀ j u, (K.all l)[j]? = some u → w.cell? ⟨b, o + j, none⟩ = some u)
/-- A slice of such elements of the call's own: its block is none below base. -/
def GRow (w : World) (base : Nat) (v : Value) (l : List α) : Prop := w.ownsRow base K.T K.n v l.length (K.all l)

variable {K} {w w' : World} {base : Nat} {v : Value} {l : List α}
theorem GRow.nil (w : World) (base : Nat) : GRow K w base (.slice none 0 0) [] := ⟨by simp [RowK.all], .inl ⟨rfl, rfl⟩⟩
theorem GRow.form (h : GRow K w base v l) : ∃ A c, v = .slice A l.length c ∧ l.length ≤ c ∧ c ≤ maxLen ∧ (0 < l.length → ∃ g, A = some ⟨g, 0, none⟩ ∧ base ≤ g ∧ g < w.heap.size) := by
  rcases h.2 with ⟨rfl, h0⟩ | ⟨g, c, cur, rfl, hb, hg, h1, h2, _⟩
  · exact ⟨none, 0, by rw [h0], by omega, by decide, fun h => by omega⟩
  · exact ⟨_, c, rfl, h1, h2, fun _ => ⟨g, rfl, hb, (Array.getElem?_eq_some_iff.1 hg).1⟩⟩
theorem GRow.stay (h : GRow K w base v l) (hk : ∀ g, v.ownBlock = some g → w'.heap[g]? = w.heap[g]?) : GRow K w' base v l := by
  refine ⟨h.1, ?_⟩
  rcases h.2 with hn | ⟨g, c, cur, rfl, hbg, hg, rest⟩
  · exact .inl hn
  · exact .inr ⟨g, c, cur, rfl, hbg, (hk g rfl).trans hg, rest⟩
theorem GRow.low (h : GRow K w base v l) {g : Nat} (hg : v.ownBlock = some g) : base ≤ g ∧ g < w.heap.size := by
  rcases h.2 with ⟨rfl, _⟩ | ⟨g', c, cur, rfl, hb, hh, _⟩
  · cases hg
  · obtain rfl : g' = g := by simpa [Value.ownBlock] using hg
    exact ⟨hb, (Array.getElem?_eq_some_iff.1 hh).1⟩
theorem GRow.mono {B : Nat} (h : GRow K w base v l) (hB : B ≤ base) : GRow K w B v l := by
  refine ⟨h.1, ?_⟩
  rcases h.2 with hn | ⟨g, c, cur, rfl, hbg, rest⟩
  · exact .inl hn
  · exact .inr ⟨g, c, cur, rfl, by omega, rest⟩
theorem GRow.rd {A : Option Addr} {m c : Nat} (h : GRow K w base (.slice A m c) l) : RdG K w A l.length l := by
  refine ⟨rfl, fun hn => ?_⟩
  rcases h.2 with ⟨hv, h0⟩ | ⟨g, c', cur, hv, hb, hg, _⟩
  · omega
  · injection hv with hA hn' hc
    subst hA hn' hc
    have hc := h.cells (g := g) rfl
    refine ⟨g, 0, rfl, (Array.getElem?_eq_some_iff.1 hg).1, fun j u hu => ?_⟩
    have := hc j u hu
    rwa [add_none] at this
/-- An element's cells. -/
theorem RdG.at {A : Option Addr} {m : Nat} (h : RdG K w A m l) {b o : Nat} (hA : A = some ⟨b, o, none⟩) {i : Nat} {a : α} (ha : l[i]? = some a) {j : Nat} {u : Value} (hu : (K.enc a)[j]? = some u) : w.cell? ⟨b, o + (i * K.n + j), none⟩ = some u := by
  have hi : i < l.length := (List.getElem?_eq_some_iff.1 ha).1
  obtain ⟨b', o', e, _, hc⟩ := h.2 (by have := h.1; omega)
  rw [hA] at e
  injection e with e
  injection e with e1 e2
  subst e1 e2
  have hj : j < K.n := by
    have := (List.getElem?_eq_some_iff.1 hu).1
    rwa [K.len] at this
  exact hc _ _ ((K.all_at l i a ha j hj).trans hu)
/-- Elements just made. -/
theorem GRow.made (w : World) (cs : Array Value) (hc : cs = (K.all l).toArray) (hl : l.length ≤ maxLen) (hb : base ≤ w.heap.size) : GRow K (w.alloc (.cells cs K.T)) base (.slice (some ⟨w.heap.size, 0, none⟩) l.length l.length) l := by
  subst hc
  refine ⟨K.all_len l, .inr ⟨w.heap.size, l.length, _, rfl, hb, heap_alloc_new w _, Nat.le_refl _, hl, by simp [K.all_len], ?_⟩⟩
  rw [List.take_of_length_le]
  simp [K.all_len]
/-- Cut off behind the first k. -/
theorem GRow.cut {A : Option Addr} {m c k : Nat} (h : GRow K w base (.slice A m c) l) (hk : k ≤ l.length) : GRow K w base (.slice A k c) (l.take k) := by
  have hl : (l.take k).length = k := by simp; omega
  unfold GRow at h ⊢
  rw [hl]
  refine ⟨by rw [K.all_len, hl], ?_⟩
  rcases h.2 with ⟨hv, h0⟩ | ⟨g, c', cur, hv, hb, hg, h1, h2, h3, h4⟩
  · injection hv with hA hm hc
    obtain rfl : k = 0 := by omega
    exact .inl ⟨by rw [hA, hc], rfl⟩
  · injection hv with hA hm hc
    refine .inr ⟨g, c', cur, by rw [hA, hc], hb, hg, by omega, h2, h3, ?_⟩
    rw [K.all_take, ← h4, List.take_take, Nat.min_eq_left (Nat.mul_le_mul_right _ hk)]
/-- One element of one cell written over. -/
theorem GRow.put {g m c i : Nat} {a : α} {u : Value} (h1 : K.n = 1) (h : GRow K w base (.slice (some ⟨g, 0, none⟩) m c) l) (hi : i < l.length) (hu : K.enc a = [u]) : GRow K (w.setCell ⟨g, i, none⟩ u) base (.slice (some ⟨g, 0, none⟩) m c) (l.set i a) := by
  have hset : ∀ (l : List α) (i : Nat), i < l.length → K.all (l.set i a) = (K.all l).set i u := by
    intro l
    induction l with
    | nil => intro i h; simp at h
    | cons b t ih =>
      intro i hi
      obtain ⟨x, hx⟩ : ∃ x, K.enc b = [x] := by
        have := K.len b
        rw [h1] at this
        exact List.length_eq_one_iff.1 this
      cases i with
      | zero => show K.enc a ++ K.all t = (K.enc b ++ K.all t).set 0 u; rw [hu, hx]; rfl
      | succ i =>
        show K.enc b ++ K.all (t.set i a) = (K.enc b ++ K.all t).set (i + 1) u
        rw [hx, ih i (by simpa using hi)]; rfl
  unfold GRow at h ⊢
  rw [List.length_set, hset l i hi]
  refine ⟨by rw [List.length_set]; exact h.1, ?_⟩
  rcases h.2 with ⟨hv, h0⟩ | ⟨g', c', cur, hv, hb, hg, g1, g2, g3, g4⟩
  · cases hv
  · injection hv with hA hm hc
    injection hA with hA
    injection hA with hA
    subst hA
    refine .inr ⟨g, c', cur.setIfInBounds i u, by rw [hm, hc], hb, ?_, g1, g2, by simpa using g3, ?_⟩
    · simp [World.setCell, Array.getElem?_modify, hg]
    · rw [Array.toList_setIfInBounds, List.take_set, g4]

theorem GRow.free {g m c : Nat} (h : GRow K w base (.slice (some ⟨g, 0, none⟩) m c) l) (i : Nat) : w.frozen? ⟨g, i, none⟩ = false := by
  rcases h.2 with ⟨hv, h0⟩ | ⟨g', c', cur, hv, hb, hg, _⟩
  · cases hv
  · injection hv with hA hm hc
    injection hA with hA
    injection hA with hA
    subst hA
    simp [World.frozen?, hg]

theorem run_row_append (w : World) (base : Nat) (ty : TypeId) (v : Value) (l : List α) (hown : GRow K w base v l) (A : Option Addr) (m c : Nat) (news : List α) (hr : RdG K w A m news)
    (h63 : l.length + m ≤ 1000000000) (hbase : base ≤ w.heap.size) :
    ∃ v' w', (Builtin.append_ #[K.S, K.S] ty #[v, .slice A m c]).run Tryd.prog w = .ok v' w' ∧ GRow K w' base v' (l ++ news) ∧ w.grownBy w' v.ownBlock ∧ (v'.ownBlock = v.ownBlock ∨ v'.ownBlock = some w.heap.size) := by
  obtain ⟨i, hi, hz, hsize, hby⟩ := info_parts K.info
  have hl : (l ++ news).length = l.length + m := by rw [List.length_append, hr.1]
  cases A with
  | none =>
    have hm : m = 0 := by
      by_cases h : 0 < m
      · obtain ⟨b, o, e, _⟩ := hr.2 h
        cases e
      · omega
    subst hm
    obtain rfl : news = [] := List.eq_nil_of_length_eq_zero hr.1
    refine ⟨v, w, ?_, by simpa using hown, ⟨rfl, rfl, rfl, Nat.le_refl _, fun _ _ _ => rfl⟩, .inl rfl⟩
    have ht := K.under
    rcases hown.2 with ⟨rfl, h0⟩ | ⟨g, cap, cur, rfl, _, _, hnc, _⟩
    · simp [Builtin.append_, run_underlying ht, sizeOf, typeInfo, hi, Builtin.lenOf, Builtin.firstCells]
    · simp [Builtin.append_, run_underlying ht, sizeOf, typeInfo, hi, Builtin.lenOf, Builtin.firstCells, hnc, storeCells]
  | some ad =>
    have hc : ∀ j u, (K.all news)[j]? = some u → w.cell? (ad.add j) = some u := by
      intro j u hu
      have hm : 0 < m := by
        have h1 := hr.1
        have h2 := (List.getElem?_eq_some_iff.1 hu).1
        rw [K.all_len] at h2
        rcases Nat.eq_zero_or_pos news.length with h | h
        · rw [h] at h2; simp at h2
        · omega
      obtain ⟨b, o, e, _, h⟩ := hr.2 hm
      have e' : ad = ⟨b, o, none⟩ := Option.some.inj e
      rw [e', add_none]
      exact h j u hu
    have hbytes : (l.length + m) * K.bytes ≤ 140737488355328 := by
      have := Nat.mul_le_mul h63 K.small
      omega
    obtain ⟨v', w', h1, h2, h3, _, h5⟩ := run_append_own_at (P := Tryd.prog) w base K.S ty K.T i _ K.n K.bytes K.under hi hz hsize hby K.zlen K.pos v l.length (K.all l) hown ad m c (K.all news) (by rw [K.all_len, hr.1]) hc (K.all_one news) (by unfold maxLen; omega) hbytes hbase
    refine ⟨v', w', h1, ?_, h3, h5⟩
    unfold GRow
    rw [hl, K.all_append]
    exact h2

/-- Appending elements. -/
theorem row_append {ops : Array Oper} {rest : List Oper} {o : Oper} {a : Act} {Q : Exit → Act → World → Prop} (w : World) (hgd : o.guard = none) (s x : Operand) (ho : o.op = .call { callee := .builtin .append, args := #[s, x], argTypes := #[K.S, K.S] })
    (base : Nat) (v : Value) (l : List α) (hs : a.eval s = v) (hown : GRow K w base v l) (A : Option Addr) (m c : Nat) (news : List α) (hx : a.eval x = .slice A m c) (hr : RdG K w A m news)
    (h63 : l.length + m ≤ 1000000000) (hbase : base ≤ w.heap.size)
    (h : ∀ v' w', GRow K w' base v' (l ++ news) → w.grownBy w' v.ownBlock → (v'.ownBlock = v.ownBlock ∨ v'.ownBlock = some w.heap.size) → wpList Tryd.prog ops Q rest (a.put o.dst v') w') : wpList Tryd.prog ops Q (o :: rest) a w :=
  wpList_plain hgd fun _ hK => by
    obtain ⟨v', w', hrun, h2, h3, h5⟩ := run_row_append w base o.type v l hown A m c news hr h63 hbase
    unfold Oper.wp execOp
    simp only [ho, resolve, invoke, builtin, Sem.run_bind, Sem.run_pure, Result.andThen_ok, List.map_toArray, List.map_cons, List.map_nil, hs, hx, hrun]
    exact hK _ _ (h v' w' h2 h3 h5)
end

end Go.Proofs.YthpkcapooeedeaaDoor

namespace Go.Proofs.YthpkcapooeedeaaDoor
open Go.RowKit
set_option linter.unusedVariables false

def evCells (e : Evt) : List Value := [.int .i64 e.kind, .int .i64 e.value, .int .i64 e.fr, .int .i64 e.to, .bool e.step.named, .string ⟨e.step.name.toArray⟩, .int .i64 e.step.index, .string ⟨e.text.toArray⟩]
/-- Slices of events. -/
def evK : RowK Evt where
  T := 55
  S := 49
  n := 8
  bytes := 80
  zero := .agg #[.int .i64 0, .int .i64 0, .int .i64 0, .int .i64 0, .bool false, .string ⟨#[]⟩, .int .i64 0, .string ⟨#[]⟩]
  enc := evCells
  pos := by decide
  len := fun _ => rfl
  one := fun e u h => by
    simp [evCells] at h
    rcases h with rfl | rfl | rfl | rfl | rfl | rfl | rfl | rfl <;> rfl
  under := Tryd.underlying49
  info := by kernel_rfl
  zlen := rfl
  small := by decide
end Go.Proofs.YthpkcapooeedeaaDoor
