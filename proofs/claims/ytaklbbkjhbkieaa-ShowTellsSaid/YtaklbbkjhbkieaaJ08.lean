/- A value's own bytes, as plain mathematics: tokens do within what is open around as they do alone. -/
import Derived.Test.YtaklbbkjhbkieaaRows
import Derived.Test.YtaklbbkjhbkieaaJ04
namespace Go.Proofs.Ytaklbbkjhbkieaa
set_option linter.unusedVariables false

def zeroS0 : Stp := ⟨false, [], 0⟩
/-- What is open, the steps aside. -/
def erO (o : Opn) : Opn := { o with step := zeroS0 }
def erN (n : Nst) : Nst := { n with op := n.op.map erO }
/-- An event as what makes values looks at it. -/
def erE (e : Evt) : Evt := if e.kind = 1 then e else { e with step := zeroS0 }
theorem stepO_er (op : List Opn) : stepO (op.map erO) = stepO op := by cases op <;> rfl
theorem more_er (op : List Opn) : moreO (op.map erO) = (moreO op).map erO := by cases op <;> rfl
theorem name_er (s : List UInt8) (op : List Opn) : nameO s (op.map erO) = (nameO s op).map erO := by cases op <;> rfl
theorem er_er (op : List Opn) : (op.map erO).map erO = op.map erO := by simp [erO, Function.comp_def]

/-- Behind the end of a value that stood alone, or in what is open around. -/
def liftM (S : List Opn) (m : May) : May := match m with
  | .nothing => if S.isEmpty then .nothing else .next
  | m => m
def liftO (S : List Opn) (m : May) (op : List Opn) : List Opn := match m with
  | .nothing => op ++ moreO S
  | _ => op ++ S
/-- The same, with S open around it. -/
def liftN (M : Nat) (S : List Opn) (n : Nst) : Nst := { n with most := M, op := liftO S n.may n.op, may := liftM S n.may }

theorem erE_open (e : Evt) (h : e.kind = 1) : erE e = e := by unfold erE; rw [if_pos h]
theorem erE_close (a b : Evt) (ha : a.kind = 2) (hb : b.kind = 2) (h : a.value = b.value) (h1 : a.fr = b.fr) (h2 : a.to = b.to) (h3 : a.text = b.text) : erE a = erE b := by
  obtain ⟨k, v, f, t, s, x⟩ := a
  obtain ⟨k', v', f', t', s', x'⟩ := b
  simp only at ha hb h h1 h2 h3
  subst ha hb h h1 h2 h3
  rfl

/-- What a token does. -/
def Alike (M : Nat) (S : List Opn) (a b : Nst × List Evt × Int) : Prop := erN a.1 = liftN M S (erN b.1) ∧ a.2.1.map erE = b.2.1.map erE ∧ b.2.2 = 0

theorem frame_tok (M : Nat) (S : List Opn) (hS : S.map erO = S) (n : Nst) (t : Tok) (hm : n.may.isNothing = false) (hM : M ≤ n.most + S.length) (h0 : n.op = [] → n.begun ≠ 0 ∧ n.may.val = true) (hf : (takeN (liftN M S n) t).2.2 = 0) :
    Alike M S (takeN (liftN M S n) t) (takeN n t) := by
  obtain ⟨most, op, may, begun, came⟩ := n
  have hl : liftN M S ⟨most, op, may, begun, came⟩ = ⟨M, op ++ S, may, begun, came⟩ := by
    cases may <;> first | (cases hm; done) | rfl
  rw [hl] at hf ⊢
  have hmS : (moreO S).map erO = moreO S := by rw [← more_er, hS]
  -- what ends
  have ended : ∀ (o r : List Opn) (kd : Int) (b' : Int) (ca : Bool), erN { endedN (⟨M, r ++ S, may, begun, ca⟩ : Nst) with begun := b' } = liftN M S (erN { endedN (⟨most, r, may, begun, ca⟩ : Nst) with begun := b' }) := by
    intro o r kd b' ca
    cases r with
    | nil =>
      unfold erN endedN liftN
      simp [liftO, liftM, show moreO ([] : List Opn) = [] from rfl]
      exact hmS
    | cons q r =>
      unfold erN endedN liftN
      simp [moreO, liftO, liftM, hS]
  by_cases hb : begun = 0
  · subst hb
    cases op with
    | nil => exact absurd rfl (h0 rfl).1
    | cons o r =>
      obtain ⟨kd, bg, fr, to, tx⟩ := t
      have hMl : M ≤ most + S.length := hM
      have e : ∀ (M' : Nat) (op' : List Opn), takeN ⟨M', op', may, 0, came⟩ ⟨kd, bg, fr, to, tx⟩ = takeO ⟨M', op', may, 0, came⟩ ⟨kd, bg, fr, to, tx⟩ := by
        intro M' op'
        unfold takeN
        rw [if_pos rfl]
      rw [e] at hf
      rw [e, e]
      have hE : ∀ b' ca m, erN { endedN (⟨M, r ++ S, m, b', ca⟩ : Nst) with came := true } = liftN M S (erN { endedN (⟨most, r, m, b', ca⟩ : Nst) with came := true }) := by
        intro b' ca m
        cases r with
        | nil =>
          unfold erN endedN liftN
          simp [liftO, liftM, show moreO ([] : List Opn) = [] from rfl]
          exact hmS
        | cons q r =>
          unfold erN endedN liftN
          simp [moreO, liftO, liftM, hS]
      rw [List.cons_append] at hf ⊢
      cases may <;> first
        | (cases hm; done)
        | (exact absurd hf (by unfold takeO; decide))
        | skip
      all_goals
        unfold takeO at hf ⊢
        simp only [] at hf ⊢
        revert hf
        (repeat' split) <;> intro hf <;> first
          | exact absurd hf (by show (8 : Int) ≠ 0; decide)
          | exact absurd hf (by show (12 : Int) ≠ 0; decide)
          | exact ⟨hE _ _ _, rfl, rfl⟩
          | (refine ⟨?_, rfl, rfl⟩; unfold erN liftN; simp [liftO, liftM, hS, erO])
          | (exfalso; simp only [List.length_cons, List.length_append] at *; omega)
  · have e1 : ∀ (M' : Nat) (op' : List Opn), takeN ⟨M', op', may, begun, came⟩ t = if may.nam = true then (⟨M', nameO t.text op', .colon, 0, came⟩, [], 0) else ({ endedN (⟨M', op', may, begun, came⟩ : Nst) with begun := 0 }, [⟨2, scalarK t, t.fr, t.to, stepO op', t.text⟩], 0) := by
      intro M' op'
      unfold takeN
      rw [if_neg hb]
    rw [e1, e1]
    by_cases hn : may.nam = true
    · rw [if_pos hn, if_pos hn]
      cases op with
      | nil => have := (h0 rfl).2; cases may <;> first | (cases hn; done) | (cases this; done)
      | cons o r =>
        refine ⟨?_, rfl, rfl⟩
        unfold erN liftN
        simp [nameO, liftO, liftM, hS]
    · rw [if_neg hn, if_neg hn]
      refine ⟨ended [] op 0 0 came, ?_, rfl⟩
      simp [erE]

end Go.Proofs.Ytaklbbkjhbkieaa

namespace Go.Proofs.Ytaklbbkjhbkieaa
set_option linter.unusedVariables false

theorem bldE_er (b : Bld) (e : Evt) : bldE b (erE e) = bldE b e := by
  unfold erE
  split
  · rfl
  · rename_i h
    obtain ⟨k, v, f, t, s, x⟩ := e
    have h : ¬ k = 1 := h
    unfold bldE
    simp only []
    rw [if_neg h, if_neg h]
theorem bldA_er (es : List Evt) : ∀ b : Bld, bldA b (es.map erE) = bldA b es := by
  induction es with
  | nil => intro b; rfl
  | cons e es ih =>
    intro b
    show bldA (bldE b (erE e)) (es.map erE) = bldA (bldE b e) es
    rw [bldE_er, ih]

/-- Two places in texts that differ in the steps of what is open alone do alike. -/
theorem er_tok (n m : Nst) (t : Tok) (h : erN n = erN m) : erN (takeN n t).1 = erN (takeN m t).1 ∧ (takeN n t).2.1.map erE = (takeN m t).2.1.map erE ∧ (takeN n t).2.2 = (takeN m t).2.2 := by
  obtain ⟨most, op, may, begun, came⟩ := n
  obtain ⟨most', op', may', begun', came'⟩ := m
  have hop : op.map erO = op'.map erO := congrArg Nst.op h
  have h1 : most = most' := congrArg Nst.most h
  have h2 : may = may' := congrArg Nst.may h
  have h3 : begun = begun' := congrArg Nst.begun h
  have h4 : came = came' := congrArg Nst.came h
  subst h1 h2 h3 h4
  have hst : stepO op = stepO op' := by rw [← stepO_er, hop, stepO_er]
  have hlen : op.length = op'.length := by have := congrArg List.length hop; simpa using this
  have hemp : op.isEmpty = op'.isEmpty := by cases op <;> cases op' <;> first | rfl | simp at hlen
  have hmore : (moreO op).map erO = (moreO op').map erO := by rw [← more_er, hop, more_er]
  unfold takeN
  split
  · have close : ∀ (o o' : Opn) (r r' : List Opn) (k : Nat) (c : Bool) (m : May), erO o = erO o' → r.map erO = r'.map erO →
        erN { endedN (⟨most, r, m, begun, c⟩ : Nst) with came := true } = erN { endedN (⟨most, r', m, begun, c⟩ : Nst) with came := true } ∧ [(⟨2, o.kd, o.fr, t.to, o.step, []⟩ : Evt)].map erE = [(⟨2, o'.kd, o'.fr, t.to, o'.step, []⟩ : Evt)].map erE := by
      intro o o' r r' k c m h hr
      have hf : o.fr = o'.fr := by have : (erO o).fr = (erO o').fr := by rw [h]
                                   exact this
      have ho : o.obj = o'.obj := by have : (erO o).obj = (erO o').obj := by rw [h]
                                     exact this
      have he : r.isEmpty = r'.isEmpty := by
        have := congrArg List.length hr
        cases r <;> cases r' <;> first | rfl | simp at this
      have hm : (moreO r).map erO = (moreO r').map erO := by rw [← more_er, hr, more_er]
      refine ⟨?_, ?_⟩
      · unfold erN endedN
        simp only []
        rw [hm, he]
      · simp [erE, Opn.kd, hf, ho]
    cases op with
    | nil =>
      obtain rfl : op' = [] := by cases op' <;> first | rfl | simp at hlen
      exact ⟨rfl, rfl, rfl⟩
    | cons o r =>
      cases op' with
      | nil => simp at hlen
      | cons o' r' =>
        have e1 : erO o = erO o' := by have := hop; simp at this; exact this.1
        have e2 : r.map erO = r'.map erO := by have := hop; simp at this; simpa using this.2
        have ho : o.obj = o'.obj := by have : (erO o).obj = (erO o').obj := by rw [e1]
                                       exact this
        have hc := fun c m => close o o' r r' 0 c m e1 e2
        unfold takeO
        cases may
        case broken => exact ⟨h, rfl, rfl⟩
        all_goals simp only [] <;> (repeat' split) <;> first
          | contradiction
          | exact ⟨h, rfl, rfl⟩
          | exact ⟨(hc _ _).1, (hc came .value).2, rfl⟩
          | (refine ⟨?_, ?_, rfl⟩
             · unfold erN
               simp only [badN, List.map_cons, hop, hst]
               try rfl
             · first
                | rfl
                | (rw [hst]))
          | (exfalso; simp only [List.length_cons, ho] at *; omega)
          | (exfalso; simp only [List.length_cons, ho] at *; contradiction)
          | (exfalso; simp_all; done)
  · split
    · refine ⟨?_, rfl, rfl⟩
      unfold erN
      simp only []
      rw [← name_er, hop, name_er]
    · refine ⟨?_, ?_, rfl⟩
      · unfold erN endedN
        simp only []
        rw [hmore, hemp]
      · simp [erE]

end Go.Proofs.Ytaklbbkjhbkieaa

namespace Go.Proofs.Ytaklbbkjhbkieaa
set_option linter.unusedVariables false

def shT (a : Nat) (t : Tok) : Tok := { t with fr := t.fr + a, to := t.to + a }
def shO (a : Nat) (o : Opn) : Opn := { o with fr := o.fr + a }
def shN (a : Nat) (n : Nst) : Nst := { n with op := n.op.map (shO a) }
def shE (a : Nat) (e : Evt) : Evt := { e with fr := e.fr + a, to := if e.kind = 1 then e.to else e.to + a }
def shL (a : Nat) : LSt → LSt
  | .out => .out
  | .num x f p => .num x (f + a) p
  | .word f p => .word (f + a) p
  | .str q f acc => .str q (f + a) acc
  | .dead => .dead

theorem sh_out (a k : Nat) (c : UInt8) : outL (k + a) c = ((outL k c).1.map (shT a), (outL k c).2.1, shL a (outL k c).2.2) := by
  have e : k + a + 1 = k + 1 + a := by omega
  unfold outL
  rw [e]
  (repeat' split) <;> first | rfl | (exfalso; contradiction)
theorem sh_step (a : Nat) (st : LSt) (k : Nat) (c : UInt8) : stepL (shL a st) (k + a) c = ((stepL st k c).1.map (shT a), (stepL st k c).2.1, shL a (stepL st k c).2.2) := by
  have e : k + a + 1 = k + 1 + a := by omega
  cases st with
  | out => exact sh_out a k c
  | dead => rfl
  | num x f p =>
    show (if nxI x c.toNat ≠ 0 then (([], 0, LSt.num (nxI x c.toNat) (f + a) (p ++ [c])) : List Tok × Int × LSt) else
      if whI x && !stickI c.toNat then (⟨9, false, f + a, k + a, p⟩ :: (outL (k + a) c).1, (outL (k + a) c).2.1, (outL (k + a) c).2.2) else ([], 5, .dead)) =
      ((if nxI x c.toNat ≠ 0 then (([], 0, LSt.num (nxI x c.toNat) f (p ++ [c])) : List Tok × Int × LSt) else if whI x && !stickI c.toNat then (⟨9, false, f, k, p⟩ :: (outL k c).1, (outL k c).2.1, (outL k c).2.2) else ([], 5, .dead)).1.map (shT a),
       (if nxI x c.toNat ≠ 0 then (([], 0, LSt.num (nxI x c.toNat) f (p ++ [c])) : List Tok × Int × LSt) else if whI x && !stickI c.toNat then (⟨9, false, f, k, p⟩ :: (outL k c).1, (outL k c).2.1, (outL k c).2.2) else ([], 5, .dead)).2.1,
       shL a (if nxI x c.toNat ≠ 0 then (([], 0, LSt.num (nxI x c.toNat) f (p ++ [c])) : List Tok × Int × LSt) else if whI x && !stickI c.toNat then (⟨9, false, f, k, p⟩ :: (outL k c).1, (outL k c).2.1, (outL k c).2.2) else ([], 5, .dead)).2.2)
    rw [sh_out]
    by_cases h1 : nxI x c.toNat ≠ 0
    · simp only [if_pos h1]; rfl
    · simp only [if_neg h1]
      split <;> rfl
  | word f p =>
    show (if refL (p ++ [c]) = 2 then (([], 6, LSt.dead) : List Tok × Int × LSt) else if refL (p ++ [c]) = 1 then ([⟨10, false, f + a, k + a + 1, p ++ [c]⟩], 0, .out) else ([], 0, .word (f + a) (p ++ [c]))) =
      ((if refL (p ++ [c]) = 2 then (([], 6, LSt.dead) : List Tok × Int × LSt) else if refL (p ++ [c]) = 1 then ([⟨10, false, f, k + 1, p ++ [c]⟩], 0, .out) else ([], 0, .word f (p ++ [c]))).1.map (shT a),
       (if refL (p ++ [c]) = 2 then (([], 6, LSt.dead) : List Tok × Int × LSt) else if refL (p ++ [c]) = 1 then ([⟨10, false, f, k + 1, p ++ [c]⟩], 0, .out) else ([], 0, .word f (p ++ [c]))).2.1,
       shL a (if refL (p ++ [c]) = 2 then (([], 6, LSt.dead) : List Tok × Int × LSt) else if refL (p ++ [c]) = 1 then ([⟨10, false, f, k + 1, p ++ [c]⟩], 0, .out) else ([], 0, .word f (p ++ [c]))).2.2)
    rw [e]
    by_cases h1 : refL (p ++ [c]) = 2
    · simp only [if_pos h1]; rfl
    · simp only [if_neg h1]
      split <;> rfl
  | str q f acc =>
    show strL q (f + a) acc (k + a) c (stepQ q c) = ((strL q f acc k c (stepQ q c)).1.map (shT a), (strL q f acc k c (stepQ q c)).2.1, shL a (strL q f acc k c (stepQ q c)).2.2)
    cases stepQ q c with
    | none => rfl
    | some x =>
      obtain ⟨q', y⟩ := x
      cases q' <;> first
        | rfl
        | (show (([⟨8, false, f + a, k + a + 1, acc ++ y⟩], 0, LSt.out) : List Tok × Int × LSt) = _; rw [e]; rfl)
theorem sh_close (a : Nat) (st : LSt) (k : Nat) : closeL (shL a st) (k + a) = ((closeL st k).1.map (shT a), (closeL st k).2) := by
  cases st with
  | num x f p =>
    show (if whI x then (([⟨9, false, f + a, k + a, p⟩], 1) : List Tok × Int) else ([], 10)) = ((if whI x then (([⟨9, false, f, k, p⟩], 1) : List Tok × Int) else ([], 10)).1.map (shT a), (if whI x then (([⟨9, false, f, k, p⟩], 1) : List Tok × Int) else ([], 10)).2)
    split <;> rfl
  | _ => rfl

theorem sh_stepO (a : Nat) (op : List Opn) : stepO (op.map (shO a)) = stepO op := by cases op <;> rfl
theorem sh_more (a : Nat) (op : List Opn) : moreO (op.map (shO a)) = (moreO op).map (shO a) := by cases op <;> rfl
theorem sh_name (a : Nat) (s : List UInt8) (op : List Opn) : nameO s (op.map (shO a)) = (nameO s op).map (shO a) := by cases op <;> rfl
theorem sh_ended (a : Nat) (n : Nst) : endedN (shN a n) = shN a (endedN n) := by
  unfold endedN shN
  simp only []
  rw [sh_more]
  have : (n.op.map (shO a)).isEmpty = n.op.isEmpty := by cases n.op <;> rfl
  rw [this]

theorem sh_tok (a : Nat) (n : Nst) (t : Tok) : takeN (shN a n) (shT a t) = (shN a (takeN n t).1, (takeN n t).2.1.map (shE a), (takeN n t).2.2) := by
  obtain ⟨most, op, may, begun, came⟩ := n
  obtain ⟨kd, bg, fr, to, tx⟩ := t
  have hlen : (op.map (shO a)).length = op.length := by simp
  unfold takeN
  show (if begun = 0 then _ else _) = _
  by_cases hb : begun = 0
  · simp only [if_pos hb]
    have hE : ∀ (r : List Opn) (m : May), ({ endedN (⟨most, r.map (shO a), m, begun, came⟩ : Nst) with came := true } : Nst) = shN a { endedN (⟨most, r, m, begun, came⟩ : Nst) with came := true } := by
      intro r m
      have := sh_ended a ⟨most, r, m, begun, came⟩
      have e : endedN (⟨most, r.map (shO a), m, begun, came⟩ : Nst) = shN a (endedN ⟨most, r, m, begun, came⟩) := this
      rw [e]
      rfl
    unfold takeO shN shT
    cases op with
    | nil => cases may <;> simp only [List.map_nil] <;> (repeat' split) <;> first | rfl | contradiction
    | cons o r =>
      have hst : stepO ((o :: r).map (shO a)) = stepO (o :: r) := sh_stepO a _
      cases may <;> simp only [List.map_cons] <;> (repeat' split) <;> first
        | contradiction
        | rfl
        | (refine Prod.ext ?_ rfl; exact hE r _)
        | (exfalso; simp only [List.length_cons, List.length_map] at *; omega)
        | (exfalso; simp_all [shO]; done)
  · simp only [if_neg hb]
    by_cases hn : may.nam = true
    · have : (shN a ⟨most, op, may, begun, came⟩).may.nam = true := hn
      simp only [if_pos hn, if_pos this]
      unfold shN
      simp only []
      rw [sh_name]
      rfl
    · have : ¬ (shN a ⟨most, op, may, begun, came⟩).may.nam = true := hn
      simp only [if_neg hn, if_neg this]
      rw [sh_ended]
      have e2 : stepO (shN a ⟨most, op, may, begun, came⟩).op = stepO op := sh_stepO a op
      rw [e2]
      rfl

end Go.Proofs.Ytaklbbkjhbkieaa

namespace Go.Proofs.Ytaklbbkjhbkieaa
set_option linter.unusedVariables false

theorem sh_all (a : Nat) (ts : List Tok) : ∀ n : Nst, takeAll (shN a n) (ts.map (shT a)) = (shN a (takeAll n ts).1, (takeAll n ts).2.1.map (shE a), (takeAll n ts).2.2) := by
  induction ts with
  | nil => intro n; rfl
  | cons t ts ih =>
    intro n
    show (if (takeN (shN a n) (shT a t)).2.2 ≠ 0 then takeN (shN a n) (shT a t) else ((takeAll (takeN (shN a n) (shT a t)).1 (ts.map (shT a))).1, (takeN (shN a n) (shT a t)).2.1 ++ (takeAll (takeN (shN a n) (shT a t)).1 (ts.map (shT a))).2.1, (takeAll (takeN (shN a n) (shT a t)).1 (ts.map (shT a))).2.2)) =
      (shN a (if (takeN n t).2.2 ≠ 0 then takeN n t else ((takeAll (takeN n t).1 ts).1, (takeN n t).2.1 ++ (takeAll (takeN n t).1 ts).2.1, (takeAll (takeN n t).1 ts).2.2)).1, (if (takeN n t).2.2 ≠ 0 then takeN n t else ((takeAll (takeN n t).1 ts).1, (takeN n t).2.1 ++ (takeAll (takeN n t).1 ts).2.1, (takeAll (takeN n t).1 ts).2.2)).2.1.map (shE a), (if (takeN n t).2.2 ≠ 0 then takeN n t else ((takeAll (takeN n t).1 ts).1, (takeN n t).2.1 ++ (takeAll (takeN n t).1 ts).2.1, (takeAll (takeN n t).1 ts).2.2)).2.2)
    rw [sh_tok]
    by_cases h : (takeN n t).2.2 ≠ 0
    · simp only [if_pos h]
    · simp only [if_neg h, ih, List.map_append]
theorem sh_byte (a : Nat) (st : LSt) (n : Nst) (k : Nat) (c : UInt8) : byteP (shL a st) (shN a n) (k + a) c = ((byteP st n k c).1.map (shE a), (byteP st n k c).2.1, shL a (byteP st n k c).2.2.1, shN a (byteP st n k c).2.2.2) := by
  unfold byteP
  rw [sh_step]
  simp only [sh_all]
  rfl
theorem sh_end (a : Nat) (st : LSt) (n : Nst) (k : Nat) : endP (shL a st) (shN a n) (k + a) = ((endP st n k).1.map (shE a), (endP st n k).2) := by
  unfold endP
  rw [sh_close]
  simp only [sh_all]
  rfl
theorem sh_go (a : Nat) (l : List UInt8) : ∀ (st : LSt) (n : Nst) (k : Nat), goP (shL a st) (shN a n) l (k + a) = ((goP st n l k).1.map (shE a), (goP st n l k).2.1, (goP st n l k).2.2 + a) := by
  induction l with
  | nil =>
    intro st n k
    show ((endP (shL a st) (shN a n) (k + a)).1, (endP (shL a st) (shN a n) (k + a)).2, k + a) = ((endP st n k).1.map (shE a), (endP st n k).2, k + a)
    rw [sh_end]
  | cons c t ih =>
    intro st n k
    have e : k + a + 1 = k + 1 + a := by omega
    show (if (byteP (shL a st) (shN a n) (k + a) c).2.1 ≠ 0 then ((byteP (shL a st) (shN a n) (k + a) c).1, (byteP (shL a st) (shN a n) (k + a) c).2.1, k + a) else
      ((byteP (shL a st) (shN a n) (k + a) c).1 ++ (goP (byteP (shL a st) (shN a n) (k + a) c).2.2.1 (byteP (shL a st) (shN a n) (k + a) c).2.2.2 t (k + a + 1)).1, (goP (byteP (shL a st) (shN a n) (k + a) c).2.2.1 (byteP (shL a st) (shN a n) (k + a) c).2.2.2 t (k + a + 1)).2)) = _
    rw [sh_byte, e]
    simp only [ih]
    by_cases h : (byteP st n k c).2.1 ≠ 0
    · have eg : goP st n (c :: t) k = ((byteP st n k c).1, (byteP st n k c).2.1, k) := by show (if _ then _ else _) = _; rw [if_pos h]
      rw [eg]
      simp only [if_pos h]
    · have eg : goP st n (c :: t) k = ((byteP st n k c).1 ++ (goP (byteP st n k c).2.2.1 (byteP st n k c).2.2.2 t (k + 1)).1, (goP (byteP st n k c).2.2.1 (byteP st n k c).2.2.2 t (k + 1)).2) := by show (if _ then _ else _) = _; rw [if_neg h]
      rw [eg]
      simp only [if_neg h, List.map_append]

mutual
/-- A value that stands elsewhere. -/
def shTr (a : Nat) : Tree → Tree
  | .mk kd fr to tx items names => .mk kd (fr + a) (to + a) tx (shTrs a items) names
def shTrs (a : Nat) : List Tree → List Tree
  | [] => []
  | t :: ts => shTr a t :: shTrs a ts
end
/-- One that is open. -/
def shTo (a : Nat) : Tree → Tree
  | .mk kd fr to tx items names => .mk kd (fr + a) to tx (shTrs a items) names
def shB (a : Nat) (b : Bld) : Bld := ⟨b.op.map fun p => (shTo a p.1, p.2), b.root.map (shTr a)⟩
theorem shTrs_app (a : Nat) (x y : List Tree) : shTrs a (x ++ y) = shTrs a x ++ shTrs a y := by
  induction x with
  | nil => simp [shTrs]
  | cons t x ih => rw [List.cons_append, shTrs, shTrs, ih, List.cons_append]
theorem sh_bldE (a : Nat) (b : Bld) (e : Evt) : bldE (shB a b) (shE a e) = shB a (bldE b e) := by
  obtain ⟨op, root⟩ := b
  obtain ⟨k, v, f, t, s, x⟩ := e
  by_cases h : k = 1
  · subst h
    unfold bldE shE shB
    simp [shTo, shTrs]
  · unfold bldE shE shB
    simp only [if_neg h]
    cases op with
    | nil => rfl
    | cons p r =>
      obtain ⟨⟨kd, fr, to, tx, items, names⟩, ps⟩ := p
      cases r with
      | nil => simp [shTo, shTr]
      | cons q r =>
        obtain ⟨⟨kd', fr', to', tx', items', names'⟩, qs⟩ := q
        simp [shTo, shTr, addT, shTrs_app, shTrs]
theorem sh_bldA (a : Nat) (es : List Evt) : ∀ b : Bld, bldA (shB a b) (es.map (shE a)) = shB a (bldA b es) := by
  induction es with
  | nil => intro b; rfl
  | cons e es ih =>
    intro b
    show bldA (bldE (shB a b) (shE a e)) (es.map (shE a)) = shB a (bldA (bldE b e) es)
    rw [sh_bldE, ih]
mutual
theorem sameT_sh (a : Nat) : ∀ t : Tree, sameT (shTr a t) t = true
  | .mk kd fr to tx items names => by
    unfold shTr sameT
    rw [sameL_sh a items]
    simp
theorem sameL_sh (a : Nat) : ∀ ts : List Tree, sameL (shTrs a ts) ts = true
  | [] => by unfold shTrs sameL; rfl
  | t :: ts => by
    unfold shTrs sameL
    rw [sameT_sh a t, sameL_sh a ts]
    rfl
end

/-- Bytes without a fault. -/
def runC : LSt → Nst → List UInt8 → Nat → Option (LSt × Nst × List Evt)
  | st, n, [], k => some (st, n, [])
  | st, n, c :: t, k => if (byteP st n k c).2.1 ≠ 0 then none else (runC (byteP st n k c).2.2.1 (byteP st n k c).2.2.2 t (k + 1)).map fun r => (r.1, r.2.1, (byteP st n k c).1 ++ r.2.2)
theorem runC_go (l : List UInt8) : ∀ (st : LSt) (n : Nst) (k : Nat) (st' : LSt) (n' : Nst) (es : List Evt), runC st n l k = some (st', n', es) → goP st n l k = (es ++ (endP st' n' (k + l.length)).1, (endP st' n' (k + l.length)).2, k + l.length) := by
  induction l with
  | nil => intro st n k st' n' es h; cases h; rfl
  | cons c t ih =>
    intro st n k st' n' es h
    by_cases hf : (byteP st n k c).2.1 ≠ 0
    · have : runC st n (c :: t) k = none := by show (if _ then _ else _) = _; rw [if_pos hf]
      rw [this] at h; cases h
    · have e1 : runC st n (c :: t) k = (runC (byteP st n k c).2.2.1 (byteP st n k c).2.2.2 t (k + 1)).map fun r => (r.1, r.2.1, (byteP st n k c).1 ++ r.2.2) := by show (if _ then _ else _) = _; rw [if_neg hf]
      have e2 : goP st n (c :: t) k = ((byteP st n k c).1 ++ (goP (byteP st n k c).2.2.1 (byteP st n k c).2.2.2 t (k + 1)).1, (goP (byteP st n k c).2.2.1 (byteP st n k c).2.2.2 t (k + 1)).2) := by show (if _ then _ else _) = _; rw [if_neg hf]
      rw [e1] at h
      cases hr : runC (byteP st n k c).2.2.1 (byteP st n k c).2.2.2 t (k + 1) with
      | none => rw [hr] at h; cases h
      | some r =>
        obtain ⟨a, b, d⟩ := r
        rw [hr] at h
        cases h
        have := ih _ _ (k + 1) _ _ _ hr
        rw [e2, this]
        have hl : k + 1 + t.length = k + (c :: t).length := by simp; omega
        rw [hl]
        simp
/-- A text without a fault of its bytes runs through. -/
theorem go_runC (l : List UInt8) : ∀ (st : LSt) (n : Nst) (k : Nat), Fit st n → EK (goP st n l k).2.1 → ∃ r, runC st n l k = some r ∧ Fit r.1 r.2.1 := by
  induction l with
  | nil => intro st n k hF _; exact ⟨_, rfl, hF⟩
  | cons c t ih =>
    intro st n k hF h
    obtain ⟨h1, h2⟩ := byteP_fit st n k c hF
    by_cases hf : (byteP st n k c).2.1 ≠ 0
    · have e : goP st n (c :: t) k = ((byteP st n k c).1, (byteP st n k c).2.1, k) := by show (if _ then _ else _) = _; rw [if_pos hf]
      rw [e] at h
      obtain ⟨_, g1, g2, g3⟩ := h1 hf
      rcases h with h | h | h
      · exact absurd h g1
      · exact absurd h g2
      · exact absurd h g3
    · have e2 : goP st n (c :: t) k = ((byteP st n k c).1 ++ (goP (byteP st n k c).2.2.1 (byteP st n k c).2.2.2 t (k + 1)).1, (goP (byteP st n k c).2.2.1 (byteP st n k c).2.2.2 t (k + 1)).2) := by show (if _ then _ else _) = _; rw [if_neg hf]
      rw [e2] at h
      obtain ⟨r, g1, g2⟩ := ih _ _ (k + 1) (h2 (Decidable.not_not.1 hf)) h
      refine ⟨(r.1, r.2.1, (byteP st n k c).1 ++ r.2.2), ?_, g2⟩
      show (if _ then _ else _) = _
      rw [if_neg hf, g1]
      rfl
theorem runC_app (x : List UInt8) : ∀ (y : List UInt8) (st : LSt) (n : Nst) (k : Nat) (st' : LSt) (n' : Nst) (es : List Evt), runC st n x k = some (st', n', es) → runC st n (x ++ y) k = (runC st' n' y (k + x.length)).map fun r => (r.1, r.2.1, es ++ r.2.2) := by
  induction x with
  | nil => intro y st n k st' n' es h; cases h; show runC st n y k = (runC st n y k).map (fun r => (r.1, r.2.1, [] ++ r.2.2)); cases runC st n y k <;> rfl
  | cons c t ih =>
    intro y st n k st' n' es h
    by_cases hf : (byteP st n k c).2.1 ≠ 0
    · have : runC st n (c :: t) k = none := by show (if _ then _ else _) = _; rw [if_pos hf]
      rw [this] at h; cases h
    · have e1 : ∀ t, runC st n (c :: t) k = (runC (byteP st n k c).2.2.1 (byteP st n k c).2.2.2 t (k + 1)).map fun r => (r.1, r.2.1, (byteP st n k c).1 ++ r.2.2) := fun t => by show (if _ then _ else _) = _; rw [if_neg hf]
      rw [e1] at h
      cases hr : runC (byteP st n k c).2.2.1 (byteP st n k c).2.2.2 t (k + 1) with
      | none => rw [hr] at h; cases h
      | some r =>
        obtain ⟨a, b, d⟩ := r
        rw [hr] at h
        cases h
        rw [List.cons_append, e1, ih y _ _ (k + 1) _ _ _ hr]
        have hl : k + 1 + t.length = k + (c :: t).length := by simp; omega
        rw [hl]
        generalize runC a b y (k + (c :: t).length) = z
        cases z <;> simp [List.append_assoc]

end Go.Proofs.Ytaklbbkjhbkieaa

namespace Go.Proofs.Ytaklbbkjhbkieaa
set_option linter.unusedVariables false

theorem takeAll_snoc (t : Tok) (ts : List Tok) : ∀ n : Nst, (takeAll n ts).2.2 = 0 → (takeAll n (ts ++ [t])).1 = (takeN (takeAll n ts).1 t).1 ∧ (takeAll n (ts ++ [t])).2.1 = (takeAll n ts).2.1 ++ (takeN (takeAll n ts).1 t).2.1 ∧ (takeAll n (ts ++ [t])).2.2 = (takeN (takeAll n ts).1 t).2.2 := by
  induction ts with
  | nil =>
    intro n _
    have e : takeAll n ([] ++ [t]) = if (takeN n t).2.2 ≠ 0 then takeN n t else ((takeN n t).1, (takeN n t).2.1 ++ [], 0) := rfl
    rw [e]
    by_cases h : (takeN n t).2.2 ≠ 0
    · rw [if_pos h]; exact ⟨rfl, rfl, rfl⟩
    · rw [if_neg h]; exact ⟨rfl, List.append_nil _, (Decidable.not_not.1 h).symm⟩
  | cons u ts ih =>
    intro n h
    have e : ∀ ts, takeAll n (u :: ts) = if (takeN n u).2.2 ≠ 0 then takeN n u else ((takeAll (takeN n u).1 ts).1, (takeN n u).2.1 ++ (takeAll (takeN n u).1 ts).2.1, (takeAll (takeN n u).1 ts).2.2) := fun _ => rfl
    by_cases hu : (takeN n u).2.2 ≠ 0
    · rw [e, if_pos hu] at h
      exact absurd h hu
    · rw [e, if_neg hu] at h
      obtain ⟨g1, g2, g3⟩ := ih _ h
      rw [List.cons_append, e, e, if_neg hu, if_neg hu]
      exact ⟨g1, by show _ ++ _ = (_ ++ _) ++ _; rw [g2, List.append_assoc], g3⟩

/-- What holds between tokens. -/
structure JN (n : Nst) : Prop where
  beg : n.begun ≠ 0 → n.may.val = true ∨ n.may.nam = true
  noth : n.may.isNothing = true → n.op = []
  bad : n.may.isBad = false
/-- How many values are open. -/
def cnt (n : Nst) : Nat := n.op.length + if n.begun ≠ 0 ∧ n.may.val = true then 1 else 0
theorem more_len (op : List Opn) : (moreO op).length = op.length := by cases op <;> rfl
theorem name_len (s : List UInt8) (op : List Opn) : (nameO s op).length = op.length := by cases op <;> rfl

/-- Behind a value. -/
theorem ended_J (most : Nat) (op : List Opn) (may : May) (b : Int) (ca : Bool) : JN ({ endedN (⟨most, op, may, b, ca⟩ : Nst) with begun := 0, came := true } : Nst) ∧ cnt ({ endedN (⟨most, op, may, b, ca⟩ : Nst) with begun := 0, came := true } : Nst) = op.length ∧
    (op = [] → ({ endedN (⟨most, op, may, b, ca⟩ : Nst) with begun := 0, came := true } : Nst).may.isNothing = true) := by
  refine ⟨⟨fun h => absurd rfl h, ?_, ?_⟩, ?_, ?_⟩
  · cases op with
    | nil => intro _; rfl
    | cons o r => intro h; cases h
  · cases op <;> rfl
  · unfold cnt endedN
    simp [more_len]
  · rintro rfl
    rfl

/-- What a token does. -/
structure Does (n n' : Nst) (t : Tok) (es : List Evt) : Prop where
  j : JN n'
  most : n'.most = n.most
  evs : (es = [] ∧ cnt n' = cnt n ∧ n'.may.isNothing = false) ∨ (∃ v s, es = [⟨1, v, t.fr, 0, s, []⟩] ∧ cnt n' = cnt n + 1 ∧ n.begun = 0 ∧ n.may.val = true ∧ n'.may.isNothing = false) ∨ (∃ v f s x, es = [⟨2, v, f, t.to, s, x⟩] ∧ cnt n' + 1 = cnt n ∧ n'.begun = 0 ∧ (n'.op = [] → n'.may.isNothing = true))
  fin : n.begun ≠ 0 → n'.begun = 0 ∧ n'.may.val = false
  same : n'.begun ≠ 0 → n'.op = n.op

theorem tok_does (n : Nst) (t : Tok) (hJ : JN n) (hk : t.begun = true → t.kind ≠ 0) (hf : (takeN n t).2.2 = 0) : Does n (takeN n t).1 t (takeN n t).2.1 := by
  obtain ⟨most, op, may, begun, came⟩ := n
  obtain ⟨kd, bg, fr, to, tx⟩ := t
  by_cases hb : begun = 0
  · subst hb
    have e : takeN ⟨most, op, may, 0, came⟩ ⟨kd, bg, fr, to, tx⟩ = takeO ⟨most, op, may, 0, came⟩ ⟨kd, bg, fr, to, tx⟩ := by unfold takeN; rw [if_pos rfl]
    rw [e] at hf ⊢
    have cl : ∀ (o : Opn) (r : List Opn) (m : May), (takeO ⟨most, op, may, 0, came⟩ ⟨kd, bg, fr, to, tx⟩) = ({ endedN (⟨most, r, m, 0, came⟩ : Nst) with came := true }, [⟨2, o.kd, o.fr, to, o.step, []⟩], 0) → op = o :: r → Does ⟨most, op, may, 0, came⟩ (takeO ⟨most, op, may, 0, came⟩ ⟨kd, bg, fr, to, tx⟩).1 ⟨kd, bg, fr, to, tx⟩ (takeO ⟨most, op, may, 0, came⟩ ⟨kd, bg, fr, to, tx⟩).2.1 := by
      intro o r m h1 h2
      rw [h1, h2]
      obtain ⟨g1, g2, g3⟩ := ended_J most r m 0 came
      refine ⟨g1, rfl, .inr (.inr ⟨_, _, _, _, rfl, ?_, rfl, fun h => g3 ?_⟩), fun h => absurd rfl h, fun h => absurd rfl h⟩
      · refine (congrArg (· + 1) g2).trans ?_
        unfold cnt
        simp
      · have h : moreO r = [] := h
        cases r with
        | nil => rfl
        | cons q r => cases h
    cases may <;> first
      | (have := hJ.bad; cases this; done)
      | (exact absurd hf (by unfold takeO; decide))
      | skip
    all_goals
      unfold takeO at hf cl ⊢
      simp only [] at hf cl ⊢
      revert hf cl
      (repeat' split) <;> intro hf cl <;> first
        | exact absurd hf (by show (8 : Int) ≠ 0; decide)
        | exact absurd hf (by show (12 : Int) ≠ 0; decide)
        | exact absurd hf (by show (9 : Int) ≠ 0; decide)
        | exact cl _ _ _ rfl rfl
        | (rename_i h1 h2; exact absurd h2.2 (by decide))
        | (rename_i h1; exact absurd h1 (by decide))
        | (exfalso; have hh : May.val _ = true := (‹(kd = 2 ∨ kd = 4) ∧ _›).2; cases hh; done)
        | (refine ⟨⟨?_, ?_, rfl⟩, rfl, .inr (.inl ⟨_, _, rfl, ?_, rfl, rfl, (by first | rfl | (split <;> rfl))⟩), fun h => absurd rfl h, ?_⟩
           · intro _; exact .inl rfl
           · intro h; cases h
           · unfold cnt; simp [May.val, *]; done
           · intro _; rfl)
        | (refine ⟨⟨?_, ?_, ?_⟩, rfl, .inr (.inl ⟨_, _, rfl, ?_, rfl, rfl, (by first | rfl | (split <;> rfl))⟩), fun h => absurd rfl h, ?_⟩
           · intro h; exact absurd rfl h
           · first
               | (intro h; cases h; done)
               | (split <;> intro h <;> cases h)
           · first
               | rfl
               | (split <;> rfl)
           · unfold cnt; simp
           · intro h; exact absurd rfl h)
        | (refine ⟨⟨?_, ?_, rfl⟩, rfl, .inl ⟨rfl, ?_, (by first | rfl | (split <;> rfl))⟩, fun h => absurd rfl h, ?_⟩
           · intro _; exact .inr rfl
           · intro h; cases h
           · unfold cnt; simp [May.val]
           · intro _; rfl)
        | (refine ⟨⟨?_, ?_, ?_⟩, rfl, .inl ⟨rfl, ?_, (by first | rfl | (split <;> rfl))⟩, fun h => absurd rfl h, ?_⟩
           · intro h; exact absurd rfl h
           · first
               | (intro h; cases h; done)
               | (split <;> intro h <;> cases h)
           · first
               | rfl
               | (split <;> rfl)
           · unfold cnt; simp
           · intro h; exact absurd rfl h)
  · have e1 : takeN ⟨most, op, may, begun, came⟩ ⟨kd, bg, fr, to, tx⟩ = if may.nam = true then (⟨most, nameO tx op, .colon, 0, came⟩, [], 0) else ({ endedN (⟨most, op, may, begun, came⟩ : Nst) with begun := 0 }, [⟨2, scalarK ⟨kd, bg, fr, to, tx⟩, fr, to, stepO op, tx⟩], 0) := by
      unfold takeN
      rw [if_neg hb]
    rw [e1] at hf ⊢
    by_cases hn : may.nam = true
    · rw [if_pos hn]
      have hv : may.val = false := by cases may <;> first | rfl | cases hn
      refine ⟨⟨fun h => absurd rfl h, fun h => (by cases h), rfl⟩, rfl, .inl ⟨rfl, ?_, rfl⟩, fun _ => ⟨rfl, rfl⟩, fun h => absurd rfl h⟩
      unfold cnt
      simp [name_len, hv]
    · rw [if_neg hn]
      have hv : may.val = true := (hJ.beg hb).resolve_right hn
      refine ⟨⟨fun h => absurd rfl h, ?_, ?_⟩, rfl, .inr (.inr ⟨_, _, _, _, rfl, ?_, rfl, ?_⟩), fun _ => ⟨rfl, ?_⟩, fun h => absurd rfl h⟩
      · cases op with
        | nil => intro _; rfl
        | cons o r => intro h; cases h
      · cases op <;> rfl
      · unfold cnt endedN
        simp [more_len, hv, hb]
      · cases op with
        | nil => intro _; rfl
        | cons o r => intro h; cases h
      · cases op <;> rfl

/-- A text that runs from elsewhere. -/
theorem acc_same (m : List UInt8) (f : Nat) (es : List Evt) (K : Nat) (t : Tree) (h : goP .out (newN 50) m f = (es, 1, K)) (ht : (bldA ⟨[], none⟩ es).root = some t) : (parseP m 50).2.1 = 1 ∧ sameT t (treeP m 50) = true := by
  have e := sh_go f m .out (newN 50) 0
  rw [Nat.zero_add] at e
  have e' : goP .out (newN 50) m f = ((parseP m 50).1.map (shE f), (parseP m 50).2.1, (parseP m 50).2.2 + f) := e
  rw [h] at e'
  have h1 : es = (parseP m 50).1.map (shE f) := congrArg (·.1) e'
  have h2 : (1 : Int) = (parseP m 50).2.1 := congrArg (·.2.1) e'
  refine ⟨h2.symm, ?_⟩
  have hb : bldA ⟨[], none⟩ es = shB f (bldA ⟨[], none⟩ (parseP m 50).1) := by
    rw [h1]
    exact sh_bldA f _ ⟨[], none⟩
  rw [hb] at ht
  unfold treeP treeE
  have ht : (bldA ⟨[], none⟩ (parseP m 50).1).root.map (shTr f) = some t := ht
  cases hr : (bldA ⟨[], none⟩ (parseP m 50).1).root with
  | none => rw [hr] at ht; cases ht
  | some u =>
    rw [hr] at ht
    cases ht
    exact sameT_sh f u

end Go.Proofs.Ytaklbbkjhbkieaa

namespace Go.Proofs.Ytaklbbkjhbkieaa
set_option linter.unusedVariables false

/-- The bytes of a place. -/
def subL (l : List UInt8) (i j : Nat) : List UInt8 := (l.drop i).take (j - i)

theorem er_idem (n : Nst) : erN (erN n) = erN n := by
  unfold erN
  simp only [er_er]
theorem er_kind (e : Evt) : (erE e).kind = e.kind := by unfold erE; split <;> rfl
theorem bldA_alike (b : Bld) (es es' : List Evt) (h : es.map erE = es'.map erE) : bldA b es = bldA b es' := by rw [← bldA_er es b, h, bldA_er]
theorem bldA_app (b : Bld) (x y : List Evt) : bldA b (x ++ y) = bldA (bldA b x) y := by unfold bldA; rw [List.foldl_append]
theorem val_nam {m : May} (h : m.val = true) : ¬ m.nam = true := by cases m <;> first | (cases h; done) | decide
theorem val_end (n : Nst) (t : Tok) (hb : n.begun ≠ 0) (hv : n.may.val = true) : takeN n t = ({ endedN n with begun := 0 }, [⟨2, scalarK t, t.fr, t.to, stepO n.op, t.text⟩], 0) := by
  unfold takeN
  rw [if_neg hb, if_neg (val_nam hv)]

/-- Where one is in the text, and where one is in what is open there: S is open around it. -/
def RelN (S : List Opn) (n n1 : Nst) : Prop := JN n1 ∧ n1.most = 50 ∧ S.map erO = S ∧
  ((n1.op ≠ [] ∧ erN n = liftN 50 S (erN n1)) ∨ (n1.op = [] ∧ n1.begun ≠ 0 ∧ n1.begun = n.begun ∧ n1.may.val = true ∧ n.may.val = true))

theorem rel_tok (S : List Opn) (n n1 : Nst) (t : Tok) (h : RelN S n n1) (hk : t.begun = true → t.kind ≠ 0) (hf : (takeN n t).2.2 = 0) :
    (takeN n1 t).2.2 = 0 ∧ (takeN n t).2.1.map erE = (takeN n1 t).2.1.map erE ∧ Does n1 (takeN n1 t).1 t (takeN n1 t).2.1 ∧
    (cnt (takeN n1 t).1 = 0 ∨ (cnt (takeN n1 t).1 ≠ 0 ∧ RelN S (takeN n t).1 (takeN n1 t).1 ∧ (takeN n1 t).1.op ≠ [])) := by
  obtain ⟨hJ, h50, hS, h⟩ := h
  rcases h with ⟨ho, hr⟩ | ⟨ho, hb, hb', hv, hv'⟩
  · have hno : n1.may.isNothing = false := by
      cases h : n1.may.isNothing with
      | false => rfl
      | true => exact absurd (hJ.noth h) ho
    have i1 : erN n = erN (liftN 50 S (erN n1)) := by rw [← hr, er_idem]
    obtain ⟨a1, a2, a3⟩ := er_tok n (liftN 50 S (erN n1)) t i1
    obtain ⟨b1, b2, b3⟩ := frame_tok 50 S hS (erN n1) t hno (by show 50 ≤ n1.most + S.length; omega) (fun h => absurd (List.map_eq_nil_iff.1 h) ho) (a3.symm.trans hf)
    obtain ⟨c1, c2, c3⟩ := er_tok (erN n1) n1 t (er_idem n1)
    have f0 : (takeN n1 t).2.2 = 0 := c3.symm.trans b3
    have D := tok_does n1 t hJ hk f0
    refine ⟨f0, a2.trans (b2.trans c2), D, ?_⟩
    by_cases hop : (takeN n1 t).1.op = []
    · refine .inl ?_
      have hb0 : (takeN n1 t).1.begun = 0 := Decidable.byContradiction fun h => ho ((D.same h).symm.trans hop)
      unfold cnt
      rw [hop, hb0]
      simp
    · refine .inr ⟨?_, ⟨D.j, D.most.trans h50, hS, .inl ⟨hop, ?_⟩⟩, hop⟩
      · unfold cnt
        have := List.length_pos_iff.2 hop
        omega
      · rw [a1, b1, c1]
  · have e1 := val_end n1 t hb hv
    have e2 := val_end n t (by rw [← hb']; exact hb) hv'
    have f0 : (takeN n1 t).2.2 = 0 := by rw [e1]
    refine ⟨f0, ?_, tok_does n1 t hJ hk f0, .inl ?_⟩
    · rw [e1, e2]
      simp [erE]
    · rw [e1]
      unfold cnt endedN
      simp [more_len, ho]

/-- What is open, with what is open in it: these bytes run alone. -/
def OwnB (l : List UInt8) (k : Nat) (st : LSt) (ts : List Tok) (n : Nst) (x : List (Tree × Stp)) (t : Tree) : Prop :=
  ∃ (S : List Opn) (n0 : Nst) (s0 : Stp) (es0 : List Evt), runC .out (newN 50) (subL l t.fr k) t.fr = some (st, n0, es0) ∧ (takeAll n0 ts).2.2 = 0 ∧
    bldA ⟨[], none⟩ (es0 ++ (takeAll n0 ts).2.1) = ⟨x ++ [(t, s0)], none⟩ ∧ cnt (takeAll n0 ts).1 = x.length + 1 ∧ RelN S n (takeAll n0 ts).1 ∧ ((takeAll n0 ts).1.op = [] → t.items = [])

def finT (e : Evt) : Tree → Tree
  | .mk _ fr _ _ items names => .mk e.value fr e.to e.text items names
/-- The innermost of what is open ends. -/
def clX (y : Tree) (s : Stp) (r : List (Tree × Stp)) (t : Tree) (e : Evt) : List (Tree × Stp) × Tree := match r with
  | [] => ([], addT (finT e y) s t)
  | (p, ps) :: r => ((addT (finT e y) s p, ps) :: r, t)
theorem clX_fr (y : Tree) (s : Stp) (r : List (Tree × Stp)) (t : Tree) (e : Evt) : (clX y s r t e).2.fr = t.fr := by
  cases r with
  | nil => cases t; rfl
  | cons p r => rfl
theorem clX_len (y : Tree) (s : Stp) (r : List (Tree × Stp)) (t : Tree) (e : Evt) : (clX y s r t e).1.length = r.length := by
  cases r with
  | nil => rfl
  | cons p r => rfl
theorem bldE_close (y : Tree) (s : Stp) (r : List (Tree × Stp)) (t : Tree) (s0 : Stp) (P : List (Tree × Stp)) (rt : Option Tree) (e : Evt) (h : ¬ e.kind = 1) :
    bldE ⟨(y, s) :: (r ++ (t, s0) :: P), rt⟩ e = ⟨(clX y s r t e).1 ++ ((clX y s r t e).2, s0) :: P, rt⟩ := by
  obtain ⟨kd, fr, to, tx, items, names⟩ := y
  unfold bldE
  rw [if_neg h]
  cases r with
  | nil => rfl
  | cons p r => rfl
theorem bldE_last (t : Tree) (s : Stp) (rt : Option Tree) (e : Evt) (h : ¬ e.kind = 1) : bldE ⟨[(t, s)], rt⟩ e = ⟨[], some (finT e t)⟩ := by
  obtain ⟨kd, fr, to, tx, items, names⟩ := t
  unfold bldE
  rw [if_neg h]
  rfl
theorem bldE_open (o : List (Tree × Stp)) (rt : Option Tree) (e : Evt) (h : e.kind = 1) : bldE ⟨o, rt⟩ e = ⟨(.mk e.value e.fr 0 [] [] [], e.step) :: o, rt⟩ := by
  unfold bldE
  rw [if_pos h]

theorem own_tok (l : List UInt8) (k : Nat) (st : LSt) (ts : List Tok) (n : Nst) (x : List (Tree × Stp)) (t : Tree) (tok : Tok) (h : OwnB l k st ts n x t) (hk : tok.begun = true → tok.kind ≠ 0) (hf : (takeN n tok).2.2 = 0) :
    ((takeN n tok).2.1 = [] → OwnB l k st (ts ++ [tok]) (takeN n tok).1 x t) ∧
    (∀ e, (takeN n tok).2.1 = [e] → e.kind = 1 → OwnB l k st (ts ++ [tok]) (takeN n tok).1 ((.mk e.value e.fr 0 [] [] [], e.step) :: x) t) ∧
    (∀ e y s r, (takeN n tok).2.1 = [e] → e.kind = 2 → x = (y, s) :: r → OwnB l k st (ts ++ [tok]) (takeN n tok).1 (clX y s r t e).1 (clX y s r t e).2) ∧
    (∀ e, (takeN n tok).2.1 = [e] → e.kind = 2 → x = [] → ∃ (n0 : Nst) (es0 : List Evt), runC .out (newN 50) (subL l t.fr k) t.fr = some (st, n0, es0) ∧ (takeAll n0 (ts ++ [tok])).2.2 = 0 ∧ (takeAll n0 (ts ++ [tok])).1.may.isNothing = true ∧ (takeAll n0 (ts ++ [tok])).1.may.isBad = false ∧
      (bldA ⟨[], none⟩ (es0 ++ (takeAll n0 (ts ++ [tok])).2.1)).root = some (finT e t)) := by
  obtain ⟨S, n0, s0, es0, h1, h2, h3, h4, h5, h6⟩ := h
  obtain ⟨r1, r2, r3, r4⟩ := rel_tok S n (takeAll n0 ts).1 tok h5 hk hf
  obtain ⟨q1, q2, q3⟩ := takeAll_snoc tok ts n0 h2
  have hfl : (takeAll n0 (ts ++ [tok])).2.2 = 0 := q3.trans r1
  have hb : bldA ⟨[], none⟩ (es0 ++ (takeAll n0 (ts ++ [tok])).2.1) = bldA ⟨x ++ [(t, s0)], none⟩ (takeN n tok).2.1 := by
    rw [q2, ← List.append_assoc, bldA_app, h3]
    exact (bldA_alike _ _ _ r2).symm
  have hlen : (takeN n tok).2.1.length = (takeN (takeAll n0 ts).1 tok).2.1.length := by have := congrArg List.length r2; simpa using this
  have hkind : ∀ e e1, (takeN n tok).2.1 = [e] → (takeN (takeAll n0 ts).1 tok).2.1 = [e1] → e.kind = e1.kind := fun e e1 g1 g2 => by
    rw [g1, g2] at r2
    have : erE e = erE e1 := by simpa using r2
    rw [← er_kind e, this, er_kind]
  refine ⟨fun he => ?_, fun e he hk1 => ?_, fun e y s r he hk2 hx => ?_, fun e he hk2 hx => ?_⟩
  · have hc : cnt (takeN (takeAll n0 ts).1 tok).1 = x.length + 1 := by
      rcases r3.evs with ⟨_, g, _⟩ | ⟨v, s, g, _⟩ | ⟨v, f, s, z, g, _⟩
      · omega
      · rw [he, g] at hlen; cases hlen
      · rw [he, g] at hlen; cases hlen
    rcases r4 with r4 | ⟨_, r5, r6⟩
    · omega
    · exact ⟨S, n0, s0, es0, h1, hfl, by rw [hb, he]; rfl, by rw [q1]; exact hc, by rw [q1]; exact r5, fun h => absurd (by rw [← q1]; exact h) r6⟩
  · have hc : cnt (takeN (takeAll n0 ts).1 tok).1 = x.length + 1 + 1 := by
      rcases r3.evs with ⟨g, _⟩ | ⟨v, s, g, g', _⟩ | ⟨v, f, s, z, g, _⟩
      · rw [he, g] at hlen; cases hlen
      · omega
      · have := hkind e _ he g
        rw [hk1] at this
        cases this
    rcases r4 with r4 | ⟨_, r5, r6⟩
    · omega
    · refine ⟨S, n0, s0, es0, h1, hfl, ?_, by rw [q1]; exact hc, by rw [q1]; exact r5, fun h => absurd (by rw [← q1]; exact h) r6⟩
      rw [hb, he]
      exact bldE_open _ _ e hk1
  · have hc : cnt (takeN (takeAll n0 ts).1 tok).1 = r.length + 1 := by
      rcases r3.evs with ⟨g, _⟩ | ⟨v, s, g, g', _⟩ | ⟨v, f, s, z, g, g', _⟩
      · rw [he, g] at hlen; cases hlen
      · have := hkind e _ he g
        rw [hk2] at this
        cases this
      · rw [hx] at h4
        simp at h4
        omega
    rcases r4 with r4 | ⟨_, r5, r6⟩
    · omega
    · refine ⟨S, n0, s0, es0, by rw [clX_fr]; exact h1, hfl, ?_, by rw [q1, clX_len]; exact hc, by rw [q1]; exact r5, fun h => absurd (by rw [← q1]; exact h) r6⟩
      rw [hb, he, hx]
      exact bldE_close y s r t s0 [] none e (by rw [hk2]; decide)
  · obtain ⟨v, f, s, z, g, g', g2, g3⟩ : ∃ v f s z, (takeN (takeAll n0 ts).1 tok).2.1 = [⟨2, v, f, tok.to, s, z⟩] ∧ cnt (takeN (takeAll n0 ts).1 tok).1 + 1 = cnt (takeAll n0 ts).1 ∧ (takeN (takeAll n0 ts).1 tok).1.begun = 0 ∧ ((takeN (takeAll n0 ts).1 tok).1.op = [] → (takeN (takeAll n0 ts).1 tok).1.may.isNothing = true) := by
      rcases r3.evs with ⟨g, _⟩ | ⟨v, s, g, g', _⟩ | g
      · rw [he, g] at hlen; cases hlen
      · have := hkind e _ he g
        rw [hk2] at this
        cases this
      · exact g
    have hc : cnt (takeN (takeAll n0 ts).1 tok).1 = 0 := by
      rw [hx] at h4
      simp at h4
      omega
    refine ⟨n0, es0, h1, hfl, ?_, by rw [q1]; exact r3.j.bad, ?_⟩
    · rw [q1]
      apply g3
      unfold cnt at hc
      exact List.length_eq_zero_iff.1 (by omega)
    · rw [hb, he, hx]
      show (bldE ⟨[(t, s0)], none⟩ e).root = _
      rw [bldE_last t s0 none e (by rw [hk2]; decide)]

theorem own_items (l : List UInt8) (k : Nat) (st : LSt) (ts : List Tok) (n : Nst) (t : Tree) (h : OwnB l k st ts n [] t) (hb : n.begun ≠ 0) (hn : ¬ n.may.nam = true) : t.items = [] := by
  obtain ⟨S, n0, s0, es0, h1, h2, h3, h4, ⟨hJ, h50, hS, h5⟩, h6⟩ := h
  rcases h5 with ⟨ho, hr⟩ | ⟨ho, _⟩
  · exfalso
    have hno : (takeAll n0 ts).1.may.isNothing = false := by
      cases h : (takeAll n0 ts).1.may.isNothing with
      | false => rfl
      | true => exact absurd (hJ.noth h) ho
    have e1 : n.begun = (takeAll n0 ts).1.begun := (congrArg Nst.begun hr : (erN n).begun = (liftN 50 S (erN (takeAll n0 ts).1)).begun)
    have e2 : n.may = liftM S (takeAll n0 ts).1.may := (congrArg Nst.may hr : (erN n).may = (liftN 50 S (erN (takeAll n0 ts).1)).may)
    have e3 : liftM S (takeAll n0 ts).1.may = (takeAll n0 ts).1.may := by
      revert hno
      cases (takeAll n0 ts).1.may <;> intro h <;> first | (cases h; done) | rfl
    rw [e2, e3] at hn
    rw [e1] at hb
    have hv := (hJ.beg hb).resolve_right hn
    unfold cnt at h4
    rw [if_pos ⟨hb, hv⟩] at h4
    have := List.length_pos_iff.2 ho
    simp at h4
    exact ho h4
  · exact h6 ho

/-- A token with which a value begins. -/
theorem takeO_open (n : Nst) (t : Tok) (e : Evt) (h1 : e.kind = 1) : ∀ r, takeO n t = r → r.2.2 = 0 → r.2.1 = [e] → n.may.val = true ∧
    ((t.begun = true ∧ r = ({ n with begun := t.kind, came := true }, [⟨1, beginK t.kind, t.fr, 0, stepO n.op, []⟩], 0)) ∨
     (t.begun = false ∧ (t.kind = 2 ∨ t.kind = 4) ∧ r = ({ n with op := ⟨decide (t.kind = 4), t.fr, stepO n.op, 0, []⟩ :: n.op, may := if t.kind = 4 then .member else .item, came := true }, [⟨1, t.kind / 4 + 4, t.fr, 0, stepO n.op, []⟩], 0))) := by
  intro r hr hf he
  obtain ⟨most, op, may, begun, came⟩ := n
  obtain ⟨kd, bg, fr, to, tx⟩ := t
  have no : ∀ (m : Nst) (k : Int), k ≠ 0 → badN m k = r → False := fun m k hk h => by rw [← h] at hf; exact hk hf
  have emp : ∀ (m : Nst), (m, ([] : List Evt), (0 : Int)) = r → False := fun m h => by rw [← h] at he; cases he
  have end2 : ∀ (m : Nst) (v : Int) (f t : Nat) (s : Stp) (x : List UInt8), (m, ([⟨2, v, f, t, s, x⟩] : List Evt), (0 : Int)) = r → False := fun m v f t s x h => by
    rw [← h] at he
    have he : [(⟨2, v, f, t, s, x⟩ : Evt)] = [e] := he
    have : (⟨2, v, f, t, s, x⟩ : Evt) = e := by simpa using he
    rw [← this] at h1
    cases h1
  cases may <;> unfold takeO at hr <;> simp only [] at hr
  case broken => exact absurd hf (by rw [← hr]; show (14 : Int) ≠ 0; decide)
  case nothing => exact (no _ _ (by decide) hr).elim
  all_goals
    (repeat' split at hr) <;> first
      | exact (no _ _ (by decide) hr).elim
      | exact (emp _ hr).elim
      | exact (end2 _ _ _ _ _ _ hr).elim
      | (rename_i h2 h3; exact absurd h3 (by decide))
      | (rename_i h2 h3 h4; exact ⟨h4, .inl ⟨h2, hr.symm⟩⟩)
      | (rename_i g1 g2 g3 g4; exact ⟨g2.2, .inr ⟨(by show bg = false; simpa using g1), g2.1, (by rw [← hr]; simp [g4])⟩⟩)

/-- A value begins: its bytes run alone from here. -/
theorem own_open (l : List UInt8) (n : Nst) (tok : Tok) (e : Evt) (hb : n.begun = 0) (h50 : n.most = 50) (hk : tok.begun = true → tok.kind ≠ 0) (hf : (takeN n tok).2.2 = 0) (he : (takeN n tok).2.1 = [e]) (h1 : e.kind = 1) : e.fr = tok.fr ∧ OwnB l tok.fr .out [tok] (takeN n tok).1 [] (.mk e.value e.fr 0 [] [] []) := by
  have ht : ∀ n : Nst, n.begun = 0 → takeN n tok = takeO n tok := fun n h => by unfold takeN; rw [if_pos h]
  have hrun : runC .out (newN 50) (subL l tok.fr tok.fr) tok.fr = some (.out, newN 50, []) := by unfold subL; rw [Nat.sub_self, List.take_zero]; rfl
  rw [ht _ hb] at hf he ⊢
  have hN : newN 50 = ⟨50, [], .value, 0, false⟩ := rfl
  have fin : ∀ (n' : Nst) (v : Int), takeO n tok = (n', [⟨1, v, tok.fr, 0, stepO n.op, []⟩], 0) → ∀ n1 : Nst, takeO (newN 50) tok = (n1, [⟨1, v, tok.fr, 0, zeroS0, []⟩], 0) → cnt n1 = 1 → RelN (n.op.map erO) n' n1 →
      e.fr = tok.fr ∧ OwnB l tok.fr .out [tok] (takeO n tok).1 [] (.mk e.value e.fr 0 [] [] []) := by
    intro n' v g1 n1 g2 g3 g4
    rw [g1] at he ⊢
    obtain rfl : (⟨1, v, tok.fr, 0, stepO n.op, []⟩ : Evt) = e := by simpa using he
    have ea : takeAll (newN 50) [tok] = (n1, [⟨1, v, tok.fr, 0, zeroS0, []⟩], 0) := by
      show (if (takeN (newN 50) tok).2.2 ≠ 0 then takeN (newN 50) tok else ((takeN (newN 50) tok).1, (takeN (newN 50) tok).2.1 ++ [], 0)) = _
      rw [ht _ rfl, g2]
      rfl
    exact ⟨rfl, n.op.map erO, newN 50, zeroS0, [], hrun, by rw [ea], by rw [ea]; rfl, by rw [ea]; exact g3, by rw [ea]; exact g4, fun _ => rfl⟩
  obtain ⟨hv, h⟩ := takeO_open n tok e h1 _ rfl hf he
  obtain ⟨most, op, may, begun, came⟩ := n
  obtain ⟨kd, bg, fr, to, tx⟩ := tok
  have hb : begun = 0 := hb
  have h50 : most = 50 := h50
  subst hb h50
  rcases h with ⟨hbg, hr⟩ | ⟨hbg, hkd, hr⟩
  · have hbg : bg = true := hbg
    subst hbg
    have hk0 : kd ≠ 0 := hk rfl
    refine fin _ _ hr ⟨50, [], .value, kd, true⟩ ?_ ?_ ?_
    · rw [hN]
      unfold takeO
      simp [May.nam, May.val, stepO, zeroS0]
    · unfold cnt
      simp [May.val, hk0]
    · exact ⟨⟨fun _ => .inl rfl, fun h => (by cases h), rfl⟩, rfl, er_er op, .inr ⟨rfl, hk0, rfl, rfl, hv⟩⟩
  · have hbg : bg = false := hbg
    subst hbg
    have hkd : kd = 2 ∨ kd = 4 := hkd
    refine fin _ _ hr ⟨50, [⟨decide (kd = 4), fr, zeroS0, 0, []⟩], if kd = 4 then .member else .item, 0, true⟩ ?_ ?_ ?_
    · rw [hN]
      unfold takeO
      simp [May.val, stepO, zeroS0, hkd]
    · unfold cnt
      simp
    · refine ⟨⟨fun h => absurd rfl h, ?_, ?_⟩, rfl, er_er op, .inl ⟨(fun h => by cases h), ?_⟩⟩
      · show (if kd = 4 then May.member else May.item).isNothing = true → _
        split <;> intro h <;> cases h
      · show (if kd = 4 then May.member else May.item).isBad = false
        split <;> rfl
      · show (⟨50, erO ⟨decide (kd = 4), fr, stepO op, 0, []⟩ :: op.map erO, if kd = 4 then May.member else May.item, 0, true⟩ : Nst) = ⟨50, liftO (op.map erO) (if kd = 4 then May.member else May.item) [erO ⟨decide (kd = 4), fr, zeroS0, 0, []⟩], liftM (op.map erO) (if kd = 4 then May.member else May.item), 0, true⟩
        split <;> rfl

end Go.Proofs.Ytaklbbkjhbkieaa

namespace Go.Proofs.Ytaklbbkjhbkieaa
set_option linter.unusedVariables false

mutual
/-- Each value stands within what it is in; its own bytes are a text, that is the same value. -/
def SpT (l : List UInt8) : Tree → Nat → Nat → Prop
  | .mk kd fr to tx items names, i, j => i ≤ fr ∧ to ≤ j ∧ fr < to ∧ to ≤ l.length ∧ (parseP (subL l fr to) 50).2.1 = 1 ∧ sameT (.mk kd fr to tx items names) (treeP (subL l fr to) 50) = true ∧ SpL l items (fr + 1) (to - 1)
def SpL (l : List UInt8) : List Tree → Nat → Nat → Prop
  | [], _, _ => True
  | t :: ts, i, j => SpT l t i j ∧ SpL l ts t.to j
end
/-- Where the last of them ends. -/
def endAt : Nat → List Tree → Nat
  | i, [] => i
  | _, t :: ts => endAt t.to ts

theorem spT_iff (l : List UInt8) (t : Tree) (i j : Nat) : SpT l t i j ↔ i ≤ t.fr ∧ t.to ≤ j ∧ t.fr < t.to ∧ t.to ≤ l.length ∧ (parseP (subL l t.fr t.to) 50).2.1 = 1 ∧ sameT t (treeP (subL l t.fr t.to) 50) = true ∧ SpL l t.items (t.fr + 1) (t.to - 1) := by
  obtain ⟨kd, fr, to, tx, items, names⟩ := t
  unfold SpT
  exact Iff.rfl
theorem spT_mono {l : List UInt8} {t : Tree} {i j i' j' : Nat} (h : SpT l t i j) (hi : i' ≤ i) (hj : j ≤ j') : SpT l t i' j' := by
  rw [spT_iff] at h ⊢
  obtain ⟨h1, h2, h⟩ := h
  exact ⟨Nat.le_trans hi h1, Nat.le_trans h2 hj, h⟩
theorem spL_cons (l : List UInt8) (t : Tree) (ts : List Tree) (i j : Nat) : SpL l (t :: ts) i j ↔ SpT l t i j ∧ SpL l ts t.to j := by
  conv => lhs; unfold SpL
theorem spL_nil (l : List UInt8) (i j : Nat) : SpL l [] i j := by unfold SpL; trivial
theorem spL_mono {l : List UInt8} {ts : List Tree} : ∀ {i j j' : Nat}, SpL l ts i j → j ≤ j' → SpL l ts i j' := by
  induction ts with
  | nil => intro i j j' _ _; exact spL_nil _ _ _
  | cons t ts ih =>
    intro i j j' h hj
    rw [spL_cons] at h ⊢
    exact ⟨spT_mono h.1 (Nat.le_refl _) hj, ih h.2 hj⟩
theorem spL_app {l : List UInt8} {y : Tree} {j : Nat} {ts : List Tree} : ∀ {i : Nat}, SpL l ts i j → SpT l y (endAt i ts) j → SpL l (ts ++ [y]) i j := by
  induction ts with
  | nil => intro i _ h; rw [List.nil_append, spL_cons]; exact ⟨h, spL_nil _ _ _⟩
  | cons t ts ih =>
    intro i h hy
    rw [List.cons_append, spL_cons]
    rw [spL_cons] at h
    exact ⟨h.1, ih h.2 hy⟩
theorem endAt_bd {l : List UInt8} {ts : List Tree} : ∀ {i j : Nat}, SpL l ts i j → i ≤ j → endAt i ts ≤ j := by
  induction ts with
  | nil => intro i j _ h; exact h
  | cons t ts ih =>
    intro i j h _
    rw [spL_cons] at h
    exact ih h.2 ((spT_iff _ _ _ _).1 h.1).2.1

theorem finT_fr (e : Evt) (y : Tree) : (finT e y).fr = y.fr := by cases y; rfl
theorem finT_to (e : Evt) (y : Tree) : (finT e y).to = e.to := by cases y; rfl
theorem finT_items (e : Evt) (y : Tree) : (finT e y).items = y.items := by cases y; rfl
theorem addT_fr (t : Tree) (s : Stp) (p : Tree) : (addT t s p).fr = p.fr := by cases p; rfl
theorem addT_items (t : Tree) (s : Stp) (p : Tree) : (addT t s p).items = p.items ++ [t] := by cases p; rfl

/-- What holds, behind some tokens of the byte at k; what has ended, has by K. -/
structure InvB (l : List UInt8) (k K : Nat) (st : LSt) (ts : List Tok) (n : Nst) (b : Bld) : Prop where
  j : JN n
  most : n.most = 50
  kl : k ≤ K ∧ K ≤ l.length
  cn : cnt n = b.op.length
  nt : n.may.isNothing = true → ∃ t, b.root = some t
  own : ∀ x t s P, b.op = x ++ (t, s) :: P → OwnB l k st ts n x t
  sp : ∀ p ∈ b.op, p.1.fr < K ∧ SpL l p.1.items (p.1.fr + 1) K
  adj : ∀ x t s u v P, b.op = x ++ (t, s) :: (u, v) :: P → endAt (u.fr + 1) u.items ≤ t.fr
  root : ∀ t, b.root = some t → SpT l t 0 l.length

theorem inv_tok (l : List UInt8) (k K' : Nat) (st : LSt) (ts : List Tok) (n : Nst) (b : Bld) (tok : Tok) (I : InvB l k k st ts n b) (hk : tok.begun = true → tok.kind ≠ 0) (hf : (takeN n tok).2.2 = 0)
    (hK : k ≤ K' ∧ K' ≤ k + 1 ∧ K' ≤ l.length) (hto : k ≤ tok.to) (hC0 : ∀ e, (takeN n tok).2.1 = [e] → e.kind = 2 → tok.to ≤ K')
    (hO : ∀ e, (takeN n tok).2.1 = [e] → e.kind = 1 → st = .out ∧ ts = [] ∧ tok.fr = k ∧ K' = k + 1)
    (hC : ∀ e, (takeN n tok).2.1 = [e] → e.kind = 2 → (tok.to = k + 1 ∨ n.begun ≠ 0) ∧ ∀ (f : Nat) (n0 : Nst) (es0 : List Evt) (T : Tree), f < k → runC .out (newN 50) (subL l f k) f = some (st, n0, es0) → (takeAll n0 (ts ++ [tok])).2.2 = 0 →
      (takeAll n0 (ts ++ [tok])).1.may.isNothing = true → (takeAll n0 (ts ++ [tok])).1.may.isBad = false → (bldA ⟨[], none⟩ (es0 ++ (takeAll n0 (ts ++ [tok])).2.1)).root = some T → (parseP (subL l f tok.to) 50).2.1 = 1 ∧ sameT T (treeP (subL l f tok.to) 50) = true) :
    InvB l k K' st (ts ++ [tok]) (takeN n tok).1 (bldA b (takeN n tok).2.1) := by
  have D := tok_does n tok I.j hk hf
  have spK : ∀ p ∈ b.op, p.1.fr < K' ∧ SpL l p.1.items (p.1.fr + 1) K' := fun p hp => ⟨Nat.lt_of_lt_of_le (I.sp p hp).1 hK.1, spL_mono (I.sp p hp).2 hK.1⟩
  have closed : ∀ (e : Evt) (y : Tree) (s : Stp) (r : List (Tree × Stp)), (takeN n tok).2.1 = [e] → e.kind = 2 → e.to = tok.to → b.op = (y, s) :: r → ∀ i j, i ≤ y.fr → tok.to ≤ j → SpT l (finT e y) i j := by
    intro e y s r he h2 het hop i j hi hj
    obtain ⟨c1, c2⟩ := hC e he h2
    have O := I.own [] y s r hop
    obtain ⟨n0, es0, g1, g2, g3, g4, g5⟩ := (own_tok l k st ts n [] y tok O hk hf).2.2.2 e he h2 rfl
    obtain ⟨hy1, hy2⟩ := I.sp (y, s) (by rw [hop]; exact List.mem_cons_self)
    have hy1 : y.fr < k := hy1
    have hs := c2 y.fr n0 es0 (finT e y) hy1 g1 g2 g3 g4 g5
    have htK := hC0 e he h2
    rw [spT_iff, finT_fr, finT_to, finT_items, het]
    refine ⟨hi, hj, by omega, by omega, hs.1, hs.2, ?_⟩
    rcases c1 with h | h
    · rw [h]; exact hy2
    · have hn : ¬ n.may.nam = true := fun hn => by
        have : (takeN n tok).2.1 = [] := by unfold takeN; rw [if_neg h, if_pos hn]
        rw [this] at he
        cases he
      have := own_items l k st ts n y O h hn
      rw [this]
      exact spL_nil _ _ _
  obtain ⟨op, rt⟩ := b
  rcases D.evs with ⟨he, hc, hn⟩ | ⟨v, s, he, hc, hb, hv, hn⟩ | ⟨v, f, s, z, he, hc, hb, hn⟩
  · have hB : bldA ⟨op, rt⟩ (takeN n tok).2.1 = ⟨op, rt⟩ := by rw [he]; rfl
    rw [hB]
    exact ⟨D.j, D.most.trans I.most, ⟨hK.1, hK.2.2⟩, hc.trans I.cn, fun h => (by rw [hn] at h; cases h), fun x t s P h => (own_tok l k st ts n x t tok (I.own x t s P h) hk hf).1 he, spK, I.adj, I.root⟩
  · obtain ⟨o1, o2, o3, o4⟩ := hO _ he rfl
    have hB : bldA ⟨op, rt⟩ (takeN n tok).2.1 = ⟨(.mk v tok.fr 0 [] [] [], s) :: op, rt⟩ := by rw [he]; rfl
    rw [hB]
    obtain ⟨q1, q2⟩ := own_open l n tok _ hb I.most hk hf he rfl
    refine ⟨D.j, D.most.trans I.most, ⟨hK.1, hK.2.2⟩, by rw [hc, I.cn]; rfl, fun h => (by rw [hn] at h; cases h), fun x t s' P h => ?_, fun p hp => ?_, fun x t s' u w P h => ?_, I.root⟩
    · cases x with
      | nil =>
        rw [List.nil_append] at h
        injection h with h1 h2
        injection h1 with h1 h3
        rw [← h1, o1, o2, ← o3]
        exact q2
      | cons y x =>
        rw [List.cons_append] at h
        injection h with h1 h2
        rw [← h1]
        exact (own_tok l k st ts n x t tok (I.own x t s' P h2) hk hf).2.1 _ he rfl
    · rcases List.mem_cons.1 hp with h | h
      · rw [h]
        exact ⟨by show tok.fr < K'; omega, spL_nil _ _ _⟩
      · exact spK p h
    · cases x with
      | nil =>
        rw [List.nil_append] at h
        injection h with h1 h2
        injection h1 with h1 h3
        have := I.sp (u, w) (by show (u, w) ∈ op; rw [h2]; exact List.mem_cons_self)
        rw [← h1]
        show endAt (u.fr + 1) u.items ≤ tok.fr
        rw [o3]
        exact endAt_bd this.2 this.1
      | cons y x =>
        rw [List.cons_append] at h
        injection h with h1 h2
        exact I.adj x t s' u w P h2
  · have hcn : cnt n = op.length := I.cn
    cases op with
    | nil => rw [hcn] at hc; cases hc
    | cons y r =>
      obtain ⟨y, sy⟩ := y
      cases r with
      | nil =>
        have hB : bldA ⟨[(y, sy)], rt⟩ (takeN n tok).2.1 = ⟨[], some (finT ⟨2, v, f, tok.to, s, z⟩ y)⟩ := by
          rw [he]
          exact bldE_last y sy rt ⟨2, v, f, tok.to, s, z⟩ (show ¬ (2 : Int) = 1 by decide)
        rw [hB]
        refine ⟨D.j, D.most.trans I.most, ⟨hK.1, hK.2.2⟩, by rw [hcn] at hc; show _ = 0; simpa using hc, fun _ => ⟨_, rfl⟩, fun x t s' P h => ?_, fun p hp => (by cases hp), fun x t s' u w P h => ?_, fun t ht => ?_⟩
        · cases x <;> cases h
        · cases x <;> cases h
        · injection ht with ht
          rw [← ht]
          have := hC0 _ he rfl
          exact closed _ y sy [] he rfl rfl rfl 0 l.length (Nat.zero_le _) (by omega)
      | cons p r =>
        obtain ⟨p, ps⟩ := p
        have hB : bldA ⟨(y, sy) :: (p, ps) :: r, rt⟩ (takeN n tok).2.1 = ⟨(addT (finT ⟨2, v, f, tok.to, s, z⟩ y) sy p, ps) :: r, rt⟩ := by
          rw [he]
          exact bldE_close y sy [] p ps r rt ⟨2, v, f, tok.to, s, z⟩ (show ¬ (2 : Int) = 1 by decide)
        rw [hB]
        have hcn' : cnt (takeN n tok).1 = r.length + 1 := by rw [hcn] at hc; simpa using hc
        have hadj : endAt (p.fr + 1) p.items ≤ y.fr := I.adj [] y sy p ps r rfl
        refine ⟨D.j, D.most.trans I.most, ⟨hK.1, hK.2.2⟩, by rw [hcn']; rfl, fun h => ?_, fun x t s' P h => ?_, fun q hq => ?_, fun x t s' u w P h => ?_, I.root⟩
        · exfalso
          have := D.j.noth h
          unfold cnt at hcn'
          rw [this, hb] at hcn'
          simp at hcn'
        · cases x with
          | nil =>
            rw [List.nil_append] at h
            injection h with h1 h2
            injection h1 with h1 h3
            rw [← h1]
            exact (own_tok l k st ts n [(y, sy)] p tok (I.own [(y, sy)] p ps r rfl) hk hf).2.2.1 _ y sy [] he rfl rfl
          | cons w x =>
            rw [List.cons_append] at h
            injection h with h1 h2
            rw [← h1]
            exact (own_tok l k st ts n ((y, sy) :: (p, ps) :: x) t tok (I.own ((y, sy) :: (p, ps) :: x) t s' P (by rw [h2]; rfl)) hk hf).2.2.1 _ y sy ((p, ps) :: x) he rfl rfl
        · rcases List.mem_cons.1 hq with h | h
          · rw [h]
            have hp := spK (p, ps) (List.mem_cons_of_mem _ List.mem_cons_self)
            show (addT _ _ _).fr < K' ∧ SpL l (addT _ _ _).items ((addT _ _ _).fr + 1) K'
            rw [addT_fr, addT_items]
            exact ⟨hp.1, spL_app hp.2 (closed _ y sy _ he rfl rfl rfl _ _ hadj (hC0 _ he rfl))⟩
          · exact spK q (List.mem_cons_of_mem _ (List.mem_cons_of_mem _ h))
        · cases x with
          | nil =>
            rw [List.nil_append] at h
            injection h with h1 h2
            injection h1 with h1 h3
            rw [← h1, addT_fr]
            exact I.adj [(y, sy)] p ps u w P (by rw [h2]; rfl)
          | cons w' x =>
            rw [List.cons_append] at h
            injection h with h1 h2
            exact I.adj ((y, sy) :: (p, ps) :: x) t s' u w P (by rw [h2]; rfl)

end Go.Proofs.Ytaklbbkjhbkieaa

namespace Go.Proofs.Ytaklbbkjhbkieaa
set_option linter.unusedVariables false

theorem sub_len (l : List UInt8) (f k : Nat) (h1 : f ≤ k) (h2 : k ≤ l.length) : f + (subL l f k).length = k := by
  unfold subL
  rw [List.length_take, List.length_drop]
  omega
theorem sub_snoc (l : List UInt8) (f k : Nat) (c : UInt8) (rest : List UInt8) (h1 : f ≤ k) (h : l.drop k = c :: rest) : subL l f (k + 1) = subL l f k ++ [c] := by
  have hd : (l.drop f).drop (k - f) = c :: rest := by rw [List.drop_drop, ← h]; congr 1; omega
  unfold subL
  have e : k + 1 - f = (k - f) + 1 := by omega
  rw [e, List.take_add, hd]
  rfl
theorem byte_ok (st : LSt) (n : Nst) (k : Nat) (c : UInt8) (hf : (byteP st n k c).2.1 = 0) : (takeAll n (stepL st k c).1).2.2 = 0 ∧ (stepL st k c).2.1 = 0 := by
  have hf : (if (takeAll n (stepL st k c).1).2.2 ≠ 0 then (takeAll n (stepL st k c).1).2.2 else if (stepL st k c).2.1 = 8 ∧ (takeAll n (stepL st k c).1).1.may.isNothing = true then 9 else (stepL st k c).2.1) = 0 := hf
  by_cases h : (takeAll n (stepL st k c).1).2.2 ≠ 0
  · rw [if_pos h] at hf; exact absurd hf h
  · rw [if_neg h] at hf
    refine ⟨Decidable.not_not.1 h, ?_⟩
    split at hf
    · cases hf
    · exact hf
theorem byte_ok' (st : LSt) (n : Nst) (k : Nat) (c : UInt8) (h1 : (takeAll n (stepL st k c).1).2.2 = 0) (h2 : (stepL st k c).2.1 = 0) : (byteP st n k c).2.1 = 0 := by
  show (if (takeAll n (stepL st k c).1).2.2 ≠ 0 then (takeAll n (stepL st k c).1).2.2 else if (stepL st k c).2.1 = 8 ∧ (takeAll n (stepL st k c).1).1.may.isNothing = true then 9 else (stepL st k c).2.1) = 0
  rw [if_neg (fun h => h h1), h2, if_neg (fun h => by cases h.1)]
theorem run_snoc (l : List UInt8) (f k : Nat) (c : UInt8) (rest : List UInt8) (st : LSt) (n0 : Nst) (es0 : List Evt) (h : runC .out (newN 50) (subL l f k) f = some (st, n0, es0)) (h1 : f ≤ k) (h2 : k ≤ l.length) (hd : l.drop k = c :: rest)
    (ha : (takeAll n0 (stepL st k c).1).2.2 = 0) (hs : (stepL st k c).2.1 = 0) : runC .out (newN 50) (subL l f (k + 1)) f = some ((stepL st k c).2.2, (takeAll n0 (stepL st k c).1).1, es0 ++ (takeAll n0 (stepL st k c).1).2.1) := by
  rw [sub_snoc l f k c rest h1 hd, runC_app _ [c] _ _ _ _ _ _ h, sub_len l f k h1 h2]
  have hb := byte_ok' st n0 k c ha hs
  have : runC st n0 [c] k = some ((stepL st k c).2.2, (takeAll n0 (stepL st k c).1).1, (takeAll n0 (stepL st k c).1).2.1 ++ []) := by
    show (if _ then _ else _) = _
    rw [if_neg (fun h => h hb)]
    rfl
  rw [this, List.append_nil]
  rfl
theorem own_byte (l : List UInt8) (k : Nat) (c : UInt8) (rest : List UInt8) (st : LSt) (n : Nst) (x : List (Tree × Stp)) (t : Tree) (h : OwnB l k st (stepL st k c).1 n x t) (h1 : t.fr ≤ k) (h2 : k ≤ l.length) (hd : l.drop k = c :: rest) (hs : (stepL st k c).2.1 = 0) :
    OwnB l (k + 1) (stepL st k c).2.2 [] n x t := by
  obtain ⟨S, n0, s0, es0, g1, g2, g3, g4, g5, g6⟩ := h
  refine ⟨S, (takeAll n0 (stepL st k c).1).1, s0, es0 ++ (takeAll n0 (stepL st k c).1).2.1, run_snoc l t.fr k c rest st n0 es0 g1 h1 h2 hd g2 hs, rfl, ?_, g4, g5, g6⟩
  show bldA _ (_ ++ []) = _
  rw [List.append_nil]
  exact g3
theorem inv_next (l : List UInt8) (k : Nat) (c : UInt8) (rest : List UInt8) (st : LSt) (n : Nst) (b : Bld) (hd : l.drop k = c :: rest) (hs : (stepL st k c).2.1 = 0) (I : InvB l k (k + 1) st (stepL st k c).1 n b) : InvB l (k + 1) (k + 1) (stepL st k c).2.2 [] n b := by
  refine ⟨I.j, I.most, ⟨Nat.le_refl _, I.kl.2⟩, I.cn, I.nt, fun x t s P h => ?_, I.sp, I.adj, I.root⟩
  have := (I.sp (t, s) (by rw [h]; exact List.mem_append_right _ List.mem_cons_self)).1
  exact own_byte l k c rest st n x t (I.own x t s P h) (Nat.lt_succ_iff.1 this) (Nat.le_of_succ_le I.kl.2) hd hs
theorem inv_up (l : List UInt8) (k : Nat) (st : LSt) (ts : List Tok) (n : Nst) (b : Bld) (I : InvB l k k st ts n b) (h : k + 1 ≤ l.length) : InvB l k (k + 1) st ts n b :=
  ⟨I.j, I.most, ⟨Nat.le_succ _, h⟩, I.cn, I.nt, I.own, fun p hp => ⟨Nat.lt_succ_of_lt (I.sp p hp).1, spL_mono (I.sp p hp).2 (Nat.le_succ _)⟩, I.adj, I.root⟩

theorem begun_open (n : Nst) (t : Tok) (hb : n.begun = 0) (ht : t.begun = true) (e : Evt) (he : (takeN n t).2.1 = [e]) : e.kind = 1 := by
  obtain ⟨most, op, may, begun, came⟩ := n
  obtain ⟨kd, bg, fr, to, tx⟩ := t
  have hb : begun = 0 := hb
  have ht : bg = true := ht
  subst hb ht
  unfold takeN at he
  rw [if_pos rfl] at he
  cases may <;> unfold takeO at he <;> simp only [if_true] at he <;> (repeat' split at he) <;> first
    | (cases he; done)
    | (cases he; rfl)
theorem open_val (n : Nst) (t : Tok) (hJ : JN n) (hk : t.begun = true → t.kind ≠ 0) (hf : (takeN n t).2.2 = 0) (e : Evt) (he : (takeN n t).2.1 = [e]) (h1 : e.kind = 1) : n.begun = 0 ∧ n.may.val = true := by
  rcases (tok_does n t hJ hk hf).evs with ⟨g, _⟩ | ⟨v, s, g, _, g1, g2, _⟩ | ⟨v, f, s, z, g, _⟩
  · rw [g] at he; cases he
  · exact ⟨g1, g2⟩
  · rw [g] at he
    have : (⟨2, v, f, t.to, s, z⟩ : Evt) = e := by simpa using he
    rw [← this] at h1
    cases h1
theorem close_one (n : Nst) (h1 : n.may.isNothing = true) (h2 : n.may.isBad = false) : closeN n = 1 := by
  unfold closeN
  rw [h2, h1]
  rfl
theorem close_nothing (n : Nst) (h : closeN n = 1) : n.may.isNothing = true := by
  unfold closeN at h
  split at h
  · cases h
  · split at h
    · assumption
    · split at h <;> cases h
theorem takeAll_ok {n : Nst} {t : Tok} {ts : List Tok} (h : (takeAll n (t :: ts)).2.2 = 0) : (takeN n t).2.2 = 0 ∧ (takeAll (takeN n t).1 ts).2.2 = 0 ∧ (takeAll n (t :: ts)).1 = (takeAll (takeN n t).1 ts).1 ∧ (takeAll n (t :: ts)).2.1 = (takeN n t).2.1 ++ (takeAll (takeN n t).1 ts).2.1 := by
  have e : takeAll n (t :: ts) = if (takeN n t).2.2 ≠ 0 then takeN n t else ((takeAll (takeN n t).1 ts).1, (takeN n t).2.1 ++ (takeAll (takeN n t).1 ts).2.1, (takeAll (takeN n t).1 ts).2.2) := rfl
  by_cases hf : (takeN n t).2.2 ≠ 0
  · rw [e, if_pos hf] at h; exact absurd h hf
  · rw [e, if_neg hf] at h ⊢
    exact ⟨Decidable.not_not.1 hf, h, rfl, rfl⟩

theorem out_shape (k : Nat) (c : UInt8) (hf : (outL k c).2.1 = 0) : (outL k c).1 = [] ∨ ∃ tok, (outL k c).1 = [tok] ∧ tok.fr = k ∧ (tok.begun = true → tok.kind ≠ 0) ∧ ((tok.begun = true ∧ tok.to = k) ∨ (tok.begun = false ∧ tok.to = k + 1 ∧ (outL k c).2.2 = .out)) := by
  unfold outL at hf ⊢
  split
  · exact .inl rfl
  · rename_i h1
    rw [if_neg h1] at hf
    split
    · exact .inl rfl
    · rename_i h2
      split
      · exact .inr ⟨_, rfl, rfl, fun h => (by cases h), .inr ⟨rfl, rfl, rfl⟩⟩
      · split
        · exact .inr ⟨_, rfl, rfl, fun _ => (show (8 : Int) ≠ 0 by decide), .inl ⟨rfl, rfl⟩⟩
        · split
          · exact .inr ⟨_, rfl, rfl, fun _ => (show (9 : Int) ≠ 0 by decide), .inl ⟨rfl, rfl⟩⟩
          · exact .inr ⟨_, rfl, rfl, fun _ => (show (10 : Int) ≠ 0 by decide), .inl ⟨rfl, rfl⟩⟩

/-- A value whose last token is a byte's last one. -/
theorem acc_byte (l : List UInt8) (k : Nat) (c : UInt8) (rest : List UInt8) (st : LSt) (hd : l.drop k = c :: rest) (h2 : k ≤ l.length) (hs : (stepL st k c).2.1 = 0) (ho : (stepL st k c).2.2 = .out) (f : Nat) (n0 : Nst) (es0 : List Evt) (T : Tree) (h1 : f < k)
    (h : runC .out (newN 50) (subL l f k) f = some (st, n0, es0)) (ha : (takeAll n0 (stepL st k c).1).2.2 = 0) (hn : (takeAll n0 (stepL st k c).1).1.may.isNothing = true) (hb : (takeAll n0 (stepL st k c).1).1.may.isBad = false) (hT : (bldA ⟨[], none⟩ (es0 ++ (takeAll n0 (stepL st k c).1).2.1)).root = some T) :
    (parseP (subL l f (k + 1)) 50).2.1 = 1 ∧ sameT T (treeP (subL l f (k + 1)) 50) = true := by
  have r := run_snoc l f k c rest st n0 es0 h (Nat.le_of_lt h1) h2 hd ha hs
  rw [ho] at r
  have g := runC_go _ _ _ _ _ _ _ r
  refine acc_same _ f (es0 ++ (takeAll n0 (stepL st k c).1).2.1) (f + (subL l f (k + 1)).length) T ?_ hT
  rw [g]
  show (_ ++ [], (if (1 : Int) ≠ 1 then (1 : Int) else closeN (takeAll n0 (stepL st k c).1).1), _) = _
  rw [List.append_nil, close_one _ hn hb]
  rfl
/-- A number that ends ahead of a byte, or of the end. -/
theorem acc_num (l : List UInt8) (k : Nat) (a : Int) (g : Nat) (p : List UInt8) (h2 : k ≤ l.length) (hw : whI a = true) (f : Nat) (n0 : Nst) (es0 : List Evt) (T : Tree) (h1 : f < k)
    (h : runC .out (newN 50) (subL l f k) f = some (.num a g p, n0, es0)) (hn : (takeAll n0 [⟨9, false, g, k, p⟩]).1.may.isNothing = true) (hb : (takeAll n0 [⟨9, false, g, k, p⟩]).1.may.isBad = false) (hT : (bldA ⟨[], none⟩ (es0 ++ (takeAll n0 [⟨9, false, g, k, p⟩]).2.1)).root = some T) :
    (parseP (subL l f k) 50).2.1 = 1 ∧ sameT T (treeP (subL l f k) 50) = true := by
  have r := runC_go _ _ _ _ _ _ _ h
  rw [sub_len l f k (Nat.le_of_lt h1) h2] at r
  refine acc_same _ f (es0 ++ (takeAll n0 [⟨9, false, g, k, p⟩]).2.1) k T ?_ hT
  rw [r]
  have e : closeL (.num a g p) k = ([⟨9, false, g, k, p⟩], 1) := by show (if _ then _ else _) = _; rw [if_pos hw]
  unfold endP
  rw [e]
  show (_, (if (1 : Int) ≠ 1 then (1 : Int) else closeN (takeAll n0 [⟨9, false, g, k, p⟩]).1), _) = _
  rw [close_one _ hn hb]
  rfl

theorem inv_num (l : List UInt8) (k : Nat) (a : Int) (g : Nat) (p : List UInt8) (n : Nst) (b : Bld) (I : InvB l k k (.num a g p) [] n b) (hb : n.begun ≠ 0) (hw : whI a = true) (hf : (takeN n ⟨9, false, g, k, p⟩).2.2 = 0) :
    InvB l k k (.num a g p) [⟨9, false, g, k, p⟩] (takeN n ⟨9, false, g, k, p⟩).1 (bldA b (takeN n ⟨9, false, g, k, p⟩).2.1) := by
  refine inv_tok l k k (.num a g p) [] n b ⟨9, false, g, k, p⟩ I (fun h => by cases h) hf ⟨Nat.le_refl _, Nat.le_succ _, I.kl.2⟩ (Nat.le_refl _) (fun _ _ _ => Nat.le_refl _) (fun e he h1 => ?_) (fun e he h2 => ⟨.inr hb, fun f n0 es0 T h1 hr ha hn hbd hT => ?_⟩)
  · exact absurd (open_val n _ I.j (fun h => by cases h) hf e he h1).1 hb
  · exact acc_num l k a g p I.kl.2 hw f n0 es0 T h1 hr hn hbd hT

theorem inv_byte (l : List UInt8) (k : Nat) (c : UInt8) (rest : List UInt8) (st : LSt) (n : Nst) (b : Bld) (I : InvB l k k st [] n b) (hF : Fit st n) (hd : l.drop k = c :: rest) (hf : (byteP st n k c).2.1 = 0) :
    InvB l (k + 1) (k + 1) (byteP st n k c).2.2.1 [] (byteP st n k c).2.2.2 (bldA b (byteP st n k c).1) := by
  have hkl : k + 1 ≤ l.length := by
    have := congrArg List.length hd
    rw [List.length_drop, List.length_cons] at this
    omega
  obtain ⟨h1, h2⟩ := byte_ok st n k c hf
  show InvB l (k + 1) (k + 1) (stepL st k c).2.2 [] (takeAll n (stepL st k c).1).1 (bldA b (takeAll n (stepL st k c).1).2.1)
  refine inv_next l k c rest st _ _ hd h2 ?_
  have none : (stepL st k c).1 = [] → InvB l k (k + 1) st (stepL st k c).1 (takeAll n (stepL st k c).1).1 (bldA b (takeAll n (stepL st k c).1).2.1) := fun h => by
    rw [h]
    exact inv_up l k st [] n b I hkl
  have one : ∀ tok, (stepL st k c).1 = [tok] → (tok.begun = true → tok.kind ≠ 0) → (n.begun = 0 → st = .out ∧ tok.fr = k) → ((tok.begun = true ∧ tok.to = k ∧ n.begun = 0) ∨ (tok.begun = false ∧ tok.to = k + 1 ∧ (stepL st k c).2.2 = .out)) →
      InvB l k (k + 1) st (stepL st k c).1 (takeAll n (stepL st k c).1).1 (bldA b (takeAll n (stepL st k c).1).2.1) := by
    intro tok hT hk ho hc
    have hall : ∀ n0 : Nst, takeAll n0 [tok] = takeAll n0 (stepL st k c).1 := fun n0 => by rw [hT]
    have h1' := h1
    rw [hT] at h1' ⊢
    obtain ⟨a1, _, a3, a4⟩ := takeAll_ok h1'
    rw [a3, a4]
    have e : (takeN n tok).2.1 ++ (takeAll (takeN n tok).1 []).2.1 = (takeN n tok).2.1 := List.append_nil _
    rw [e]
    show InvB l k (k + 1) st ([] ++ [tok]) (takeN n tok).1 _
    refine inv_tok l k (k + 1) st [] n b tok I hk a1 ⟨Nat.le_succ _, Nat.le_refl _, hkl⟩ (by rcases hc with h | h <;> omega) (fun _ _ _ => by rcases hc with h | h <;> omega) (fun e he h1 => ?_) (fun e he h2' => ?_)
    · obtain ⟨g1, g2⟩ := ho (open_val n tok I.j hk a1 e he h1).1
      exact ⟨g1, rfl, g2, rfl⟩
    · rcases hc with ⟨hbg, _, hb0⟩ | ⟨_, hto, hout⟩
      · exact absurd ((begun_open n tok hb0 hbg e he).symm.trans h2') (by decide)
      · refine ⟨.inl hto, fun f n0 es0 T g1 hr ha hn hbd hT' => ?_⟩
        rw [hto]
        have q := hall n0
        rw [List.nil_append, q] at ha hn hbd hT'
        exact acc_byte l k c rest st hd (Nat.le_of_succ_le hkl) h2 hout f n0 es0 T g1 hr ha hn hbd hT'
  obtain ⟨hx, hF⟩ := hF
  cases st with
  | dead => exact hF.elim
  | out =>
    rcases out_shape k c h2 with h | ⟨tok, g1, g2, g3, g4⟩
    · exact none h
    · exact one tok g1 g3 (fun _ => ⟨rfl, g2⟩) (g4.elim (fun g => .inl ⟨g.1, g.2, hF⟩) (fun g => .inr g))
  | word f p =>
    have hF : n.begun ≠ 0 := hF
    by_cases q1 : refL (p ++ [c]) = 2
    · exact none (by show (if _ then _ else if _ then _ else _ : List Tok × Int × LSt).1 = _; rw [if_pos q1])
    · by_cases q2 : refL (p ++ [c]) = 1
      · have e : stepL (.word f p) k c = ([⟨10, false, f, k + 1, p ++ [c]⟩], 0, .out) := by show (if _ then _ else if _ then _ else _) = _; rw [if_neg q1, if_pos q2]
        exact one ⟨10, false, f, k + 1, p ++ [c]⟩ (by rw [e]) (fun h => by cases h) (fun h => absurd h hF) (.inr ⟨rfl, rfl, by rw [e]⟩)
      · exact none (by show (if _ then _ else if _ then _ else _ : List Tok × Int × LSt).1 = _; rw [if_neg q1, if_neg q2])
  | str q f acc =>
    have hF : n.begun ≠ 0 := hF
    have e : stepL (.str q f acc) k c = strL q f acc k c (stepQ q c) := rfl
    cases hq : stepQ q c with
    | none => rw [hq] at e; exact none (by rw [e]; rfl)
    | some z =>
      obtain ⟨q', y⟩ := z
      rw [hq] at e
      by_cases hdn : q' = .done
      · subst hdn
        exact one ⟨8, false, f, k + 1, acc ++ y⟩ (by rw [e]; rfl) (fun h => by cases h) (fun h => absurd h hF) (.inr ⟨rfl, rfl, by rw [e]; rfl⟩)
      · have e' : strL q f acc k c (some (q', y)) = ([], 0, .str q' f (acc ++ y)) := by cases q' <;> first | rfl | exact absurd rfl hdn
        rw [e'] at e
        exact none (by rw [e])
  | num a g p =>
    have hF : n.begun ≠ 0 := hF
    by_cases q1 : nxI a c.toNat ≠ 0
    · exact none (by show (if _ then _ else if _ then _ else _ : List Tok × Int × LSt).1 = _; rw [if_pos q1])
    · by_cases q2 : (whI a && !stickI c.toNat) = true
      · have e : stepL (.num a g p) k c = (⟨9, false, g, k, p⟩ :: (outL k c).1, (outL k c).2.1, (outL k c).2.2) := by show (if _ then _ else if _ then _ else _) = _; rw [if_neg q1, if_pos q2]
        have hw : whI a = true := by cases h : whI a with
          | true => rfl
          | false => rw [h] at q2; cases q2
        have h2o : (outL k c).2.1 = 0 := by rw [e] at h2; exact h2
        rcases out_shape k c h2o with h | ⟨tok, g1, g2, g3, g4⟩
        · have eT : (stepL (.num a g p) k c).1 = [⟨9, false, g, k, p⟩] := by rw [e, h]
          rw [eT] at h1 ⊢
          obtain ⟨a1, _, a3, a4⟩ := takeAll_ok h1
          rw [a3, a4]
          have e0 : (takeN n ⟨9, false, g, k, p⟩).2.1 ++ (takeAll (takeN n ⟨9, false, g, k, p⟩).1 []).2.1 = (takeN n ⟨9, false, g, k, p⟩).2.1 := List.append_nil _
          rw [e0]
          exact inv_up _ _ _ _ _ _ (inv_num l k a g p n b I hF hw a1) hkl
        · have eT : (stepL (.num a g p) k c).1 = [⟨9, false, g, k, p⟩, tok] := by rw [e, g1]
          have hall : ∀ n0 : Nst, takeAll n0 [⟨9, false, g, k, p⟩, tok] = takeAll n0 (stepL (.num a g p) k c).1 := fun n0 => by rw [eT]
          have ho : (stepL (.num a g p) k c).2.2 = (outL k c).2.2 := by rw [e]
          have h1' := h1
          rw [eT] at h1' ⊢
          obtain ⟨a1, a2, a3, a4⟩ := takeAll_ok h1'
          obtain ⟨b1, _, b3, b4⟩ := takeAll_ok a2
          rw [a3, a4, b3, b4]
          have D := tok_does n ⟨9, false, g, k, p⟩ I.j (fun h => by cases h) a1
          obtain ⟨d1, d2⟩ := D.fin hF
          have I1 := inv_num l k a g p n b I hF hw a1
          have e0 : ∀ m : Nst, (takeN m tok).2.1 ++ (takeAll (takeN m tok).1 []).2.1 = (takeN m tok).2.1 := fun m => List.append_nil _
          rw [e0, bldA_app]
          show InvB l k (k + 1) (.num a g p) ([⟨9, false, g, k, p⟩] ++ [tok]) (takeN (takeN n ⟨9, false, g, k, p⟩).1 tok).1 _
          refine inv_tok l k (k + 1) _ _ _ _ tok I1 g3 b1 ⟨Nat.le_succ _, Nat.le_refl _, hkl⟩ (by rcases g4 with h | h <;> omega) (fun _ _ _ => by rcases g4 with h | h <;> omega) (fun e he h1 => ?_) (fun e he h2' => ?_)
          · have := (open_val _ tok I1.j g3 b1 e he h1).2
            rw [d2] at this
            cases this
          · rcases g4 with ⟨hbg, _⟩ | ⟨_, hto, hout⟩
            · exact absurd ((begun_open _ tok d1 hbg e he).symm.trans h2') (by decide)
            · refine ⟨.inl hto, fun f n0 es0 T q1 hr ha hn hbd hT' => ?_⟩
              rw [hto]
              have q := hall n0
              have q' : ([⟨9, false, g, k, p⟩] : List Tok) ++ [tok] = [⟨9, false, g, k, p⟩, tok] := rfl
              rw [q', q] at ha hn hbd hT'
              exact acc_byte l k c rest _ hd (Nat.le_of_succ_le hkl) h2 (ho.trans hout) f n0 es0 T q1 hr ha hn hbd hT'
      · exact none (by show (if _ then _ else if _ then _ else _ : List Tok × Int × LSt).1 = _; rw [if_neg q1, if_neg q2])

theorem inv_run (l : List UInt8) (rest : List UInt8) : ∀ (k : Nat) (st : LSt) (n : Nst) (b : Bld) (st' : LSt) (n' : Nst) (es : List Evt), l.drop k = rest → InvB l k k st [] n b → Fit st n → runC st n rest k = some (st', n', es) → InvB l l.length l.length st' [] n' (bldA b es) := by
  induction rest with
  | nil =>
    intro k st n b st' n' es hd I hF h
    cases h
    have hk : k = l.length := Nat.le_antisymm I.kl.2 (List.drop_eq_nil_iff.1 hd)
    subst hk
    exact I
  | cons c t ih =>
    intro k st n b st' n' es hd I hF h
    by_cases hf : (byteP st n k c).2.1 ≠ 0
    · have : runC st n (c :: t) k = none := by show (if _ then _ else _) = _; rw [if_pos hf]
      rw [this] at h; cases h
    · have hf0 := Decidable.not_not.1 hf
      have e1 : runC st n (c :: t) k = (runC (byteP st n k c).2.2.1 (byteP st n k c).2.2.2 t (k + 1)).map fun r => (r.1, r.2.1, (byteP st n k c).1 ++ r.2.2) := by show (if _ then _ else _) = _; rw [if_neg hf]
      rw [e1] at h
      cases hr : runC (byteP st n k c).2.2.1 (byteP st n k c).2.2.2 t (k + 1) with
      | none => rw [hr] at h; cases h
      | some r =>
        obtain ⟨st1, n1, es1⟩ := r
        rw [hr] at h
        cases h
        have hd' : l.drop (k + 1) = t := by
          have : (l.drop k).drop 1 = t := by rw [hd]; rfl
          rwa [List.drop_drop] at this
        have := ih (k + 1) _ _ _ _ _ _ hd' (inv_byte l k c t st n b I hF hd hf0) ((byteP_fit st n k c hF).2 hf0) hr
        rw [bldA_app]
        exact this

/-- Each value's own bytes are a text, that is the same value. -/
theorem parse_spans (l : List UInt8) (h : (parseP l 50).2.1 = 1) : SpT l (treeP l 50) 0 l.length := by
  obtain ⟨⟨st, n, es⟩, hr, hF⟩ := go_runC l .out (newN 50) 0 (fit_start 50) (.inl h)
  have hF : Fit st n := hF
  have I0 : InvB l 0 0 .out [] (newN 50) ⟨[], none⟩ := by
    refine ⟨⟨fun h => absurd rfl h, fun h => (by cases h), rfl⟩, rfl, ⟨Nat.le_refl _, Nat.zero_le _⟩, rfl, fun h => (by cases h), fun x t s P h => ?_, fun p hp => (by cases hp), fun x t s u v P h => ?_, fun t ht => (by cases ht)⟩
    · cases x <;> cases h
    · cases x <;> cases h
  have I := inv_run l l 0 .out (newN 50) ⟨[], none⟩ st n es (List.drop_zero) I0 (fit_start 50) hr
  have g := runC_go l _ _ _ _ _ _ hr
  rw [Nat.zero_add] at g
  have hk : (endP st n l.length).2 = 1 := by
    have : (goP .out (newN 50) l 0).2.1 = 1 := h
    rw [g] at this
    exact this
  have ht : treeP l 50 = (bldA (bldA ⟨[], none⟩ es) (endP st n l.length).1).root.getD (.mk 0 0 0 [] [] []) := by
    unfold treeP treeE parseP
    rw [g, ← bldA_app]
  obtain ⟨hx, hF⟩ := hF
  cases st with
  | dead => exact hF.elim
  | word f p => cases hk
  | str q f acc => cases hk
  | out =>
    have hk : closeN n = 1 := hk
    obtain ⟨t, h1⟩ := I.nt (close_nothing n hk)
    have e : (bldA (bldA ⟨[], none⟩ es) (endP .out n l.length).1).root = some t := h1
    rw [ht, e]
    exact I.root t h1
  | num a f p =>
    have hF : n.begun ≠ 0 := hF
    by_cases hw : whI a = true
    · have ec : closeL (.num a f p) l.length = ([⟨9, false, f, l.length, p⟩], 1) := by show (if _ then _ else _) = _; rw [if_pos hw]
      have f0 : (takeN n ⟨9, false, f, l.length, p⟩).2.2 = 0 := (takeN_end n _ hx hF).1
      have I1 := inv_num l l.length a f p n _ I hF hw f0
      have ea : takeAll n [⟨9, false, f, l.length, p⟩] = ((takeN n ⟨9, false, f, l.length, p⟩).1, (takeN n ⟨9, false, f, l.length, p⟩).2.1, 0) := by
        show (if _ then _ else _) = _
        rw [if_neg (fun h => h f0)]
        show (_, _ ++ [], _) = _
        rw [List.append_nil]
        rfl
      have ee : endP (.num a f p) n l.length = ((takeN n ⟨9, false, f, l.length, p⟩).2.1, closeN (takeN n ⟨9, false, f, l.length, p⟩).1) := by
        unfold endP
        rw [ec]
        simp only [ea]
        rfl
      rw [ee] at hk
      obtain ⟨t, h1⟩ := I1.nt (close_nothing _ hk)
      rw [ht, ee]
      show SpT l ((bldA (bldA ⟨[], none⟩ es) (takeN n ⟨9, false, f, l.length, p⟩).2.1).root.getD _) 0 l.length
      rw [h1]
      exact I1.root t h1
    · have ec : closeL (.num a f p) l.length = ([], 10) := by show (if _ then _ else _) = _; rw [if_neg hw]
      unfold endP at hk
      rw [ec] at hk
      cases hk

end Go.Proofs.Ytaklbbkjhbkieaa

namespace Go.Proofs.Ytaklbbkjhbkieaa
set_option linter.unusedVariables false

mutual
/-- How many arrays and objects stand within each other. -/
def depT : Tree → Nat
  | .mk kd _ _ _ items _ => if kd = 4 ∨ kd = 5 then depL items + 1 else 0
def depL : List Tree → Nat
  | [] => 0
  | t :: ts => max (depT t) (depL ts)
end
/-- A sign. -/
def sgT (k : Int) (t : Tok) : Prop := t.kind = k ∧ t.begun = false
/-- The two tokens of a string, a number, a word. -/
def TokS (kd : Int) (tx : List UInt8) (ts : List Tok) : Prop := ∃ a b, ts = [a, b] ∧ a.begun = true ∧ b.text = tx ∧ a.kind ≠ 0 ∧ scalarK b = kd
mutual
def TokT : Tree → List Tok → Prop
  | .mk kd fr to tx items names, ts =>
    (kd = 4 ∧ tx = [] ∧ names = [] ∧ ∃ a m z, ts = a :: (m ++ [z]) ∧ sgT 2 a ∧ sgT 3 z ∧ TokA items m) ∨
    (kd = 5 ∧ tx = [] ∧ ∃ a m z, ts = a :: (m ++ [z]) ∧ sgT 4 a ∧ sgT 5 z ∧ TokO items names m) ∨
    (¬ (kd = 4 ∨ kd = 5) ∧ items = [] ∧ names = [] ∧ TokS kd tx ts)
/-- The items of an array. -/
def TokA : List Tree → List Tok → Prop
  | [], m => m = []
  | t :: r, m => ∃ a b, m = a ++ b ∧ TokT t a ∧ ((r = [] ∧ b = []) ∨ (r ≠ [] ∧ ∃ c b', b = c :: b' ∧ sgT 6 c ∧ TokA r b'))
/-- The members of an object. -/
def TokO : List Tree → List (List UInt8) → List Tok → Prop
  | [], names, m => names = [] ∧ m = []
  | t :: r, names, m => ∃ s ns x y z a b, names = s :: ns ∧ m = x :: y :: z :: (a ++ b) ∧ x.begun = true ∧ x.kind = 8 ∧ y.text = s ∧ sgT 7 z ∧ TokT t a ∧ ((r = [] ∧ ns = [] ∧ b = []) ∨ (r ≠ [] ∧ ∃ c b', b = c :: b' ∧ sgT 6 c ∧ TokO r ns b'))
end

/-- Tokens without a fault. -/
def RunT (n : Nst) (ts : List Tok) (n' : Nst) (es : List Evt) : Prop := takeAll n ts = (n', es, 0)
theorem RunT.cons {n m n' : Nst} {t : Tok} {ts : List Tok} {e es : List Evt} (h : takeN n t = (m, e, 0)) (g : RunT m ts n' es) : RunT n (t :: ts) n' (e ++ es) := by
  show (if (takeN n t).2.2 ≠ 0 then takeN n t else ((takeAll (takeN n t).1 ts).1, (takeN n t).2.1 ++ (takeAll (takeN n t).1 ts).2.1, (takeAll (takeN n t).1 ts).2.2)) = _
  have g : takeAll m ts = (n', es, 0) := g
  rw [h]
  simp only [g]
  rfl
theorem RunT.app {x : List Tok} : ∀ {n m n' : Nst} {y : List Tok} {e es : List Evt}, RunT n x m e → RunT m y n' es → RunT n (x ++ y) n' (e ++ es) := by
  induction x with
  | nil => intro n m n' y e es h g; cases h; exact g
  | cons t x ih =>
    intro n m n' y e es h g
    have h : takeAll n (t :: x) = (m, e, 0) := h
    have hf : (takeAll n (t :: x)).2.2 = 0 := by rw [h]
    obtain ⟨a1, a2, a3, a4⟩ := takeAll_ok hf
    rw [h] at a3 a4
    have r1 : RunT (takeN n t).1 x m (takeAll (takeN n t).1 x).2.1 := by
      show takeAll _ _ = _
      exact Prod.ext a3.symm (Prod.ext rfl a2)
    have := RunT.cons (n := n) (t := t) (e := (takeN n t).2.1) (Prod.ext rfl (Prod.ext rfl a1)) (ih r1 g)
    rw [← List.append_assoc] at this
    have a4 : e = (takeN n t).2.1 ++ (takeAll (takeN n t).1 x).2.1 := a4
    rw [← a4] at this
    exact this

/-- Behind a value. -/
def aftN (n : Nst) : Nst := ⟨n.most, moreO n.op, if n.op.isEmpty then .nothing else .next, 0, true⟩
/-- A whole value in what is open. -/
def addB (b : Bld) (s : Stp) (t : Tree) : Bld := match b.op with
  | [] => ⟨[], some t⟩
  | (p, ps) :: r => { b with op := (addT t s p, ps) :: r }

theorem take_begin (n : Nst) (a : Tok) (hb : n.begun = 0) (hv : n.may.val = true) (ha : a.begun = true) : takeN n a = (⟨n.most, n.op, n.may, a.kind, true⟩, [⟨1, beginK a.kind, a.fr, 0, stepO n.op, []⟩], 0) := by
  obtain ⟨most, op, may, begun, came⟩ := n
  obtain ⟨kd, bg, fr, to, tx⟩ := a
  have hb : begun = 0 := hb
  have ha : bg = true := ha
  subst hb ha
  unfold takeN
  rw [if_pos rfl]
  cases may <;> first
    | (cases hv; done)
    | (unfold takeO; simp [May.nam, May.val])
theorem take_open (n : Nst) (a : Tok) (o : Bool) (hb : n.begun = 0) (hv : n.may.val = true) (ha : sgT (if o then 4 else 2) a) (hd : n.op.length < n.most) :
    takeN n a = (⟨n.most, ⟨o, a.fr, stepO n.op, 0, []⟩ :: n.op, if o then .member else .item, 0, true⟩, [⟨1, if o then 5 else 4, a.fr, 0, stepO n.op, []⟩], 0) := by
  obtain ⟨most, op, may, begun, came⟩ := n
  obtain ⟨kd, bg, fr, to, tx⟩ := a
  obtain ⟨h1, h2⟩ := ha
  have hb : begun = 0 := hb
  have h2 : bg = false := h2
  have h1 : kd = if o then 4 else 2 := h1
  have hd : op.length < most := hd
  subst hb h2 h1
  unfold takeN
  rw [if_pos rfl]
  cases may <;> first
    | (cases hv; done)
    | (cases o <;> unfold takeO <;> simp [May.val, Nat.not_le.2 hd])
theorem take_close (n : Nst) (z : Tok) (o : Opn) (q : List Opn) (hb : n.begun = 0) (ho : n.op = o :: q) (hm : n.may = .next ∨ n.may = if o.obj then .member else .item) (hz : sgT (if o.obj then 5 else 3) z) :
    takeN n z = (aftN { n with op := q }, [⟨2, o.kd, o.fr, z.to, o.step, []⟩], 0) := by
  obtain ⟨most, op, may, begun, came⟩ := n
  obtain ⟨kd, bg, fr, to, tx⟩ := z
  obtain ⟨ob, ofr, ost, om, onm⟩ := o
  obtain ⟨h1, h2⟩ := hz
  have hb : begun = 0 := hb
  have h2 : bg = false := h2
  have h1 : kd = if ob then 5 else 3 := h1
  have ho : op = _ := ho
  have hm : may = .next ∨ may = if ob then .member else .item := hm
  subst hb h2 h1 ho
  unfold takeN
  rw [if_pos rfl]
  rcases hm with rfl | rfl <;> cases ob <;> unfold takeO <;> simp [May.val, aftN, endedN]
theorem take_comma (n : Nst) (c : Tok) (o : Opn) (q : List Opn) (hb : n.begun = 0) (ho : n.op = o :: q) (hm : n.may = .next) (hc : sgT 6 c) :
    takeN n c = (⟨n.most, n.op, if o.obj then .name else .value, 0, true⟩, [], 0) := by
  obtain ⟨most, op, may, begun, came⟩ := n
  obtain ⟨kd, bg, fr, to, tx⟩ := c
  obtain ⟨ob, ofr, ost, om, onm⟩ := o
  obtain ⟨h1, h2⟩ := hc
  have hb : begun = 0 := hb
  have h2 : bg = false := h2
  have h1 : kd = 6 := h1
  have ho : op = _ := ho
  have hm : may = .next := hm
  subst hb h2 h1 ho hm
  unfold takeN
  rw [if_pos rfl]
  cases ob <;> unfold takeO <;> simp [May.val]

end Go.Proofs.Ytaklbbkjhbkieaa

namespace Go.Proofs.Ytaklbbkjhbkieaa
set_option linter.unusedVariables false

/-- More items, and their names. -/
def addTs (r : List Tree) (ns : List (List UInt8)) : Tree → Tree
  | .mk kd fr to tx items names => .mk kd fr to tx (items ++ r) (names ++ ns)
theorem addTs_nil (P : Tree) : addTs [] [] P = P := by cases P; simp [addTs]
theorem addTs_one (t : Tree) (s : Stp) (r : List Tree) (ns : List (List UInt8)) (P : Tree) : addTs r ns (addT t s P) = addTs (t :: r) ((if s.named then [s.name] else []) ++ ns) P := by
  cases P
  simp only [addTs, addT]
  split <;> simp
theorem addB_open (P : Tree) (ps : Stp) (rest : List (Tree × Stp)) (rt : Option Tree) (s : Stp) (t : Tree) : addB ⟨(P, ps) :: rest, rt⟩ s t = ⟨(addT t s P, ps) :: rest, rt⟩ := rfl
theorem bld_whole (b : Bld) (v f t : Nat) (w : Int) (s s' : Stp) (tx : List UInt8) (items : List Tree) (names : List (List UInt8)) (e : Evt) (he : e.kind = 2) :
    bldE ⟨(.mk w f t [] items names, s) :: b.op, b.root⟩ e = addB b s (.mk e.value f e.to e.text items names) := by
  obtain ⟨op, rt⟩ := b
  unfold bldE
  rw [if_neg (by rw [he]; decide)]
  cases op with
  | nil => rfl
  | cons p r => obtain ⟨p, ps⟩ := p; rfl

theorem scal_tok (n : Nst) (ts : List Tok) (kd : Int) (tx : List UInt8) (h : TokS kd tx ts) (hb : n.begun = 0) (hv : n.may.val = true) : ∃ es f g, RunT n ts (aftN n) es ∧ ∀ b, bldA b es = addB b (stepO n.op) (.mk kd f g tx [] []) := by
  obtain ⟨a, b, rfl, h1, h2, h3, h4⟩ := h
  have r1 := take_begin n a hb hv h1
  have r2 := val_end ⟨n.most, n.op, n.may, a.kind, true⟩ b h3 hv
  refine ⟨_, a.fr, b.to, RunT.cons r1 (RunT.cons r2 rfl), fun bl => ?_⟩
  rw [← h2, ← h4]
  exact bld_whole bl 0 a.fr 0 (beginK a.kind) (stepO n.op) (stepO n.op) [] [] [] ⟨2, scalarK b, b.fr, b.to, stepO n.op, b.text⟩ rfl

theorem name_tok (n : Nst) (x y z : Tok) (hb : n.begun = 0) (hm : n.may.nam = true) (hx : x.begun = true) (hx8 : x.kind = 8) (hz : sgT 7 z) : RunT n [x, y, z] ⟨n.most, nameO y.text n.op, .value, 0, true⟩ [] := by
  obtain ⟨most, op, may, begun, came⟩ := n
  obtain ⟨kd, bg, fr, to, tx⟩ := x
  obtain ⟨kz, bz, fz, tz, xz⟩ := z
  obtain ⟨g1, g2⟩ := hz
  have hb : begun = 0 := hb
  have hx : bg = true := hx
  have hx8 : kd = 8 := hx8
  have g1 : kz = 7 := g1
  have g2 : bz = false := g2
  subst hb hx hx8 g1 g2
  have r1 : takeN ⟨most, op, may, 0, came⟩ ⟨8, true, fr, to, tx⟩ = (⟨most, op, may, 8, true⟩, [], 0) := by
    unfold takeN
    rw [if_pos rfl]
    cases may <;> first
      | (cases hm; done)
      | (unfold takeO; simp [May.nam])
  have r2 : takeN ⟨most, op, may, 8, true⟩ y = (⟨most, nameO y.text op, .colon, 0, true⟩, [], 0) := by
    unfold takeN
    rw [if_neg (show ¬ (8 : Int) = 0 by decide), if_pos hm]
  have r3 : takeN ⟨most, nameO y.text op, .colon, 0, true⟩ ⟨7, false, fz, tz, xz⟩ = (⟨most, nameO y.text op, .value, 0, true⟩, [], 0) := by
    unfold takeN
    rw [if_pos rfl]
    unfold takeO
    simp
  exact RunT.cons r1 (RunT.cons r2 (RunT.cons r3 rfl))

mutual
theorem val_tok : ∀ (t : Tree) (ts : List Tok) (n : Nst), TokT t ts → n.begun = 0 → n.may.val = true → n.op.length + depT t ≤ n.most → ∃ es t', RunT n ts (aftN n) es ∧ sameT t t' = true ∧ ∀ b, bldA b es = addB b (stepO n.op) t'
  | .mk kd fr to tx items names, ts, n, h, hb, hv, hd => by
    unfold TokT at h
    rcases h with ⟨rfl, rfl, rfl, a, m, z, rfl, ha, hz, hm⟩ | ⟨rfl, rfl, a, m, z, rfl, ha, hz, hm⟩ | ⟨hk, rfl, rfl, hs⟩
    · unfold depT at hd
      rw [if_pos (.inl rfl)] at hd
      have r1 := take_open n a false hb hv ha (by omega)
      obtain ⟨es, r', n', o', g1, g2, g3, g4, g5, g6, g7, g8⟩ := arr_tok items m ⟨n.most, ⟨false, a.fr, stepO n.op, 0, []⟩ :: n.op, .item, 0, true⟩ ⟨false, a.fr, stepO n.op, 0, []⟩ n.op hm rfl rfl rfl rfl (by show n.op.length + 1 + depL items ≤ n.most; omega)
      have r2 := take_close n' z o' n.op g3 g5 (by rw [g6]; exact g2.imp id (fun h => h.2)) (by rw [g6]; exact hz)
      have e : aftN { n' with op := n.op } = aftN n := by unfold aftN; rw [g4]
      rw [e] at r2
      refine ⟨_, .mk 4 a.fr z.to [] r' [], RunT.cons r1 (RunT.app g1 (RunT.cons r2 rfl)), ?_, fun b => ?_⟩
      · unfold sameT
        rw [g7]
        rfl
      · rw [bldA_app, bldA_app]
        have h1 : bldA b [(⟨1, if false = true then 5 else 4, a.fr, 0, stepO n.op, []⟩ : Evt)] = ⟨(.mk 4 a.fr 0 [] [] [], stepO n.op) :: b.op, b.root⟩ := rfl
        rw [h1, g8]
        have hk : o'.kd = 4 := by unfold Opn.kd; rw [g6]; rfl
        rw [hk]
        have := bld_whole b 0 a.fr 0 4 (stepO n.op) (stepO n.op) [] r' [] ⟨2, 4, o'.fr, z.to, o'.step, []⟩ rfl
        simp only [addTs, List.nil_append]
        exact this
    · unfold depT at hd
      rw [if_pos (.inr rfl)] at hd
      have r1 := take_open n a true hb hv ha (by omega)
      obtain ⟨es, r', n', o', g1, g2, g3, g4, g5, g6, g7, g8⟩ := obj_tok items names m ⟨n.most, ⟨true, a.fr, stepO n.op, 0, []⟩ :: n.op, .member, 0, true⟩ ⟨true, a.fr, stepO n.op, 0, []⟩ n.op hm rfl rfl rfl rfl (by show n.op.length + 1 + depL items ≤ n.most; omega)
      have r2 := take_close n' z o' n.op g3 g5 (by rw [g6]; exact g2.imp id (fun h => h.2)) (by rw [g6]; exact hz)
      have e : aftN { n' with op := n.op } = aftN n := by unfold aftN; rw [g4]
      rw [e] at r2
      refine ⟨_, .mk 5 a.fr z.to [] r' names, RunT.cons r1 (RunT.app g1 (RunT.cons r2 rfl)), ?_, fun b => ?_⟩
      · unfold sameT
        rw [g7]
        simp
      · rw [bldA_app, bldA_app]
        have h1 : bldA b [(⟨1, if true = true then 5 else 4, a.fr, 0, stepO n.op, []⟩ : Evt)] = ⟨(.mk 5 a.fr 0 [] [] [], stepO n.op) :: b.op, b.root⟩ := rfl
        rw [h1, g8]
        have hk : o'.kd = 5 := by unfold Opn.kd; rw [g6]; rfl
        rw [hk]
        have := bld_whole b 0 a.fr 0 5 (stepO n.op) (stepO n.op) [] r' names ⟨2, 5, o'.fr, z.to, o'.step, []⟩ rfl
        simp only [addTs, List.nil_append]
        exact this
    · obtain ⟨es, f, g, h1, h2⟩ := scal_tok n ts kd tx hs hb hv
      refine ⟨es, _, h1, ?_, h2⟩
      unfold sameT sameL
      simp
theorem arr_tok : ∀ (r : List Tree) (m : List Tok) (n : Nst) (o : Opn) (q : List Opn), TokA r m → n.begun = 0 → n.may.val = true → n.op = o :: q → o.obj = false → n.op.length + depL r ≤ n.most →
    ∃ es r' n' o', RunT n m n' es ∧ (n'.may = .next ∨ (r = [] ∧ n'.may = n.may)) ∧ n'.begun = 0 ∧ n'.most = n.most ∧ n'.op = o' :: q ∧ o'.obj = false ∧ sameL r r' = true ∧ ∀ P ps rest rt, bldA ⟨(P, ps) :: rest, rt⟩ es = ⟨(addTs r' [] P, ps) :: rest, rt⟩
  | [], m, n, o, q, h, hb, hv, ho, hoo, hd => by
    unfold TokA at h
    subst h
    exact ⟨[], [], n, o, rfl, .inr ⟨rfl, rfl⟩, hb, rfl, ho, hoo, by unfold sameL; rfl, fun P ps rest rt => by rw [addTs_nil]; rfl⟩
  | t :: r, m, n, o, q, h, hb, hv, ho, hoo, hd => by
    unfold TokA at h
    obtain ⟨a, b, rfl, ht, h⟩ := h
    unfold depL at hd
    obtain ⟨e1, t', v1, v2, v3⟩ := val_tok t a n ht hb hv (by omega)
    have hs : (stepO n.op).named = false := by rw [ho]; show (if o.obj = true then (⟨true, o.name, 0⟩ : Stp) else ⟨false, [], o.many⟩).named = false; rw [hoo]; rfl
    have hop : (aftN n).op = { o with many := o.many + 1 } :: q := by unfold aftN; rw [ho]; rfl
    have hmay : (aftN n).may = .next := by unfold aftN; rw [ho]; rfl
    rcases h with ⟨rfl, rfl⟩ | ⟨hr, c, b', rfl, hc, h⟩
    · refine ⟨e1, [t'], aftN n, _, by rw [List.append_nil]; exact v1, .inl hmay, rfl, rfl, hop, hoo, by unfold sameL; rw [v2]; unfold sameL; rfl, fun P ps rest rt => ?_⟩
      rw [v3, addB_open, ← addTs_nil (addT t' (stepO n.op) P), addTs_one, hs]
      rfl
    · have r1 := take_comma (aftN n) c { o with many := o.many + 1 } q rfl hop hmay hc
      have hq : (if ({ o with many := o.many + 1 } : Opn).obj then May.name else May.value) = May.value := by show (if o.obj then May.name else May.value) = _; rw [hoo]; rfl
      rw [hq] at r1
      obtain ⟨es, r', n', o', g1, g2, g3, g4, g5, g6, g7, g8⟩ := arr_tok r b' ⟨(aftN n).most, (aftN n).op, .value, 0, true⟩ { o with many := o.many + 1 } q h rfl rfl hop hoo (by show (moreO n.op).length + depL r ≤ n.most; rw [more_len]; omega)
      refine ⟨_, t' :: r', n', o', RunT.app v1 (RunT.cons r1 g1), .inl (g2.resolve_right fun h => hr h.1), g3, g4, g5, g6, by unfold sameL; rw [v2, g7]; rfl, fun P ps rest rt => ?_⟩
      rw [bldA_app, v3, addB_open, List.nil_append, g8, addTs_one, hs]
      rfl
theorem obj_tok : ∀ (r : List Tree) (names : List (List UInt8)) (m : List Tok) (n : Nst) (o : Opn) (q : List Opn), TokO r names m → n.begun = 0 → n.may.nam = true → n.op = o :: q → o.obj = true → n.op.length + depL r ≤ n.most →
    ∃ es r' n' o', RunT n m n' es ∧ (n'.may = .next ∨ (r = [] ∧ n'.may = n.may)) ∧ n'.begun = 0 ∧ n'.most = n.most ∧ n'.op = o' :: q ∧ o'.obj = true ∧ sameL r r' = true ∧ ∀ P ps rest rt, bldA ⟨(P, ps) :: rest, rt⟩ es = ⟨(addTs r' names P, ps) :: rest, rt⟩
  | [], names, m, n, o, q, h, hb, hv, ho, hoo, hd => by
    unfold TokO at h
    obtain ⟨rfl, rfl⟩ := h
    exact ⟨[], [], n, o, rfl, .inr ⟨rfl, rfl⟩, hb, rfl, ho, hoo, by unfold sameL; rfl, fun P ps rest rt => by rw [addTs_nil]; rfl⟩
  | t :: r, names, m, n, o, q, h, hb, hv, ho, hoo, hd => by
    unfold TokO at h
    obtain ⟨s, ns, x, y, z, a, b, rfl, rfl, hx, hx8, hy, hz, ht, h⟩ := h
    unfold depL at hd
    have r0 := name_tok n x y z hb hv hx hx8 hz
    have hop0 : nameO y.text n.op = { o with name := s } :: q := by rw [ho, hy]; rfl
    rw [hop0] at r0
    have hlen : ({ o with name := s } :: q : List Opn).length = n.op.length := by rw [ho]; rfl
    obtain ⟨e1, t', v1, v2, v3⟩ := val_tok t a ⟨n.most, { o with name := s } :: q, .value, 0, true⟩ ht rfl rfl (by show ({ o with name := s } :: q : List Opn).length + depT t ≤ n.most; rw [hlen]; omega)
    have hs : stepO ({ o with name := s } :: q) = ⟨true, s, 0⟩ := by show (if o.obj = true then (⟨true, s, 0⟩ : Stp) else _) = _; rw [hoo]; rfl
    have v3 : ∀ b, bldA b e1 = addB b ⟨true, s, 0⟩ t' := fun b => by rw [← hs]; exact v3 b
    have hop : (aftN ⟨n.most, { o with name := s } :: q, .value, 0, true⟩).op = { o with name := s, many := o.many + 1 } :: q := rfl
    have e0 : x :: y :: z :: (a ++ b) = [x, y, z] ++ (a ++ b) := rfl
    rw [e0]
    rcases h with ⟨rfl, rfl, rfl⟩ | ⟨hr, c, b', rfl, hc, h⟩
    · refine ⟨_, [t'], aftN ⟨n.most, { o with name := s } :: q, .value, 0, true⟩, _, RunT.app r0 (by rw [List.append_nil]; exact v1), .inl rfl, rfl, rfl, hop, hoo, by unfold sameL; rw [v2]; unfold sameL; rfl, fun P ps rest rt => ?_⟩
      rw [List.nil_append, v3, addB_open, ← addTs_nil (addT t' _ P), addTs_one]
      rfl
    · have r1 := take_comma (aftN ⟨n.most, { o with name := s } :: q, .value, 0, true⟩) c { o with name := s, many := o.many + 1 } q rfl hop rfl hc
      have hq : (if ({ o with name := s, many := o.many + 1 } : Opn).obj then May.name else May.value) = May.name := by show (if o.obj then May.name else May.value) = _; rw [hoo]; rfl
      rw [hq] at r1
      obtain ⟨es, r', n', o', g1, g2, g3, g4, g5, g6, g7, g8⟩ := obj_tok r ns b' ⟨n.most, { o with name := s, many := o.many + 1 } :: q, .name, 0, true⟩ { o with name := s, many := o.many + 1 } q h rfl rfl rfl hoo (by rw [ho] at hd; show q.length + 1 + depL r ≤ n.most; have : (o :: q).length = q.length + 1 := rfl; omega)
      refine ⟨_, t' :: r', n', o', RunT.app r0 (RunT.app v1 (RunT.cons r1 g1)), .inl (g2.resolve_right fun h => hr h.1), g3, g4, g5, g6, by unfold sameL; rw [v2, g7]; rfl, fun P ps rest rt => ?_⟩
      rw [List.nil_append, bldA_app, v3, addB_open, List.nil_append, g8, addTs_one]
      rfl
end

end Go.Proofs.Ytaklbbkjhbkieaa

namespace Go.Proofs.Ytaklbbkjhbkieaa
set_option linter.unusedVariables false

/-- The tokens of bytes without a fault, and where one is then. -/
def runL : LSt → List UInt8 → Nat → Option (LSt × List Tok)
  | st, [], k => some (st, [])
  | st, c :: t, k => if (stepL st k c).2.1 ≠ 0 then none else (runL (stepL st k c).2.2 t (k + 1)).map fun r => (r.1, (stepL st k c).1 ++ r.2)
theorem runL_cons {st st1 st' : LSt} {c : UInt8} {t : List UInt8} {k : Nat} {a b : List Tok} (h : stepL st k c = (a, 0, st1)) (g : runL st1 t (k + 1) = some (st', b)) : runL st (c :: t) k = some (st', a ++ b) := by
  show (if (stepL st k c).2.1 ≠ 0 then none else (runL (stepL st k c).2.2 t (k + 1)).map fun r => (r.1, (stepL st k c).1 ++ r.2)) = _
  rw [h]
  simp only [g]
  rfl
theorem runL_uncons {st st' : LSt} {c : UInt8} {t : List UInt8} {k : Nat} {ts : List Tok} (h : runL st (c :: t) k = some (st', ts)) : (stepL st k c).2.1 = 0 ∧ ∃ b, runL (stepL st k c).2.2 t (k + 1) = some (st', b) ∧ ts = (stepL st k c).1 ++ b := by
  by_cases hf : (stepL st k c).2.1 ≠ 0
  · have : runL st (c :: t) k = none := by show (if _ then _ else _) = _; rw [if_pos hf]
    rw [this] at h; cases h
  · have e : runL st (c :: t) k = (runL (stepL st k c).2.2 t (k + 1)).map fun r => (r.1, (stepL st k c).1 ++ r.2) := by show (if _ then _ else _) = _; rw [if_neg hf]
    rw [e] at h
    cases hr : runL (stepL st k c).2.2 t (k + 1) with
    | none => rw [hr] at h; cases h
    | some r =>
      obtain ⟨a, b⟩ := r
      rw [hr] at h
      cases h
      exact ⟨Decidable.not_not.1 hf, b, rfl, rfl⟩
theorem runL_app (x : List UInt8) : ∀ {y : List UInt8} {st st1 st' : LSt} {k : Nat} {a b : List Tok}, runL st x k = some (st1, a) → runL st1 y (k + x.length) = some (st', b) → runL st (x ++ y) k = some (st', a ++ b) := by
  induction x with
  | nil => intro y st st1 st' k a b h g; cases h; exact g
  | cons c t ih =>
    intro y st st1 st' k a b h g
    obtain ⟨h1, a', h2, rfl⟩ := runL_uncons h
    have hl : k + 1 + t.length = k + (c :: t).length := by rw [List.length_cons]; omega
    have := ih h2 (by rw [hl]; exact g)
    rw [List.cons_append, List.append_assoc]
    exact runL_cons (Prod.ext rfl (Prod.ext h1 rfl)) this
theorem takeAll_app (x : List Tok) : ∀ (n : Nst) (y : List Tok), (takeAll n (x ++ y)).2.2 = 0 → (takeAll n x).2.2 = 0 ∧ (takeAll (takeAll n x).1 y).2.2 = 0 ∧ (takeAll n (x ++ y)).1 = (takeAll (takeAll n x).1 y).1 ∧ (takeAll n (x ++ y)).2.1 = (takeAll n x).2.1 ++ (takeAll (takeAll n x).1 y).2.1 := by
  induction x with
  | nil => intro n y h; exact ⟨rfl, h, rfl, rfl⟩
  | cons t x ih =>
    intro n y h
    obtain ⟨a1, a2, a3, a4⟩ := takeAll_ok h
    obtain ⟨b1, b2, b3, b4⟩ := ih _ _ a2
    have e : takeAll n (t :: x) = ((takeAll (takeN n t).1 x).1, (takeN n t).2.1 ++ (takeAll (takeN n t).1 x).2.1, (takeAll (takeN n t).1 x).2.2) := by show (if _ then _ else _) = _; rw [if_neg (fun h => h a1)]
    rw [e]
    exact ⟨b1, b2, a3.trans b3, a4.trans (by show _ = (_ ++ _) ++ _; rw [List.append_assoc]; exact congrArg _ b4)⟩
/-- Tokens of bytes, and what they do. -/
theorem runL_runC (l : List UInt8) : ∀ (st : LSt) (n : Nst) (k : Nat) (st' : LSt) (ts : List Tok), runL st l k = some (st', ts) → (takeAll n ts).2.2 = 0 → runC st n l k = some (st', (takeAll n ts).1, (takeAll n ts).2.1) := by
  induction l with
  | nil => intro st n k st' ts h _; cases h; rfl
  | cons c t ih =>
    intro st n k st' ts h hf
    obtain ⟨h1, b, h2, rfl⟩ := runL_uncons h
    obtain ⟨a1, a2, a3, a4⟩ := takeAll_app _ _ _ hf
    have hb := byte_ok' st n k c a1 h1
    have e1 : runC st n (c :: t) k = (runC (byteP st n k c).2.2.1 (byteP st n k c).2.2.2 t (k + 1)).map fun r => (r.1, r.2.1, (byteP st n k c).1 ++ r.2.2) := by show (if _ then _ else _) = _; rw [if_neg (fun h => h hb)]
    have := ih (stepL st k c).2.2 (takeAll n (stepL st k c).1).1 (k + 1) st' b h2 a2
    rw [e1]
    show (runC (stepL st k c).2.2 (takeAll n (stepL st k c).1).1 t (k + 1)).map _ = _
    rw [this, a3, a4]
    rfl

/-- A string's text. -/
def strT (l : List UInt8) : List UInt8 := 34 :: (putL l ++ [34])
mutual
/-- A value's text. -/
def showT : Tree → List UInt8
  | .mk kd _ _ tx items names => if kd = 3 then strT tx else if kd = 4 then 91 :: (showA items ++ [93]) else if kd = 5 then 123 :: (showO items names ++ [125]) else tx
def showA : List Tree → List UInt8
  | [] => []
  | t :: r => showT t ++ (if r.isEmpty then [] else 44 :: showA r)
def showO : List Tree → List (List UInt8) → List UInt8
  | [], _ => []
  | t :: r, names => strT (names.headD []) ++ 58 :: (showT t ++ (if r.isEmpty then [] else 44 :: showO r names.tail))
end
/-- A new line, and so many blanks. -/
def newL (d : Nat) : List UInt8 := 10 :: List.replicate d 32
mutual
/-- A value's text, line by line, so deep. -/
def lineT (d : Nat) : Tree → List UInt8
  | .mk kd fr to tx items names => if items.isEmpty then showT (.mk kd fr to tx items names) else if kd = 4 then 91 :: (lineA d items ++ (newL (2 * d) ++ [93])) else 123 :: (lineO d items names ++ (newL (2 * d) ++ [125]))
def lineA (d : Nat) : List Tree → List UInt8
  | [] => []
  | t :: r => newL (2 * d + 2) ++ (lineT (d + 1) t ++ (if r.isEmpty then [] else 44 :: lineA d r))
def lineO (d : Nat) : List Tree → List (List UInt8) → List UInt8
  | [], _ => []
  | t :: r, names => newL (2 * d + 2) ++ (strT (names.headD []) ++ 58 :: 32 :: (lineT (d + 1) t ++ (if r.isEmpty then [] else 44 :: lineO d r names.tail)))
end

end Go.Proofs.Ytaklbbkjhbkieaa
