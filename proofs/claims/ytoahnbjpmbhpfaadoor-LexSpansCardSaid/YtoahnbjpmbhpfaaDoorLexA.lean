/- Package lex: All. -/
import Derived.Test.YtoahnbjpmbhpfaaDoorLexC
import Derived.WalkMore
import Derived.ScopeJumps
namespace Go.Proofs.YtoahnbjpmbhpfaaDoor
open Go.RowKit
set_option linter.unusedVariables false

/-- A scope that jumps back to one label: what is behind the label is walked once. -/
theorem wp_scope_once {P : Program} {a : Act} {w : World} {Q : Exit → Act → World → Prop} {c rest : Code} (l : Nat) (J : Act → World → Prop) (μ : Act → World → Nat) (hf : findLabel c l = some (Code.skip.seq rest))
    (pass : ∀ a w, J a w → rest.wp P (Exit.jump l (fun a' w' => J a' w' ∧ μ a' w' < μ a w) Q) a w)
    (first : (∀ a w, J a w → rest.wp P (Exit.jump l J Q) a w) → c.wp P (Exit.jump l J Q) a w) : (Code.scope c).wp P Q a w :=
  wp_scope_jumps l J μ hf (first fun a w h => wp_mono (pass a w h) (fun e a w hq => by
    cases e <;> first | exact hq | exact ⟨hq.1, hq.2.1⟩)) (fun a w h => wp_seq (wp_skip (pass a w h)))

theorem results_tmp_cell {P : Program} {fn : Func} {t p : Tmp} {ty : TypeId} (h : fn.results = #[.tmp t, .cell p ty]) (tmps : Array Value) (w : World) (g : Nat) (T : TypeId) (cs : Array Value) (fr : Nat × Nat) (d : TypeDesc)
    (hp : tmps.getD p undef = .pointer (some ⟨g, 0, none⟩)) (hg : w.heap[g]? = some (.cells cs T fr))
    (hu : P.underlying ty = some d) (hd : (match d with | .struct _ | .array _ _ => true | _ => false) = true) (hi : (P.info? ty).map (·.size) = some cs.size) :
    (results fn tmps).run P w = .ok (.tuple #[tmps.getD t undef, .agg cs]) w := by
  have hp' : tmps[p]?.getD undef = .pointer (some ⟨g, 0, none⟩) := by simpa using hp
  simp [results, h, hp', asAddr, run_loadVar_row w g T ty cs fr d hg hu hd hi, Result.andThen]

theorem verdict_size : (Tryd.prog.info? 26).map (·.size) = some 2 := by kernel_rfl

theorem outL_short (k : Nat) (c : UInt8) : Short (k + 1) (outL k c).2.2 := by
  unfold outL
  (repeat' split) <;> simp [Short, pendQ]
theorem stepL_short (st : LSt) (k : Nat) (c : UInt8) (h : Short k st) : Short (k + 1) (stepL st k c).2.2 := by
  cases st with
  | dead => exact trivial
  | out => exact outL_short k c
  | num a f p =>
    have h : p.length ≤ k := h
    show Short (k + 1) (if nxI a c.toNat ≠ 0 then (([], 0, LSt.num (nxI a c.toNat) f (p ++ [c])) : List Tok × Int × LSt) else if whI a && !stickI c.toNat then (⟨9, false, f, k, p⟩ :: (outL k c).1, (outL k c).2.1, (outL k c).2.2) else ([], 5, .dead)).2.2
    split
    · show (p ++ [c]).length ≤ k + 1
      simp; omega
    split
    · exact outL_short k c
    · exact trivial
  | word f p =>
    show Short (k + 1) (if refL (p ++ [c]) = 2 then (([], 6, .dead) : List Tok × Int × LSt) else if refL (p ++ [c]) = 1 then ([⟨10, false, f, k + 1, p ++ [c]⟩], 0, .out) else ([], 0, .word f (p ++ [c]))).2.2
    (repeat' split) <;> exact trivial
  | str q f acc =>
    have h : acc.length + pendQ q ≤ 4 * k := h
    show Short (k + 1) (strL q f acc k c (stepQ q c)).2.2
    cases hs : stepQ q c with
    | none => exact trivial
    | some p =>
      obtain ⟨q', x⟩ := p
      have hl := stepQ_len hs
      have key : (acc ++ x).length + pendQ q' ≤ 4 * (k + 1) := by simp; omega
      cases q' <;> first | exact trivial | exact key
theorem stepL_two (st : LSt) (k : Nat) (c : UInt8) : (stepL st k c).1.length ≤ 2 := by
  have ho := outL_len k c
  cases st with
  | dead => show ([] : List Tok).length ≤ 2; simp
  | out => exact Nat.le_trans ho (by decide)
  | num a f p =>
    show (if nxI a c.toNat ≠ 0 then (([], 0, LSt.num (nxI a c.toNat) f (p ++ [c])) : List Tok × Int × LSt) else if whI a && !stickI c.toNat then (⟨9, false, f, k, p⟩ :: (outL k c).1, (outL k c).2.1, (outL k c).2.2) else ([], 5, .dead)).1.length ≤ 2
    split
    · simp
    split
    · simp; omega
    · simp
  | word f p =>
    show (if refL (p ++ [c]) = 2 then (([], 6, .dead) : List Tok × Int × LSt) else if refL (p ++ [c]) = 1 then ([⟨10, false, f, k + 1, p ++ [c]⟩], 0, .out) else ([], 0, .word f (p ++ [c]))).1.length ≤ 2
    (repeat' split) <;> simp
  | str q f acc =>
    show (strL q f acc k c (stepQ q c)).1.length ≤ 2
    cases hs : stepQ q c with
    | none => simp [strL]
    | some p =>
      obtain ⟨q', x⟩ := p
      cases q' <;> simp [strL]
theorem closeL_one (st : LSt) (k : Nat) : (closeL st k).1.length ≤ 2 ∧ (closeL st k).2 ≠ 0 := by
  cases st with
  | dead => exact ⟨by simp [closeL], by simp [closeL]⟩
  | out => exact ⟨by simp [closeL], by simp [closeL]⟩
  | num a f p =>
    show (if whI a then (([⟨9, false, f, k, p⟩], 1) : List Tok × Int) else ([], 10)).1.length ≤ 2 ∧ (if whI a then (([⟨9, false, f, k, p⟩], 1) : List Tok × Int) else ([], 10)).2 ≠ 0
    split <;> exact ⟨by simp, by simp⟩
  | word f p => exact ⟨by simp [closeL], by simp [closeL]⟩
  | str q f acc => exact ⟨by simp [closeL], by simp [closeL]⟩

/-- What holds at the label. -/
def AtLabel (l : List UInt8) (len : Nat) (W w' : World) (k : Nat) (st : LSt) (acc : List Tok) (vA : Value) (F : Nat → Prop) : Prop :=
  (k ≤ len ∧ acc.length ≤ 2 * k ∧ st ≠ .dead ∧ Short k st) ∧ LexIs w' (W.heap.size + 1) F k st ∧ (∀ j, F j → W.heap.size < j ∧ j < w'.heap.size) ∧ TRow w' (W.heap.size + 2) vA acc ∧ (∀ g, vA.ownBlock = some g → ¬ F g) ∧
    Own w' W.heap.size 26 #[.int .i64 0, .int .i64 0] ∧ Below W.heap.size W w' ∧ lexR l = lexGo st (l.drop k) k acc
def JAll (A : Option Addr) (len cap : Nat) (l : List UInt8) (W : World) (a' : Act) (w' : World) : Prop :=
  ∃ (k : Nat) (st : LSt) (acc : List Tok) (vA : Value) (F : Nat → Prop) (u5 u6 u8 u9 u10 u11 u12 u13 u14 u15 u16 u17 u18 u19 u20 u21 u22 u23 u24 u25 u26 u27 u28 u29 u30 u31 u32 u33 u34 u35 u36 u37 u38 : Value), a' = { tmps := #[.slice A len cap, undef, .slice none 0 0, .pointer (some ⟨W.heap.size, 0, none⟩), vA, u5, u6, .pointer (some ⟨W.heap.size + 1, 0, none⟩), u8, u9, u10, u11, u12, u13, u14, u15, u16, u17, u18, u19, u20, u21, u22, u23, u24, u25, u26, u27, u28, u29, u30, u31, u32, u33, u34, u35, u36, u37, u38], defers := [] } ∧ AtLabel l len W w' k st acc vA F

/-- Behind a step's or the end's tokens, appended. -/
theorem label_on {W w' w1 w3 : World} {F : Nat → Prop} {k1 : Nat} {st1 : LSt} {vA vA' : Value} {acc : List Tok} (hF : ∀ j, F j → W.heap.size < j ∧ j < w'.heap.size) (h2 : Touch F w' w1) (h3 : LexIs w1 (W.heap.size + 1) (fun j => F j ∨ w'.heap.size ≤ j) k1 st1)
    (hr : TRow w' (W.heap.size + 2) vA acc) (hV : ∀ g, vA.ownBlock = some g → ¬ F g) (hver : Own w' W.heap.size 26 #[.int .i64 0, .int .i64 0]) (hbel : Below W.heap.size W w') (hg3 : w1.grownBy w3 vA.ownBlock) (hor : vA'.ownBlock = vA.ownBlock ∨ vA'.ownBlock = some w1.heap.size) :
    ∃ F' : Nat → Prop, LexIs w3 (W.heap.size + 1) F' k1 st1 ∧ (∀ j, F' j → W.heap.size < j ∧ j < w3.heap.size) ∧ (∀ g, vA'.ownBlock = some g → ¬ F' g) ∧ Own w3 W.heap.size 26 #[.int .i64 0, .int .i64 0] ∧ Below W.heap.size W w3 ∧ W.heap.size ≤ w3.heap.size := by
  have hs := hbel.size
  have hs1 := h2.size
  have hs3 := hg3.size
  have hlow : ∀ g, vA.ownBlock = some g → W.heap.size + 2 ≤ g ∧ g < w'.heap.size := fun g hg => hr.low hg
  have ht : Touch (fun j => vA.ownBlock = some j) w1 w3 := (Touch.refl _ w1).grown hg3 (fun j e => .inl e)
  refine ⟨fun j => (F j ∨ w'.heap.size ≤ j) ∧ j < w1.heap.size, ?_, ?_, ?_, ?_, ?_, by omega⟩
  · refine (h3.mono (fun j hj h => ⟨h, hj⟩)).stay ht (fun j hj h hg => ?_)
    rcases h.1 with h | h
    · exact hV j hg h
    · have := (hlow j hg).2; omega
  · intro j h
    refine ⟨?_, by omega⟩
    rcases h.1 with h | h
    · exact (hF j h).1
    · have : W.heap.size + 1 < w'.heap.size + 1 ∨ True := .inr trivial
      by_cases hw : W.heap.size < w'.heap.size
      · omega
      · have := hver.inside; omega
  · intro g hg h
    rcases hor with e | e
    · rw [e] at hg
      rcases h.1 with h | h
      · exact hV g hg h
      · have := (hlow g hg).2; omega
    · rw [e] at hg
      injection hg with hg
      have := h.2
      omega
  · exact ht.own (h2.own hver (fun h => by have := (hF _ h).1; omega)) (fun h => by have := (hlow _ h).1; omega)
  · exact (hbel.trans (h2.below (fun j _ h => by have := (hF j h).1; omega) hs)).trans (ht.below (fun j _ h => by have := (hlow j h).1; omega) (by omega))

set_option maxHeartbeats 4000000 in
set_option maxRecDepth 100000 in
theorem all_any : AllC Tab := by
  intro A len cap l W hx hlen hT
  have h0 := hT
  go_enter Tryd.func5, Tryd.ntmps5
  go_wp2
  refine wp_scope_once 0 (JAll A len cap l W) (fun _ w' => len - (intOf ((w'.cell? ⟨W.heap.size + 1, 0, none⟩).getD undef)).toNat) rfl ?pass ?first
  case first =>
    intro hp
    have HP := Lib.hid hp
    have HN := Lib.hid (new_any (W.alloc (.cells #[.int .i64 0, .int .i64 0] 26)))
    clear hp
    go_wp2_with (go_at_call 6; refine HN.out.mono ?_; rintro e w1 ⟨rfl, rfl⟩)
    go_step3
    rename_i hK
    refine hK _ _ ?_
    have hb1 := below1 W (.cells #[.int .i64 0, .int .i64 0] 26)
    have e1 : (W.alloc (.cells #[.int .i64 0, .int .i64 0] 26)).heap.size = W.heap.size + 1 := by simp
    have hb2 : Below W.heap.size W ((W.alloc (.cells #[.int .i64 0, .int .i64 0] 26)).alloc (.cells (LZ 0 false).toArray 49)) := hb1.alloc hb1.size _
    have hlx := Own.fresh (W.alloc (.cells #[.int .i64 0, .int .i64 0] 26)) 49 (LZ 0 false).toArray
    rw [e1] at hlx
    refine HP.out _ _ ?_
    unfold JAll AtLabel
    exact ⟨0, .out, [], .slice none 0 0, fun j => j = W.heap.size + 1, _, _, _, _, _, _, _, _, _, _, _, _, _, _, _, _, _, _, _, _, _, _, _, _, _, _, _, _, _, _, _, _, _, rfl, ⟨Nat.zero_le _, Nat.le_refl _, by simp, trivial⟩, ⟨rfl, hlx⟩, fun j hj => by simp; omega, TRow.nil _ _, (fun g hg => by cases hg), (Own.fresh W _ _).over _, hb2, rfl⟩
  case pass =>
    rintro a w' ⟨k, st, acc, vA, F, u5, u6, u8, u9, u10, u11, u12, u13, u14, u15, u16, u17, u18, u19, u20, u21, u22, u23, u24, u25, u26, u27, u28, u29, u30, u31, u32, u33, u34, u35, u36, u37, u38, rfl, ⟨hk, hacc, hnd, hsh⟩, hlx, hF, hrow, hvA, hver, hbel, hrun⟩
    have hin := hlx.inside
    have hll : l.length = len := by have := hx.1; rwa [byteCells_length] at this
    have hTw := hT.stay hbel (h0.elim fun t h => h.inside)
    have hF0 : ¬ F 0 := fun h => by have := (hF 0 h).1; omega
    have hFb : ∀ j, F j → j < w'.heap.size := fun j h => (hF j h).2
    obtain ⟨cs, hocs, _, h0cs⟩ := hlx.any
    have c0 := hocs.at 0
    simp [h0cs] at c0
    clear hocs
    have hmu : (intOf ((w'.cell? ⟨W.heap.size + 1, 0, none⟩).getD undef)).toNat = k := by rw [c0]; simp [intOf]
    rw [hmu]
    clear hmu
    have hxr := hx.stay hbel
    obtain ⟨A1, c1, rfl, _⟩ := hrow.form
    have hsz := hbel.size
    have HX := Lib.hid hrow
    have HV := Lib.hid hvA
    have HVR := Lib.hid hver
    have HB := Lib.hid hbel
    have HF := Lib.hid hF
    by_cases hlt : k < len
    · have hkl : k < l.length := by omega
      rw [List.drop_eq_getElem_cons hkl] at hrun
      have hS := step_lex w' (W.heap.size + 1) k F st l[k] hlx hnd hTw hF0 hFb hsh (by omega)
      have htwo := stepL_two st k l[k]
      have hshort := stepL_short st k l[k] hsh
      have hal := stepL_alive st k l[k] hnd
      rw [show lexGo st (l[k] :: l.drop (k + 1)) k acc = if (stepL st k l[k]).2.1 ≠ 0 then (acc ++ (stepL st k l[k]).1, (stepL st k l[k]).2.1, k) else lexGo (stepL st k l[k]).2.2 (l.drop (k + 1)) (k + 1) (acc ++ (stepL st k l[k]).1) from rfl] at hrun
      obtain ⟨ad, rfl, had, hbytes⟩ := hxr.2 (by omega)
      have hcell := hbytes k (.int .u8 l[k].toNat) (by unfold byteCells; rw [List.getElem?_map, List.getElem?_eq_getElem hkl]; rfl)
      generalize l[k] = c at *
      generalize stepL st k c = r at *
      obtain ⟨ts, n, st'⟩ := r
      have htwo : ts.length ≤ 2 := htwo
      have hshort : Short (k + 1) st' := hshort
      have hal : n = 0 → st' ≠ .dead := hal
      have hrun : lexR l = if n ≠ 0 then (acc ++ ts, n, k) else lexGo st' (l.drop (k + 1)) (k + 1) (acc ++ ts) := hrun
      have HS := Lib.hid hS
      have HSH := Lib.hid hshort
      have HAL := Lib.hid hal
      have HR := Lib.hid hrun
      have hltI : (k : Int) < len := by omega
      have hkI : (0 : Int) ≤ k := by omega
      clear hS hshort hal hrun hxr hbytes hlx hTw hsh hnd hrow hvA hver hbel hF
      by_cases hn : n = 0
      · subst hn
        replace HR := Lib.hid (show lexR l = lexGo st' (l.drop (k + 1)) (k + 1) (acc ++ ts) from HR.out)
        go_wp2_with (first
          | (go_at_call 7; refine (at_any _ _ _ c0).mono ?_; rintro e w1 ⟨rfl, rfl⟩)
          | (go_at_call 8; refine HS.out.mono ?_; rintro e w1 ⟨v, rfl, h1, h2, h3⟩
             obtain ⟨A2, c2, rfl, _⟩ := h1.form
             have hrd := h1.rd
             have hrow1 := HX.out.stay (fun g hg => h2.block g (HX.out.low hg).2 (HV.out g hg))
             have H2 := Lib.hid h2; have H3 := Lib.hid h3
             have hz1 := h2.size
             clear h1 h2 h3 c0)
          | (at_builtin
             refine tok_append _ rfl (.tmp 29) (.tmp 30) rfl (W.heap.size + 2) (.slice A1 acc.length c1) acc rfl hrow1 A2 ts.length c2 ts rfl hrd (by omega) (by omega) ?_
             intro vA' w3 hr3 hg3 hor3
             have HR3 := Lib.hid hr3; have HG3 := Lib.hid hg3; have HO3 := Lib.hid hor3
             clear hr3 hg3 hor3 hrd hrow1))
        go_step3
        obtain ⟨F', g1, g2, g3, g4, g5, g6⟩ := label_on HF.out H2.out H3.out HX.out HV.out HVR.out HB.out HG3.out HO3.out
        have hl' : (acc ++ ts).length ≤ 2 * (k + 1) := by simp; omega
        have hm : (intOf ((w3.cell? ⟨W.heap.size + 1, 0, none⟩).getD undef)).toNat = k + 1 := by
          obtain ⟨cs, ho, _, h0⟩ := g1.any
          rw [ho.at]
          simp [h0, intOf]
        refine ⟨rfl, ?_, ?_⟩
        · unfold JAll AtLabel
          exact ⟨k + 1, st', acc ++ ts, vA', F', _, _, _, _, _, _, _, _, _, _, _, _, _, _, _, _, _, _, _, _, _, _, _, _, _, _, _, _, _, _, _, _, _, rfl, ⟨hlt, hl', HAL.out trivial, HSH.out⟩, g1, g2, HR3.out, g3, g4, g5, HR.out⟩
        · show len - (intOf ((w3.cell? ⟨W.heap.size + 1, 0, none⟩).getD undef)).toNat < len - k
          rw [hm]
          omega
      · have gn : (n == 0) = false := beq_eq_false_iff_ne.2 hn
        have HR := Lib.hid (show lexR l = (acc ++ ts, n, k) by have := HR.out; rwa [if_pos hn] at this)
        go_wp2_with (first
          | (go_at_call 7; refine (at_any _ _ _ c0).mono ?_; rintro e w1 ⟨rfl, rfl⟩)
          | (go_at_call 7; refine (at_any _ _ _ e0).mono ?_; rintro e w1 ⟨rfl, rfl⟩)
          | (go_at_call 8; refine HS.out.mono ?_; rintro e w1 ⟨v, rfl, h1, h2, h3⟩
             obtain ⟨A2, c2, rfl, _⟩ := h1.form
             have hrd := h1.rd
             have hrow1 := HX.out.stay (fun g hg => h2.block g (HX.out.low hg).2 (HV.out g hg))
             have H2 := Lib.hid h2; have H3 := Lib.hid h3
             have hz1 := h2.size
             clear h1 h2 h3 c0)
          | (at_builtin
             refine tok_append _ rfl (.tmp 29) (.tmp 30) rfl (W.heap.size + 2) (.slice A1 acc.length c1) acc rfl hrow1 A2 ts.length c2 ts rfl hrd (by omega) (by omega) ?_
             intro vA' w3 hr3 hg3 hor3
             obtain ⟨F', g1, g2, g3, g4, g5, g6⟩ := label_on HF.out H2.out H3.out HX.out HV.out HVR.out HB.out hg3 hor3
             obtain ⟨cs3, ho3, _, h03⟩ := g1.any
             have e0 := ho3.at 0
             simp [h03, hn] at e0
             have v0 := g4.at 0
             have v1 := g4.at 1
             have f0 := g4.free 0
             have f1 := g4.free 1
             simp at v0 v1
             have HR3 := Lib.hid hr3; have H4 := Lib.hid g4; have H5 := Lib.hid g5
             clear hr3 hg3 hor3 hrd hrow1 g1 g2 g3 g4 g5 ho3 h03))
        have HO5 := (H4.out.put 0 (.int .i64 n)).put 1 (.int .i64 k)
        have htu : Turned W.heap.size w3 ((w3.setCell ⟨W.heap.size, 0, none⟩ (.int .i64 n)).setCell ⟨W.heap.size, 1, none⟩ (.int .i64 k)) := ((Turned.refl _ w3).put 0 _).put 1 _
        have hT5 := ((HR3.out.set (b := W.heap.size) (i := 0) (u := .int .i64 n) (by omega)).set (b := W.heap.size) (i := 1) (u := .int .i64 k) (by omega)).toks (by simp; omega)
        simp only [Exit.jump]
        refine bodyPost_ret (results_tmp_cell rfl _ _ W.heap.size _ _ (0, 0) _ rfl HO5 Tryd.underlying26 rfl verdict_size) rfl ?_
        rw [HR.out]
        exact ⟨_, rfl, hT5, H5.out.trans (htu.below (Nat.le_refl _) g6)⟩
    · obtain rfl : k = len := by omega
      have hC := close_any w' (W.heap.size + 1) k F st hlx hnd (by omega)
      obtain ⟨htwo, hne⟩ := closeL_one st k
      rw [List.drop_of_length_le (by omega)] at hrun
      rw [show lexGo st [] k acc = (acc ++ (closeL st k).1, (closeL st k).2, k) from rfl] at hrun
      generalize closeL st k = r at *
      obtain ⟨ts, n⟩ := r
      have htwo : ts.length ≤ 2 := htwo
      have hn : n ≠ 0 := hne
      have HR := Lib.hid (show lexR l = (acc ++ ts, n, k) from hrun)
      have HS := Lib.hid hC
      have hltI : ¬ (k : Int) < k := by omega
      have gn : (n == 0) = false := beq_eq_false_iff_ne.2 hn
      clear hC hrun hxr hlx hTw hsh hnd hrow hvA hver hbel hF hne
      go_wp2_with (first
        | (go_at_call 7; refine (at_any _ _ _ c0).mono ?_; rintro e w1 ⟨rfl, rfl⟩)
        | (go_at_call 7; refine (at_any _ _ _ e0).mono ?_; rintro e w1 ⟨rfl, rfl⟩)
        | (go_at_call 9; refine HS.out.mono ?_; rintro e w1 ⟨v, rfl, h1, h2, h3⟩
           obtain ⟨A2, c2, rfl, _⟩ := h1.form
           have hrd := h1.rd
           have hrow1 := HX.out.stay (fun g hg => h2.block g (HX.out.low hg).2 (HV.out g hg))
           have H2 := Lib.hid h2; have H3 := Lib.hid h3
           have hz1 := h2.size
           clear h1 h2 h3 c0)
        | (at_builtin
           refine tok_append _ rfl (.tmp 29) (.tmp 30) rfl (W.heap.size + 2) (.slice A1 acc.length c1) acc rfl hrow1 A2 ts.length c2 ts rfl hrd (by omega) (by omega) ?_
           intro vA' w3 hr3 hg3 hor3
           obtain ⟨F', g1, g2, g3, g4, g5, g6⟩ := label_on HF.out H2.out H3.out HX.out HV.out HVR.out HB.out hg3 hor3
           obtain ⟨cs3, ho3, _, h03⟩ := g1.any
           have e0 := ho3.at 0
           simp [h03] at e0
           have v0 := g4.at 0
           have v1 := g4.at 1
           have f0 := g4.free 0
           have f1 := g4.free 1
           simp at v0 v1
           have HR3 := Lib.hid hr3; have H4 := Lib.hid g4; have H5 := Lib.hid g5
           clear hr3 hg3 hor3 hrd hrow1 g1 g2 g3 g4 g5 ho3 h03))
      have HO5 := (H4.out.put 0 (.int .i64 n)).put 1 (.int .i64 k)
      have htu : Turned W.heap.size w3 ((w3.setCell ⟨W.heap.size, 0, none⟩ (.int .i64 n)).setCell ⟨W.heap.size, 1, none⟩ (.int .i64 k)) := ((Turned.refl _ w3).put 0 _).put 1 _
      have hT5 := ((HR3.out.set (b := W.heap.size) (i := 0) (u := .int .i64 n) (by omega)).set (b := W.heap.size) (i := 1) (u := .int .i64 k) (by omega)).toks (by simp; omega)
      simp only [Exit.jump]
      refine bodyPost_ret (results_tmp_cell rfl _ _ W.heap.size _ _ (0, 0) _ rfl HO5 Tryd.underlying26 rfl verdict_size) rfl ?_
      rw [HR.out]
      exact ⟨_, rfl, hT5, H5.out.trans (htu.below (Nat.le_refl _) g6)⟩

end Go.Proofs.YtoahnbjpmbhpfaaDoor
