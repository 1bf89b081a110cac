/- Package lex: Close, New, At. -/
import Derived.Test.YtoahnbjpmbhpfaaDoorLexP
import Derived.Defers
import Derived.StillTailTactics
namespace Go.Proofs.YtoahnbjpmbhpfaaDoor
open Go.RowKit
set_option linter.unusedVariables false

set_option maxHeartbeats 1000000 in
set_option maxRecDepth 100000 in
theorem end_deferred (b : Nat) (k : Nat) (u : FrameMode) (w : World) (h : LexAny w b k) :
    CallsD Tryd.prog 11 #[.pointer (some ⟨b, 0, none⟩)] u w fun e u' w' => u' = u ∧ (e = .returned (.tuple #[]) ∧ Own w' b 49 (LZ k true).toArray ∧ Turned b w w') := by
  obtain ⟨cs, h, hl, h0⟩ := h
  have c0 := h.at 0
  have f0 := h.free 0
  simp [h0] at c0
  obtain ⟨hst, ho, ht⟩ := own_row h (LZ k true) (by simp [LZ_len, hl]) (LZ_one _ _)
  have HO := Lib.hid ho
  have HT := Lib.hid ht
  have hz0 := fun w => zero_lex w
  have hz2 := LZ_put k true
  have hz1 : (LZ 0 false).toArray.size = 80 := by simp [LZ_len]
  generalize (LZ 0 false).toArray = z at *
  have hz3 : ¬ z = #[] := fun e => by rw [e] at hz1; simp at hz1
  have hz4 : ¬ z.size < 2 := by omega
  clear h ho ht
  go_enter_d Tryd.func11, Tryd.ntmps11
  go_wp2
  go_end0
  exact ⟨rfl, HO.out, HT.out⟩

/-- How Close ends. -/
def CloseEnd (w : World) (b : Nat) (F : Nat → Prop) (k : Nat) (r : List Tok × Int) (e : Ending) (w' : World) : Prop :=
  ∃ v, e = .returned (.tuple #[v, .int .i64 r.2]) ∧ TRow w' w.heap.size v r.1 ∧ Touch F w w' ∧ LexIs w' b (fun j => F j ∨ w.heap.size ≤ j) k .dead

section
variable (w : World) (b k f : Nat) (F : Nat → Prop)
set_option maxHeartbeats 1000000 in
set_option maxRecDepth 100000 in
theorem close_out (hF : F b) (h : LexCs w b k 0 0) (c1 : w.cell? ⟨b, 1, none⟩ = some (.bool false)) :
    Calls Tryd.prog 9 #[.pointer (some ⟨b, 0, none⟩)] w (CloseEnd w b F k ([], 1)) := by
  have c2 := h.c2
  have HA := Lib.hid h.any
  clear h
  go_enter_defers Tryd.func9, Tryd.ntmps9
  go_wp2
  refine leaves_cons (f := 11) (args := #[.pointer (some ⟨b, 0, none⟩)]) (by simp) (by simp [go_sem]) ?_
  refine (end_deferred b k .returning _ HA.out).mono ?_
  rintro e u' w' ⟨rfl, rfl, ho, ht⟩
  exact ⟨_, results_tmp2 rfl _ _ _, _, rfl, TRow.nil _ _, Touch.of_turned ht hF, .inl hF, ho⟩
set_option maxHeartbeats 1000000 in
set_option maxRecDepth 100000 in
theorem close_cut (hF : F b) (wi fr : Int) (hw : wi = 8 ∨ wi = 10) (h : LexCs w b k wi fr) (c1 : w.cell? ⟨b, 1, none⟩ = some (.bool false)) :
    Calls Tryd.prog 9 #[.pointer (some ⟨b, 0, none⟩)] w (CloseEnd w b F k ([], 10)) := by
  have c2 := h.c2
  have HA := Lib.hid h.any
  clear h
  rcases hw with rfl | rfl
  all_goals
    go_enter_defers Tryd.func9, Tryd.ntmps9
    go_wp2
    refine leaves_cons (f := 11) (args := #[.pointer (some ⟨b, 0, none⟩)]) (by simp) (by simp [go_sem]) ?_
    refine (end_deferred b k .returning _ HA.out).mono ?_
    rintro e u' w' ⟨rfl, rfl, ho, ht⟩
    exact ⟨_, results_tmp2 rfl _ _ _, _, rfl, TRow.nil _ _, Touch.of_turned ht hF, .inl hF, ho⟩
set_option maxHeartbeats 1000000 in
set_option maxRecDepth 100000 in
theorem close_half (hF : F b) (fr a : Int) (ha : StA a) (hw : whI a = false) (h : LexCs w b k 9 fr) (c76 : w.cell? ⟨b, 76, none⟩ = some (.int .i64 a)) (c1 : w.cell? ⟨b, 1, none⟩ = some (.bool false)) :
    Calls Tryd.prog 9 #[.pointer (some ⟨b, 0, none⟩)] w (CloseEnd w b F k ([], 10)) := by
  have c2 := h.c2
  have HA := Lib.hid h.any
  have HW := fwhole b a w c76 ha
  rw [hw] at HW
  replace HW := Lib.hid HW
  clear h c76
  go_enter_defers Tryd.func9, Tryd.ntmps9
  go_wp2_with (go_at_call 12; refine HW.out.mono ?_; rintro e w' ⟨rfl, rfl⟩)
  refine leaves_cons (f := 11) (args := #[.pointer (some ⟨b, 0, none⟩)]) (by simp) (by simp [go_sem]) ?_
  refine (end_deferred b k .returning _ HA.out).mono ?_
  rintro e u' w' ⟨rfl, rfl, ho, ht⟩
  exact ⟨_, results_tmp2 rfl _ _ _, _, rfl, TRow.nil _ _, Touch.of_turned ht hF, .inl hF, ho⟩
set_option maxHeartbeats 2000000 in
set_option maxRecDepth 100000 in
theorem close_num (a : Int) (p : List UInt8) (h : LexIs w b F k (.num a f p)) (hw : whI a = true) (hkb : k ≤ 1000000000) :
    Calls Tryd.prog 9 #[.pointer (some ⟨b, 0, none⟩)] w (CloseEnd w b F k ([⟨9, false, f, k, p⟩], 1)) := by
  have c1 := h.notOver (by simp)
  obtain ⟨hF, hst, g, cc, ho, hr, hg, hne⟩ := h
  have c76 := ho.at 76
  rw [(LZ_get ..).1] at c76
  have HW := fwhole b a w c76 hst
  rw [hw] at HW
  replace HW := Lib.hid HW
  have hr1 : w.drew.ownsRow 0 5 1 (.slice (some ⟨g, 0, none⟩) p.length cc) p.length (byteCells p) := hr
  have hcv := Buf.conv (w := w.drew) ⟨g, cc, rfl, hr1⟩
  have hcs := lx_cs (w := w.drew) zq_len ho
  have c0 := (lx_cs (w := w) zq_len ho).c0
  have c2 := (lx_cs (w := w) zq_len ho).c2
  have d0 := hcs.c0
  have d77 := ho.at 77
  rw [(LZ_get ..).2.1] at d77
  have e77 : w.drew.cell? ⟨b, 77, none⟩ = some (.slice (some ⟨g, 0, none⟩) p.length cc) := d77
  have hin : b < w.heap.size := hcs.inside
  have HCA := Lib.hid hcs
  clear ho hr hr1 hcs c76
  go_enter_defers Tryd.func9, Tryd.ntmps9
  go_wp2_with (go_at_call 12; refine HW.out.mono ?_; rintro e w' ⟨rfl, rfl⟩)
  go_still_tail 10, (by kernel_rfl)
  change wpList _ _ _ _ _ w.drew
  go_wp2_with (go_at_call 13; refine (leave_cs _ _ _ _ _ _ _ HCA.out).mono ?_; rintro e w3 ⟨rfl, h3, t3⟩; have H3 := Lib.hid h3; have T3 := Lib.hid t3; clear h3 t3)
  have hb3 : Below w3.heap.size w3 (w3.alloc (.cells #[.int .i64 9, .bool false, .int .i64 f, .int .i64 k, .string ⟨p.toArray⟩] 30)) := below1 w3 _
  have t1 : Touch F w w3 := Touch.undrew (Touch.of_turned T3.out hF)
  have ho3 := H3.out.stay hb3 H3.out.inside
  refine leaves_cons (f := 11) (args := #[.pointer (some ⟨b, 0, none⟩)]) (by simp) (by simp [go_sem]) ?_
  refine (end_deferred b k .returning _ ⟨_, ho3, LZ_len _ _, rfl⟩).mono ?_
  rintro e u' w' ⟨rfl, rfl, ho, ht⟩
  refine ⟨_, results_tmp2 rfl _ _ _, _, rfl, ?_, (t1.trans (Touch.of_new (F := F) hb3) (fun _ _ h => h)).trans (Touch.of_turned ht hF) (fun _ _ h => h), .inl hF, ho⟩
  exact (TRow.one w3 ⟨9, false, f, k, p⟩ t1.size).stay (fun j hj => by
    obtain rfl := ownBlock_is hj
    exact ht.2.2.2.2 _ (by simp) (by have := t1.size; omega))
end

/-- Close, wherever the lexer is. -/
theorem close_any (w : World) (b k : Nat) (F : Nat → Prop) (st : LSt) (h : LexIs w b F k st) (hd : st ≠ .dead) (hkb : k ≤ 1000000000) :
    Calls Tryd.prog 9 #[.pointer (some ⟨b, 0, none⟩)] w (CloseEnd w b F k (closeL st k)) := by
  have c1 := h.notOver hd
  have hF := h.has
  cases st with
  | dead => exact absurd rfl hd
  | out => exact close_out w b k F hF ⟨_, h.2, LZ_len _ _, rfl, rfl, rfl⟩ c1
  | num a f p =>
    show Calls _ _ _ _ (CloseEnd w b F k (if whI a then ([⟨9, false, f, k, p⟩], 1) else ([], 10)))
    cases hw : whI a
    · rw [if_neg (by decide)]
      obtain ⟨_, hst, g, c, ho, _⟩ := h
      exact close_half w b k F hF f a hst hw (lx_cs zq_len ho) (by rw [ho.at]; exact (LZ_get ..).1) c1
    · rw [if_pos rfl]
      exact close_num w b k f F a p h hw hkb
  | word f p =>
    obtain ⟨_, t, j, _, _, _, _, ho⟩ := h
    exact close_cut w b k F hF 10 f (.inr rfl) (lx_cs zq_len ho) c1
  | str q f acc => exact close_cut w b k F hF 8 f (.inl rfl) (isQ_cs h.2.2) c1

set_option maxHeartbeats 1000000 in
theorem at_any (w : World) (b : Nat) (k : Int) (c0 : w.cell? ⟨b, 0, none⟩ = some (.int .i64 k)) :
    Calls Tryd.prog 7 #[.pointer (some ⟨b, 0, none⟩)] w fun e w' => e = .returned (.int .i64 k) ∧ w = w' := by
  go_enter Tryd.func7, Tryd.ntmps7
  go_wp2
  go_ret
  exact ⟨rfl, rfl⟩

set_option maxHeartbeats 1000000 in
set_option maxRecDepth 100000 in
theorem new_any (w : World) :
    Calls Tryd.prog 6 #[] w fun e w' => e = .returned (.pointer (some ⟨w.heap.size, 0, none⟩)) ∧ w' = w.alloc (.cells (LZ 0 false).toArray 49) := by
  have hz0 := fun w => zero_lex w
  have hz1 : (LZ 0 false).toArray.size = 80 := by simp [LZ_len]
  generalize (LZ 0 false).toArray = z at *
  have hz3 : ¬ z = #[] := fun e => by rw [e] at hz1; simp at hz1
  go_enter Tryd.func6, Tryd.ntmps6
  go_wp2
  go_ret
  exact ⟨rfl, rfl⟩

end Go.Proofs.YtoahnbjpmbhpfaaDoor
