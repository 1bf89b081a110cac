/- Package lex: a byte within a string, within a word. -/
import Derived.Test.YthpkcapooeedeaaDoorJ06
namespace Go.Proofs.YthpkcapooeedeaaDoor
open Go.RowKit
set_option linter.unusedVariables false

/-- A lexer of which the fields that leave reads are known. -/
def LexCs (w : World) (b : Nat) (k wi f : Int) : Prop := ∃ cs : List Value, Own w b 79 cs.toArray ∧ cs.length = 80 ∧ cs[0]? = some (.int .i64 k) ∧ cs[2]? = some (.int .i64 wi) ∧ cs[3]? = some (.int .i64 f)

section
variable {w w' : World} {b : Nat} {F : Nat → Prop}
theorem LexCs.stay {k wi f : Int} (h : LexCs w b k wi f) (hb : w'.heap[b]? = w.heap[b]?) : LexCs w' b k wi f := by
  obtain ⟨cs, h, r⟩ := h
  exact ⟨cs, hb.trans h, r⟩
theorem LexCs.inside {k wi f : Int} (h : LexCs w b k wi f) : b < w.heap.size := by
  obtain ⟨cs, h, _⟩ := h
  exact h.inside
theorem LexCs.c0 {k wi f : Int} (h : LexCs w b k wi f) : w.cell? ⟨b, 0, none⟩ = some (.int .i64 k) := by
  obtain ⟨cs, h, h1, h2, _⟩ := h
  rw [h.at]
  simpa using h2
theorem LexCs.any {k : Nat} {wi f : Int} (h : LexCs w b k wi f) : LexAny w b k := by
  obtain ⟨cs, h, h1, h2, _⟩ := h
  exact ⟨cs, h, h1, h2⟩
theorem isQ_cs {k f : Int} {N : Nat} {q : QSt} {acc : List UInt8} (h : K4.IsQ (rsOf k f F N) w b q acc) : LexCs w b k 8 f := by
  obtain ⟨hw, a, sg, lf, num, cnt, fst, ⟨last, signs, loose, ps, hq, _⟩, _⟩ := h
  exact ⟨_, hq.2.2, by simp [rsOf, K4.QL, hq.1], rfl, rfl, rfl⟩
theorem lx_cs {k wi f : Int} {q : List Value} {na : Int} {dg : Value} {wt : ByteArray} {wa : Int} (hq : q.length = 72) (h : Own w b 79 (LX k false wi f q na dg wt wa).toArray) : LexCs w b k wi f :=
  ⟨_, h, LX_len hq, rfl, rfl, rfl⟩
end
theorem leave_cs (b : Nat) (k wi f to : Int) (s : ByteArray) (w : World) (h : LexCs w b k wi f) :
    Calls Tryd.prog 28 #[.pointer (some ⟨b, 0, none⟩), .int .i64 to, .string s] w fun e w' => e = .returned (.agg #[.int .i64 wi, .bool false, .int .i64 f, .int .i64 to, .string s]) ∧ Own w' b 79 (LZ k false).toArray ∧ Turned b w w' := by
  obtain ⟨cs, ho, hl, h0, h2, h3⟩ := h
  exact leave_any b k wi f to s cs w ho hl h0 h2 h3

section
variable (w : World) (b k f : Nat) (F : Nat → Prop) (q : QSt) (acc : List UInt8) (c : UInt8)
set_option maxHeartbeats 1000000 in
set_option maxRecDepth 100000 in
theorem str_no (h : LexIs w b F k (.str q f acc)) (hs : stepQ q c = none) :
    Calls Tryd.prog 39 #[.pointer (some ⟨b, 0, none⟩), .int .u8 c.toNat] w (TakeEnd w b F k ([], faultQ q c, .dead)) := by
  obtain ⟨hF, hq, hi⟩ := h
  have hstep := K4.step_any w b q acc c hi
  unfold K4.StepPost at hstep
  rw [hs] at hstep
  have hstep : Calls Tryd.prog 57 #[.pointer (some ⟨b, 4, none⟩), .int .u8 c.toNat] w fun e w' => e = .returned (.int .i64 (faultQ q c)) ∧ K4.IsQ (rsOf k f F w.heap.size) w' b q acc ∧ Turned b w w' := hstep
  have hf := faultQ_ne q c
  generalize faultQ q c = j at *
  have g1 : (j == 1) = false := beq_eq_false_iff_ne.2 hf.1
  have HS := Lib.hid hstep
  clear hstep hs hi
  go_enter Tryd.func39, Tryd.ntmps39
  go_wp2_with (go_at_call 57; refine HS.out.mono ?_; rintro e w1 ⟨rfl, h1, t1⟩)
  go_ret2
  exact ⟨_, rfl, TRow.nil _ _, Touch.of_turned t1 hF, fun e => absurd e hf.2, fun _ => (isQ_cs h1).any⟩
set_option maxHeartbeats 1000000 in
set_option maxRecDepth 100000 in
theorem str_on (h : LexIs w b F k (.str q f acc)) (q' : QSt) (x : List UInt8) (hs : stepQ q c = some (q', x)) (hd : q' ≠ .done) :
    Calls Tryd.prog 39 #[.pointer (some ⟨b, 0, none⟩), .int .u8 c.toNat] w (TakeEnd w b F k ([], 0, .str q' f (acc ++ x))) := by
  obtain ⟨hF, hq, hi⟩ := h
  have hstep := K4.step_any w b q acc c hi
  unfold K4.StepPost at hstep
  rw [hs] at hstep
  have hstep : Calls Tryd.prog 57 #[.pointer (some ⟨b, 4, none⟩), .int .u8 c.toNat] w fun e w' => e = .returned (.int .i64 (K4.doneK q')) ∧ K4.IsQ (rsOf k f F w.heap.size) w' b q' (acc ++ x) ∧ Turned b w w' := hstep
  rw [K4.doneK_no hd] at hstep
  have HS := Lib.hid hstep
  clear hstep hs hi
  go_enter Tryd.func39, Tryd.ntmps39
  go_wp2_with (go_at_call 57; refine HS.out.mono ?_; rintro e w1 ⟨rfl, h1, t1⟩)
  go_ret2
  refine ⟨_, rfl, TRow.nil _ _, Touch.of_turned t1 hF, fun _ => ⟨.inl hF, hd, ?_⟩, fun e => absurd rfl e⟩
  exact isQ_move h1 rfl (Nat.le_refl _) (fun j hj _ hF => ⟨.inl hF, rfl⟩)
set_option maxHeartbeats 1000000 in
set_option maxRecDepth 100000 in
theorem str_done (h : LexIs w b F k (.str q f acc)) (x : List UInt8) (hs : stepQ q c = some (.done, x)) (hl : acc.length + pendQ q ≤ 4 * k) (hkb : k ≤ 1000000000) :
    Calls Tryd.prog 39 #[.pointer (some ⟨b, 0, none⟩), .int .u8 c.toNat] w (TakeEnd w b F k ([⟨8, false, f, k + 1, acc ++ x⟩], 0, .out)) := by
  obtain ⟨hF, hq, hi⟩ := h
  have hlen := stepQ_len hs
  have hstep := K4.step_any w b q acc c hi
  unfold K4.StepPost at hstep
  rw [hs] at hstep
  have HS := Lib.hid (show Calls Tryd.prog 57 #[.pointer (some ⟨b, 4, none⟩), .int .u8 c.toNat] w fun e w' => e = .returned (.int .i64 1) ∧ K4.IsQ (rsOf k f F w.heap.size) w' b .done (acc ++ x) ∧ Turned b w w' from hstep)
  have hal : (acc ++ x).length ≤ 1000000000000 := by simp; omega
  have HA := Lib.hid hal
  clear hstep hs hi hlen hl
  generalize acc ++ x = y at *
  go_enter Tryd.func39, Tryd.ntmps39
  go_wp2_with (go_at_call 57; refine HS.out.mono ?_; rintro e w1 ⟨rfl, h1, t1⟩; have c0 := (isQ_cs h1).c0; have H1 := Lib.hid h1; have T1 := Lib.hid t1; clear h1 t1)
  have hd1 := isQ_move (w' := w1.drew) (G := F) (N' := w.heap.size) H1.out rfl T1.out.2.2.2.1 (fun j hj _ hF => ⟨hF, rfl⟩)
  have KT := Lib.hid (K4.textQ w1.drew b .done y hd1 HA.out)
  have hcs := Lib.hid (isQ_cs hd1)
  clear hd1
  have k1 : IntKind.i64.wrap ((k : Int) + 1) = k + 1 := IntWalk.i64_in _ (by omega)
  go_region_with (first
    | (go_at_call 58; refine KT.out.mono ?_; rintro e w2 ⟨rfl, hb2⟩; have hcs2 := hcs.out.stay (hb2.block b hcs.out.inside); have d0 := hcs2.c0; have HB := Lib.hid hb2; clear hb2)
    | (go_at_call 28; refine (leave_cs _ _ _ _ _ _ _ hcs2).mono ?_; rintro e w3 ⟨rfl, h3, t3⟩; have H3 := Lib.hid h3; have T3 := Lib.hid t3; clear h3 t3))
  all_goals
    clear k1
    go_wp2
    go_ret2
    have hb3 : Below w3.heap.size w3 (w3.alloc (.cells #[.int .i64 8, .bool false, .int .i64 f, .int .i64 (k + 1), .string ⟨y.toArray⟩] 48)) := below1 w3 _
    have ht : Touch F w w3 := (((Touch.of_turned T1.out hF).drewN 1).trans (Touch.of_new (F := F) HB.out) (fun _ _ h => h)).trans (Touch.of_turned T3.out hF) (fun _ _ h => h)
    refine ⟨_, rfl, ?_, ht.trans (Touch.of_new (F := F) hb3) (fun _ _ h => h), fun _ => ⟨.inl hF, H3.out.stay hb3 H3.out.inside⟩, fun e => absurd rfl e⟩
    exact TRow.one w3 ⟨8, false, f, k + 1, y⟩ ht.size
end


/-- A byte within a string. -/
theorem inString_any (w : World) (b k f : Nat) (F : Nat → Prop) (q : QSt) (acc : List UInt8) (c : UInt8) (h : LexIs w b F k (.str q f acc)) (hl : acc.length + pendQ q ≤ 4 * k) (hkb : k ≤ 1000000000) :
    Calls Tryd.prog 39 #[.pointer (some ⟨b, 0, none⟩), .int .u8 c.toNat] w (TakeEnd w b F k (strL q f acc k c (stepQ q c))) := by
  cases hs : stepQ q c with
  | none => exact str_no w b k f F q acc c h hs
  | some p =>
    obtain ⟨q', x⟩ := p
    by_cases hd : q' = .done
    · subst hd
      exact str_done w b k f F q acc c h x hs hl hkb
    · have e : strL q f acc k c (some (q', x)) = ([], 0, .str q' f (acc ++ x)) := by cases q' <;> first | rfl | exact absurd rfl hd
      rw [e]
      exact str_on w b k f F q acc c h q' x hs hd

theorem LX_set (k : Int) (f : Int) (t : ByteArray) (j j' : Int) : ((LX k false 10 f zq 0 (.slice none 0 0) t j).toArray.setIfInBounds 78 (.string t)).setIfInBounds 79 (.int .i64 j') = (LX k false 10 f zq 0 (.slice none 0 0) t j').toArray := by simp [LX, zq_len]

section
variable (w : World) (b k f : Nat) (F : Nat → Prop) (c : UInt8) (t : ByteArray) (j : Nat)
set_option maxHeartbeats 1000000 in
set_option maxRecDepth 100000 in
theorem word_no (h1 : 1 ≤ j) (hj : j < t.size) (ho : Own w b 79 (LX k false 10 f zq 0 (.slice none 0 0) t j).toArray) (hc : t[j] ≠ c) :
    Calls Tryd.prog 41 #[.pointer (some ⟨b, 0, none⟩), .int .u8 c.toNat] w (TakeEnd w b F k ([], 6, .dead)) := by
  have c78 := ho.at 78
  have c79 := ho.at 79
  rw [(LZ_get ..).2.2.1] at c78
  rw [(LZ_get ..).2.2.2] at c79
  have HS := Lib.hid (fstep_no b j t c.toNat w c78 c79 h1 hj (fun e => hc (UInt8.toNat_inj.1 (by omega))))
  have HC := Lib.hid (lx_cs zq_len ho).any
  clear h1 hc ho c78 c79
  go_enter Tryd.func41, Tryd.ntmps41
  go_wp2_with (go_at_call 60; refine HS.out.mono ?_; rintro e w1 ⟨rfl, rfl⟩)
  go_ret2
  exact ⟨_, rfl, TRow.nil _ _, Touch.refl _ _, (fun e => by cases e), fun _ => HC.out⟩
set_option maxHeartbeats 1000000 in
set_option maxRecDepth 100000 in
theorem word_on (hF : F b) (ht : t = wT ∨ t = wF ∨ t = wN) (h1 : 1 ≤ j) (hj : j < t.size) (ho : Own w b 79 (LX k false 10 f zq 0 (.slice none 0 0) t j).toArray) (hc : t[j] = c) (hd : j + 1 < t.size) :
    Calls Tryd.prog 41 #[.pointer (some ⟨b, 0, none⟩), .int .u8 c.toNat] w (TakeEnd w b F k ([], 0, .word f (t.data.toList.take j ++ [c]))) := by
  have c78 := ho.at 78
  have c79 := ho.at 79
  rw [(LZ_get ..).2.2.1] at c78
  rw [(LZ_get ..).2.2.2] at c79
  have hcI : (t[j].toNat : Int) = c.toNat := by rw [hc]
  have HS := Lib.hid (fstep_goes b j t c.toNat w c78 c79 (ho.free 78) (ho.free 79) (word_sizes ht).2 h1 hd hcI)
  have HO := Lib.hid ho
  have hp := Lib.hid (show t.data.toList.take j ++ [c] = t.data.toList.take (j + 1) by
    have hl : j < t.data.toList.length := hj
    rw [List.take_succ_eq_append_getElem hl, ← hc]; rfl)
  clear ho hc hcI c78 c79
  go_enter Tryd.func41, Tryd.ntmps41
  go_wp2_with (go_at_call 60; refine HS.out.mono ?_; rintro e w1 ⟨rfl, rfl⟩)
  go_ret2
  have h := (HO.out.put 78 (.string t)).put 79 (.int .i64 ((j : Int) + 1))
  rw [LX_set] at h
  exact ⟨_, rfl, TRow.nil _ _, Touch.of_turned (((Turned.refl b w).put 78 _).put 79 _) hF, fun _ => ⟨.inl hF, t, j + 1, ht, by omega, hd, hp.out, h⟩, fun e => absurd rfl e⟩
set_option maxHeartbeats 1000000 in
set_option maxRecDepth 100000 in
theorem word_done (hF : F b) (ht : t = wT ∨ t = wF ∨ t = wN) (h1 : 1 ≤ j) (hj : j < t.size) (ho : Own w b 79 (LX k false 10 f zq 0 (.slice none 0 0) t j).toArray) (hc : t[j] = c) (hd : j + 1 = t.size) (hkb : k ≤ 1000000000) :
    Calls Tryd.prog 41 #[.pointer (some ⟨b, 0, none⟩), .int .u8 c.toNat] w (TakeEnd w b F k ([⟨10, false, f, k + 1, t.data.toList.take j ++ [c]⟩], 0, .out)) := by
  have c78 := ho.at 78
  have c79 := ho.at 79
  rw [(LZ_get ..).2.2.1] at c78
  rw [(LZ_get ..).2.2.2] at c79
  have hcI : (t[j].toNat : Int) = c.toNat := by rw [hc]
  have hS := fstep_done b j t c.toNat w c78 c79 (ho.free 78) (ho.free 79) (word_sizes ht).2 h1 hj (by omega) hcI
  have hO : Own ((w.setCell ⟨b, 78, none⟩ (.string t)).setCell ⟨b, 79, none⟩ (.int .i64 ((j : Int) + 1))) b 79 (LX k false 10 f zq 0 (.slice none 0 0) t (((j + 1 : Nat) : Int))).toArray := by
    have h := (ho.put 78 (.string t)).put 79 (.int .i64 ((j : Int) + 1))
    rwa [LX_set] at h
  have hT : Turned b w ((w.setCell ⟨b, 78, none⟩ (.string t)).setCell ⟨b, 79, none⟩ (.int .i64 ((j : Int) + 1))) := ((Turned.refl b w).put 78 _).put 79 _
  replace hS := Lib.hid (hS.mono fun e w' h => ⟨h.1, by rw [h.2]; exact hO, by rw [h.2]; exact hT⟩ : Calls Tryd.prog 60 #[.pointer (some ⟨b, 78, none⟩), .int .u8 c.toNat] w fun e w' => e = .returned (.int .i64 1) ∧ Own w' b 79 (LX k false 10 f zq 0 (.slice none 0 0) t (((j + 1 : Nat) : Int))).toArray ∧ Turned b w w')
  have hp : t.extract 0 (j + 1) = ⟨(t.data.toList.take j ++ [c]).toArray⟩ := ba_ext (by
    rw [head_list, List.take_succ_eq_append_getElem (show j < t.data.toList.length from hj), ← hc]; rfl)
  have hd' : j + 1 ≤ t.size := by omega
  generalize t.data.toList.take j ++ [c] = y at *
  have HP := Lib.hid hp
  clear ho hc hcI c78 c79 hO hT hp h1 hd ht
  go_enter Tryd.func41, Tryd.ntmps41
  go_wp2_with (go_at_call 60; refine hS.out.mono ?_; rintro e w1 ⟨rfl, h1, t1⟩; have c0 := (lx_cs zq_len h1).c0; have H1 := Lib.hid h1; have T1 := Lib.hid t1; clear h1 t1)
  have e78 := H1.out.at 78
  have e79 := H1.out.at 79
  rw [(LZ_get ..).2.2.1] at e78
  rw [(LZ_get ..).2.2.2] at e79
  have KT := fword b (j + 1) t w1.drew e78 e79 hd'
  rw [HP.out] at KT
  replace KT := Lib.hid (KT.mono fun e w' h => ⟨h.1, by obtain ⟨q, rfl⟩ := h.2; exact below_drewN (Below.refl _ _) q⟩ : Calls Tryd.prog 61 #[.pointer (some ⟨b, 78, none⟩)] w1.drew fun e w' => e = .returned (.string ⟨y.toArray⟩) ∧ Below w1.drew.heap.size w1.drew w')
  have hcs := Lib.hid (lx_cs (w := w1.drew) zq_len H1.out)
  clear e78 e79
  have k1 : IntKind.i64.wrap ((k : Int) + 1) = k + 1 := IntWalk.i64_in _ (by omega)
  go_region_with (first
    | (go_at_call 61; refine KT.out.mono ?_; rintro e w2 ⟨rfl, hb2⟩; have hcs2 := hcs.out.stay (hb2.block b hcs.out.inside); have d0 := hcs2.c0; have HB := Lib.hid hb2; clear hb2)
    | (go_at_call 28; refine (leave_cs _ _ _ _ _ _ _ hcs2).mono ?_; rintro e w3 ⟨rfl, h3, t3⟩; have H3 := Lib.hid h3; have T3 := Lib.hid t3; clear h3 t3))
  all_goals
    clear k1
    go_wp2
    go_ret2
    have hb3 : Below w3.heap.size w3 (w3.alloc (.cells #[.int .i64 10, .bool false, .int .i64 f, .int .i64 (k + 1), .string ⟨y.toArray⟩] 48)) := below1 w3 _
    have ht : Touch F w w3 := (((Touch.of_turned T1.out hF).drewN 1).trans (Touch.of_new (F := F) HB.out) (fun _ _ h => h)).trans (Touch.of_turned T3.out hF) (fun _ _ h => h)
    refine ⟨_, rfl, ?_, ht.trans (Touch.of_new (F := F) hb3) (fun _ _ h => h), fun _ => ⟨.inl hF, H3.out.stay hb3 H3.out.inside⟩, fun e => absurd rfl e⟩
    exact TRow.one w3 ⟨10, false, f, k + 1, y⟩ ht.size
end

/-- A byte within a word. -/
theorem inWord_any (w : World) (b k f : Nat) (F : Nat → Prop) (p : List UInt8) (c : UInt8) (h : LexIs w b F k (.word f p)) (hkb : k ≤ 1000000000) :
    Calls Tryd.prog 41 #[.pointer (some ⟨b, 0, none⟩), .int .u8 c.toNat] w (TakeEnd w b F k (stepL (.word f p) k c)) := by
  obtain ⟨hF, t, j, ht, h1, hj, rfl, ho⟩ := h
  show Calls _ _ _ _ (TakeEnd w b F k (if refL (t.data.toList.take j ++ [c]) = 2 then ([], 6, .dead) else if refL (t.data.toList.take j ++ [c]) = 1 then ([⟨10, false, f, k + 1, t.data.toList.take j ++ [c]⟩], 0, .out) else ([], 0, .word f (t.data.toList.take j ++ [c]))))
  rw [ref_in t ht j h1 (by omega) c, dif_pos hj]
  by_cases hc : t[j] = c
  · rw [if_pos hc]
    by_cases hd : j + 1 = t.size
    · rw [if_pos hd, if_neg (by decide), if_pos rfl]
      exact word_done w b k f F c t j hF ht h1 hj ho hc hd hkb
    · rw [if_neg hd, if_neg (by decide), if_neg (by decide)]
      exact word_on w b k f F c t j hF ht h1 hj ho hc (by omega)
  · rw [if_neg hc, if_pos rfl]
    exact word_no w b k f F c t j h1 hj ho hc

end Go.Proofs.YthpkcapooeedeaaDoor
