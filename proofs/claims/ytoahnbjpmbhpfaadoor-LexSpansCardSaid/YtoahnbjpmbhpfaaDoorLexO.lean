/- Package lex: a byte outside of tokens. -/
import Derived.Test.YtoahnbjpmbhpfaaDoorLexS
namespace Go.Proofs.YtoahnbjpmbhpfaaDoor
open Go.RowKit
set_option linter.unusedVariables false

/-- How taking a byte ends. -/
def TakeEnd (w : World) (b : Nat) (F : Nat → Prop) (k : Nat) (r : List Tok × Int × LSt) (e : Ending) (w' : World) : Prop :=
  ∃ v, e = .returned (.tuple #[v, .int .i64 r.2.1]) ∧ TRow w' w.heap.size v r.1 ∧ Touch F w w' ∧ (r.2.1 = 0 → LexIs w' b (fun j => F j ∨ w.heap.size ≤ j) k r.2.2) ∧ (r.2.1 ≠ 0 → LexAny w' b k)

section
variable (w : World) (b k : Nat) (F : Nat → Prop) (c : UInt8)
set_option maxHeartbeats 1000000 in
set_option maxRecDepth 100000 in
theorem out_other (h : LexIs w b F k .out) (hk : kindI c.toNat = 0) :
    Calls Tryd.prog 17 #[.pointer (some ⟨b, 0, none⟩), .int .u8 c.toNat] w (TakeEnd w b F k ([], 8, .dead)) := by
  have ha := Lib.hid h.any
  have HK := kind_any c.toNat w
  rw [hk] at HK
  replace HK := Lib.hid HK
  clear h hk
  go_enter Tryd.func17, Tryd.ntmps17
  go_wp2_with (go_at_call 24; refine HK.out.mono ?_; rintro e w' ⟨rfl, rfl⟩)
  go_ret2
  exact ⟨_, rfl, TRow.nil _ _, Touch.refl _ _, (fun e => by cases e), fun _ => ha.out⟩
set_option maxHeartbeats 1000000 in
set_option maxRecDepth 100000 in
theorem out_blank (h : LexIs w b F k .out) (hk : kindI c.toNat = 1) :
    Calls Tryd.prog 17 #[.pointer (some ⟨b, 0, none⟩), .int .u8 c.toNat] w (TakeEnd w b F k ([], 0, .out)) := by
  have ha := Lib.hid h
  have HK := kind_any c.toNat w
  rw [hk] at HK
  replace HK := Lib.hid HK
  clear h hk
  go_enter Tryd.func17, Tryd.ntmps17
  go_wp2_with (go_at_call 24; refine HK.out.mono ?_; rintro e w' ⟨rfl, rfl⟩)
  go_ret2
  exact ⟨_, rfl, TRow.nil _ _, Touch.refl _ _, fun _ => ha.out.mono (fun _ _ h => .inl h), fun e => absurd rfl e⟩
set_option maxHeartbeats 1000000 in
set_option maxRecDepth 100000 in
theorem out_one (h : LexIs w b F k .out) (n : Int) (hk : kindI c.toNat = n) (h2 : 2 ≤ n) (h7 : n ≤ 7) (hkb : k ≤ 1000000000) :
    Calls Tryd.prog 17 #[.pointer (some ⟨b, 0, none⟩), .int .u8 c.toNat] w (TakeEnd w b F k ([⟨n, false, k, k + 1, []⟩], 0, .out)) := by
  have ha := Lib.hid h
  have hown := h.2
  have c0 := hown.at 0
  rw [show (LZ k false).toArray[0]? = some (.int .i64 k) from rfl] at c0
  have HK := kind_any c.toNat w
  rw [hk] at HK
  replace HK := Lib.hid HK
  have g0 : (n == 0) = false := beq_eq_false_iff_ne.2 (by omega)
  have g1 : (n == 1) = false := beq_eq_false_iff_ne.2 (by omega)
  have g8 : (n == 8) = false := beq_eq_false_iff_ne.2 (by omega)
  have g9 : (n == 9) = false := beq_eq_false_iff_ne.2 (by omega)
  have g10 : (n == 10) = false := beq_eq_false_iff_ne.2 (by omega)
  clear h hk hown
  go_enter Tryd.func17, Tryd.ntmps17
  go_wp2_with (go_at_call 24; refine HK.out.mono ?_; rintro e w' ⟨rfl, rfl⟩)
  go_region
  go_wp2
  go_ret2
  have hb : Below w.heap.size w (w.alloc (.cells #[.int .i64 n, .bool false, .int .i64 k, .int .i64 (k + 1), .string ⟨#[]⟩] 30)).drew := (below1 w _).drew
  refine ⟨_, rfl, ?_, Touch.of_new hb, fun _ => (ha.out.stay (Touch.of_new (F := fun _ => False) hb) (fun _ _ _ h => h)).mono (fun _ _ h => .inl h), fun e => absurd rfl e⟩
  exact TRow.one w ⟨n, false, k, k + 1, []⟩ (Nat.le_refl _)
end

theorem LX_c0 (k : Int) (o : Bool) (wi f : Int) (q : List Value) (na : Int) (dg : Value) (wt : ByteArray) (wa : Int) : (LX k o wi f q na dg wt wa).toArray[0]? = some (.int .i64 k) := by simp [LX]
theorem LZ_set (k wi f : Int) : ((LZ k false).toArray.setIfInBounds 2 (.int .i64 wi)).setIfInBounds 3 (.int .i64 f) = (LX k false wi f zq 0 (.slice none 0 0) ⟨#[]⟩ 0).toArray := by simp [LZ, LX]
theorem isQ_start {w : World} {b : Nat} {k f : Int} {F : Nat → Prop} {N : Nat} (h : Own w b 49 (LX k false 8 f zq 0 (.slice none 0 0) ⟨#[]⟩ 0).toArray) (hN : N ≤ w.heap.size) : K4.IsQ (rsOf k f F N) w b .plain [] := by
  refine K4.isQ_mk trivial (sg := 0) (lf := 0) (num := 0) (cnt := 0) (fst := 0) (a := 0) ⟨none, List.replicate 64 0, 0, [], ⟨by simp, rfl, h⟩, ⟨rfl, hN⟩, by omega, ?_, ?_, rfl⟩ ⟨rfl, rfl, rfl, rfl, rfl⟩ stU_zero
  · intro v hv; simp at hv
  · intro p hp; simp at hp

/-- What the last statements of takeOutside leave: the lexer within a token that has just begun, and that token. -/
def BegunIn (w : World) (b : Nat) (k n : Int) (cs : Array Value) (v : Value) (w' : World) : Prop :=
  Own w' b 49 ((cs.setIfInBounds 2 (.int .i64 n)).setIfInBounds 3 (.int .i64 k)) ∧ Turned b w w'

section
variable (w : World) (b k : Nat) (F : Nat → Prop) (c : UInt8)
set_option maxHeartbeats 1000000 in
set_option maxRecDepth 100000 in
theorem out_mark (h : LexIs w b F k .out) (hk : kindI c.toNat = 8) (hkb : k ≤ 1000000000) :
    Calls Tryd.prog 17 #[.pointer (some ⟨b, 0, none⟩), .int .u8 c.toNat] w (TakeEnd w b F k ([⟨8, true, k, k, []⟩], 0, .str .plain k [])) := by
  have hF := h.1
  have hown := h.2
  have hin := hown.inside
  have c0 := hown.at 0
  rw [show (LZ k false).toArray[0]? = some (.int .i64 k) from rfl] at c0
  have c2 := hown.at 2
  rw [show (LZ k false).toArray[2]? = some (.int .i64 0) from rfl] at c2
  have c3 := hown.at 3
  rw [show (LZ k false).toArray[3]? = some (.int .i64 0) from rfl] at c3
  have f2 := hown.free 2
  have f3 := hown.free 3
  have HK := kind_any c.toNat w
  rw [hk] at HK
  replace HK := Lib.hid HK
  have HO := Lib.hid hown
  clear h hk hown
  go_enter Tryd.func17, Tryd.ntmps17
  go_wp2_with (go_at_call 24; refine HK.out.mono ?_; rintro e w' ⟨rfl, rfl⟩)
  generalize hw1 : World.setCell (World.setCell _ _ _) _ _ = w1
  have H1 : Own w1 b 49 (LX k false 8 k zq 0 (.slice none 0 0) ⟨#[]⟩ 0).toArray ∧ Turned b w w1 := by
    subst hw1
    refine ⟨?_, ((Turned.refl b w).put 2 _).put 3 _⟩
    have := (HO.out.put 2 (.int .i64 8)).put 3 (.int .i64 k)
    rwa [LZ_set] at this
  clear hw1 c0 c2 c3 f2 f3
  have c0 := H1.1.at 0
  rw [show (LX k false 8 k zq 0 (.slice none 0 0) ⟨#[]⟩ 0).toArray[0]? = some (.int .i64 k) from rfl] at c0
  have HH := Lib.hid H1
  clear H1
  go_region
  go_wp2
  go_ret2
  have hz : w.heap.size ≤ w1.heap.size := HH.out.2.2.2.2.1
  have hb : Below w1.heap.size w1 (w1.alloc (.cells #[.int .i64 8, .bool true, .int .i64 k, .int .i64 k, .string ⟨#[]⟩] 30)).drew := (below1 w1 _).drew
  refine ⟨_, rfl, ?_, (Touch.of_turned HH.out.2 hF).trans (Touch.of_new (F := F) hb) (fun _ _ h => h), fun _ => ⟨.inl hF, by simp, ?_⟩, fun e => absurd rfl e⟩
  · exact TRow.one w1 ⟨8, true, k, k, []⟩ hz
  · exact isQ_start (HH.out.1.stay hb HH.out.1.inside) (Nat.le_refl _)

theorem LZ_word (k : Int) (t : ByteArray) : (((((LZ k false).toArray.setIfInBounds 78 (.string t)).setIfInBounds 79 (.int .i64 1)).setIfInBounds 2 (.int .i64 10)).setIfInBounds 3 (.int .i64 k)) = (LX k false 10 k zq 0 (.slice none 0 0) t ((1 : Nat) : Int)).toArray := by
  simp [LZ, LX, zq_len]
theorem LZ_get (k : Int) (wi f : Int) (na : Int) (dg : Value) (t : ByteArray) (j : Int) : (LX k false wi f zq na dg t j).toArray[76]? = some (.int .i64 na) ∧ (LX k false wi f zq na dg t j).toArray[77]? = some dg ∧ (LX k false wi f zq na dg t j).toArray[78]? = some (.string t) ∧ (LX k false wi f zq na dg t j).toArray[79]? = some (.int .i64 j) := by
  refine ⟨?_, ?_, ?_, ?_⟩ <;> simp [LX, zq_len]

set_option maxHeartbeats 1000000 in
set_option maxRecDepth 100000 in
theorem out_word (t : ByteArray) (ht : t = wT ∨ t = wF ∨ t = wN) (hz : 1 < t.size) (hc : (t[0].toNat : Int) = c.toNat)
    (hB : ∀ w, Tab w → Calls Tryd.prog 33 #[.int .u8 c.toNat] w fun e w' => e = .returned (.string t) ∧ Below w.heap.size w w')
    (hT : Tab w) (h : LexIs w b F k .out) (hk : kindI c.toNat = 10) (hkb : k ≤ 1000000000) :
    Calls Tryd.prog 17 #[.pointer (some ⟨b, 0, none⟩), .int .u8 c.toNat] w (TakeEnd w b F k ([⟨10, true, k, k, []⟩], 0, .word k [c])) := by
  have hF := h.1
  have hown := h.2
  have HK := kind_any c.toNat w
  rw [hk] at HK
  replace HK := Lib.hid HK
  have HS := Lib.hid (fstep_first b ⟨#[]⟩ t c.toNat hz hc _ _ w hT hown (LZ_get ..).2.2.1 (LZ_get ..).2.2.2 hB)
  have hp := Lib.hid (show [c] = t.data.toList.take 1 by
    have hl : 0 < t.data.toList.length := by have : t.data.toList.length = t.size := rfl; omega
    rw [List.take_succ_eq_append_getElem hl]
    have : t.data.toList[0] = t[0] := rfl
    rw [this]
    have : t[0] = c := UInt8.toNat_inj.1 (by omega)
    rw [this]; rfl)
  clear h hk hown hB hc
  go_enter Tryd.func17, Tryd.ntmps17
  go_wp2_with (first
    | (go_at_call 24; refine HK.out.mono ?_; rintro e w' ⟨rfl, rfl⟩)
    | (go_at_call 22; refine HS.out.mono ?_; rintro e w1 ⟨rfl, ho1, ht1⟩
       have c0 := ho1.at 0
       have c2 := ho1.at 2
       have c3 := ho1.at 3
       have f2 := ho1.free 2
       have f3 := ho1.free 3
       rw [show (((LZ k false).toArray.setIfInBounds 78 (.string t)).setIfInBounds 79 (.int .i64 1))[0]? = some (.int .i64 k) from rfl] at c0
       rw [show (((LZ k false).toArray.setIfInBounds 78 (.string t)).setIfInBounds 79 (.int .i64 1))[2]? = some (.int .i64 0) from rfl] at c2
       rw [show (((LZ k false).toArray.setIfInBounds 78 (.string t)).setIfInBounds 79 (.int .i64 1))[3]? = some (.int .i64 0) from rfl] at c3
       have HO := Lib.hid ho1
       have HT := Lib.hid ht1
       clear ho1 ht1))
  generalize hw2 : World.setCell (World.setCell _ _ _) _ _ = w2
  have H1 : Own w2 b 49 (LX k false 10 k zq 0 (.slice none 0 0) t ((1 : Nat) : Int)).toArray ∧ Turned b w w2 := by
    subst hw2
    refine ⟨?_, (HT.out.put 2 _).put 3 _⟩
    have := (HO.out.put 2 (.int .i64 10)).put 3 (.int .i64 k)
    rwa [LZ_word] at this
  clear hw2 c0 c2 c3 f2 f3
  have c0 := H1.1.at 0
  rw [show (LX k false 10 k zq 0 (.slice none 0 0) t ((1 : Nat) : Int)).toArray[0]? = some (.int .i64 k) from rfl] at c0
  have HH := Lib.hid H1
  clear H1
  go_region
  go_wp2
  go_ret2
  have hz' : w.heap.size ≤ w2.heap.size := HH.out.2.2.2.2.1
  have hb : Below w2.heap.size w2 (w2.alloc (.cells #[.int .i64 10, .bool true, .int .i64 k, .int .i64 k, .string ⟨#[]⟩] 30)).drew := (below1 w2 _).drew
  refine ⟨_, rfl, ?_, (Touch.of_turned HH.out.2 hF).trans (Touch.of_new (F := F) hb) (fun _ _ h => h), fun _ => ⟨.inl hF, t, 1, ht, Nat.le_refl _, hz, hp.out, HH.out.1.stay hb HH.out.1.inside⟩, fun e => absurd rfl e⟩
  exact TRow.one w2 ⟨10, true, k, k, []⟩ hz'
end

/-- Appending a byte, or several, onto a row of bytes of the call's own. -/
theorem dig_append {ops : Array Oper} {rest : List Oper} {o : Oper} {a : Act} {Q : Exit → Act → World → Prop} (w : World) (hgd : o.guard = none) (s x : Operand) (ho : o.op = .call { callee := .builtin .append, args := #[s, x], argTypes := #[22, 22] })
    (v : Value) (l : List UInt8) (hs : a.eval s = v) (hown : w.ownsRow 0 5 1 v l.length (byteCells l)) (B : Nat) (A : Option Addr) (m c : Nat) (news : List UInt8) (hx : a.eval x = .slice A m c) (hr : Rd w B A m (byteCells news)) (hm : 0 < m)
    (h63 : l.length + m ≤ 140737488355328 - 4096)
    (h : ∀ (g c' : Nat) (w' : World), w'.ownsRow 0 5 1 (.slice (some ⟨g, 0, none⟩) (l ++ news).length c') (l ++ news).length (byteCells (l ++ news)) → w.grownBy w' v.ownBlock → (v.ownBlock = some g ∨ g = w.heap.size) →
      wpList Tryd.prog ops Q rest (a.put o.dst (.slice (some ⟨g, 0, none⟩) (l ++ news).length c')) w') : wpList Tryd.prog ops Q (o :: rest) a w := by
  obtain ⟨i0, hi, hz0, hz1, hz2⟩ := info_parts byte_info
  have hmn : news.length = m := by have := hr.1; rwa [byteCells_length] at this
  refine wpList_append_rd w hgd s x _ ho 0 5 i0 _ 1 Tryd.underlying22 hi hz0 hz1 hz2 rfl v l.length (byteCells l) hs hown B A m c (byteCells news) hx hr (byteCells_one _) (by unfold maxLen; omega) (by omega) (Nat.zero_le _) ?_
  intro v' w' h2 hg hnil hat
  have hne : v' ≠ .slice none 0 0 := fun e => by have := (hnil.1 e).2; omega
  obtain ⟨g, c2, rfl, _⟩ := own_form h2 hne
  have e1 : l.length + m = (l ++ news).length := by rw [List.length_append, hmn]
  rw [e1] at h2 ⊢
  rw [← byteCells_append] at h2
  refine h g c2 w' h2 hg ?_
  rcases hat with hat | hat
  · exact .inl hat.symm
  · exact .inr (ownBlock_is hat).symm

theorem LZ_num (k a : Int) (dg : Value) : (((((LZ k false).toArray.setIfInBounds 76 (.int .i64 a)).setIfInBounds 77 dg).setIfInBounds 2 (.int .i64 9)).setIfInBounds 3 (.int .i64 k)) = (LX k false 9 k zq a dg ⟨#[]⟩ 0).toArray := by
  simp [LZ, LX, zq_len]

set_option maxHeartbeats 1000000 in
set_option maxRecDepth 100000 in
theorem out_num (w : World) (b k : Nat) (F : Nat → Prop) (c : UInt8) (h : LexIs w b F k .out) (hk : kindI c.toNat = 9) (hn : nxI 0 c.toNat ≠ 0) (hkb : k ≤ 1000000000) :
    Calls Tryd.prog 17 #[.pointer (some ⟨b, 0, none⟩), .int .u8 c.toNat] w (TakeEnd w b F k ([⟨9, true, k, k, []⟩], 0, .num (nxI 0 c.toNat) k [c])) := by
  have hF := h.1
  have hown := h.2
  have HK := kind_any c.toNat w
  rw [hk] at HK
  replace HK := Lib.hid HK
  have c76 := hown.at 76
  rw [show (LZ k false).toArray[76]? = some (.int .i64 0) from (LZ_get ..).1] at c76
  have hin := hown.inside
  have HST := stA_next 0 c.toNat
  have HS := fnum_goes b c.toNat 0 w c76 (hown.free 76) stA_zero hn
  generalize nxI 0 c.toNat = a at *
  replace HS := Lib.hid ((HS.mono fun e w' h => ⟨h.1, by rw [h.2]; exact hown.put 76 _, by rw [h.2]; exact (Turned.refl b w).put 76 _⟩ : Calls Tryd.prog 21 #[.pointer (some ⟨b, 76, none⟩), .int .u8 c.toNat] w fun e w' => e = .returned (.int .i64 0) ∧ Own w' b 49 ((LZ k false).toArray.setIfInBounds 76 (.int .i64 a)) ∧ Turned b w w'))
  clear h hk hown hn c76
  go_enter Tryd.func17, Tryd.ntmps17
  go_wp2_with (first
    | (go_at_call 24; refine HK.out.mono ?_; rintro e w' ⟨rfl, rfl⟩)
    | (go_at_call 21; refine HS.out.mono ?_; rintro e w1 ⟨rfl, ho1, ht1⟩
       have c77 := ho1.at 77
       rw [show ((LZ k false).toArray.setIfInBounds 76 (.int .i64 a))[77]? = some (.slice none 0 0) by simp [LZ, LX, zq_len]] at c77
       have hrd := Rd.of_list (l := [.int .u8 c.toNat]) (Own.fresh w1 5 #[.int .u8 c.toNat]) rfl
       have HO := Lib.hid ho1
       have HT := Lib.hid ht1
       clear ho1 ht1)
    | (at_builtin; go_must (
       refine dig_append _ rfl (.tmp 39) (.tmp 41) rfl (.slice none 0 0) [] rfl ⟨rfl, .inl ⟨rfl, rfl⟩⟩ _ _ 1 1 [c] rfl hrd (by decide) (by simp) ?_
       intro g c' w2 hr2 hg2 hor
       have hb2 := ((below1 w1 (.cells #[.int .u8 c.toNat] 5)).grown hg2 (by simp) (fun k hk => by cases hk))
       have HO2 := Lib.hid (HO.out.stay hb2 HO.out.inside)
       have d77 := HO2.out.at 77
       rw [show ((LZ k false).toArray.setIfInBounds 76 (.int .i64 a))[77]? = some (.slice none 0 0) by simp [LZ, LX, zq_len]] at d77
       have f77 := HO2.out.free 77
       have c0 := HO2.out.at 0
       have c2 := HO2.out.at 2
       have c3 := HO2.out.at 3
       have f2 := HO2.out.free 2
       have f3 := HO2.out.free 3
       rw [show ((LZ k false).toArray.setIfInBounds 76 (.int .i64 a))[0]? = some (.int .i64 k) from rfl] at c0
       rw [show ((LZ k false).toArray.setIfInBounds 76 (.int .i64 a))[2]? = some (.int .i64 0) from rfl] at c2
       rw [show ((LZ k false).toArray.setIfInBounds 76 (.int .i64 a))[3]? = some (.int .i64 0) from rfl] at c3
       have HR := Lib.hid hr2
       have HB := Lib.hid hb2
       have HG := Lib.hid hor
       clear hr2 hg2 hor hb2 c77 hrd)))
  generalize hw3 : World.setCell (World.setCell (World.setCell _ _ _) _ _) _ _ = w3
  have hz1 : w.heap.size ≤ w1.heap.size := HT.out.2.2.2.1
  have hgn : g = w1.heap.size + 1 := by
    rcases HG.out with h | h
    · cases h
    · simpa using h
  have H3 : Own w3 b 49 (LX k false 9 k zq a (.slice (some ⟨g, 0, none⟩) ([] ++ [c]).length c') ⟨#[]⟩ 0).toArray ∧ Turned b w2 w3 := by
    subst hw3
    refine ⟨?_, (((Turned.refl b w2).put 77 _).put 2 _).put 3 _⟩
    have := ((HO2.out.put 77 (.slice (some ⟨g, 0, none⟩) ([] ++ [c]).length c')).put 2 (.int .i64 9)).put 3 (.int .i64 k)
    rwa [LZ_num] at this
  have hr3 := (Touch.of_turned (F := fun j => j = b) H3.2 rfl).row HR.out (fun g' e => by
    obtain rfl := ownBlock_is e
    omega)
  have ht3 : Touch F w w3 := ((Touch.of_turned HT.out hF).trans (Touch.of_new (F := F) HB.out) (fun _ _ h => h)).trans (Touch.of_turned H3.2 hF) (fun _ _ h => h)
  clear hw3 c0 c2 c3 f2 f3 d77 f77
  have c0 := H3.1.at 0
  rw [LX_c0] at c0
  have HH := Lib.hid H3
  have HR3 := Lib.hid hr3
  clear H3 hr3
  go_region
  go_wp2
  go_ret2
  have hb : Below w3.heap.size w3 (w3.alloc (.cells #[.int .i64 9, .bool true, .int .i64 k, .int .i64 k, .string ⟨#[]⟩] 30)).drew := (below1 w3 _).drew
  have hgl := (HR3.out.lt g rfl).2
  refine ⟨_, rfl, ?_, ht3.trans (Touch.of_new (F := F) hb) (fun _ _ h => h), fun _ => ⟨.inl hF, HST, g, c', HH.out.1.stay hb HH.out.1.inside, ?_, .inr (by omega), by omega⟩, fun e => absurd rfl e⟩
  · exact TRow.one w3 ⟨9, true, k, k, []⟩ ht3.size
  · exact (Touch.of_new (F := fun _ => False) hb).row HR3.out (fun _ _ h => h)


theorem kind_cases (c : UInt8) : kindI c.toNat = 0 ∨ kindI c.toNat = 1 ∨ (2 ≤ kindI c.toNat ∧ kindI c.toNat ≤ 7) ∨ kindI c.toNat = 8 ∨ (kindI c.toNat = 9 ∧ nxI 0 c.toNat ≠ 0) ∨ (kindI c.toNat = 10 ∧ (c = 116 ∨ c = 102 ∨ c = 110)) := by
  have h : ∀ n : Nat, n < 256 → kindI n = 0 ∨ kindI n = 1 ∨ (2 ≤ kindI n ∧ kindI n ≤ 7) ∨ kindI n = 8 ∨ (kindI n = 9 ∧ nxI 0 n ≠ 0) ∨ (kindI n = 10 ∧ (n = 116 ∨ n = 102 ∨ n = 110)) := by decide +kernel
  have := h c.toNat (UInt8.toNat_lt c)
  rcases this with h | h | h | h | h | ⟨h, h2⟩
  · exact .inl h
  · exact .inr (.inl h)
  · exact .inr (.inr (.inl h))
  · exact .inr (.inr (.inr (.inl h)))
  · exact .inr (.inr (.inr (.inr (.inl h))))
  · refine .inr (.inr (.inr (.inr (.inr ⟨h, ?_⟩))))
    rcases h2 with h2 | h2 | h2
    · exact .inl (UInt8.toNat_inj.1 h2)
    · exact .inr (.inl (UInt8.toNat_inj.1 h2))
    · exact .inr (.inr (UInt8.toNat_inj.1 h2))

/-- A byte outside of tokens. -/
theorem outside_any (w : World) (b k : Nat) (F : Nat → Prop) (c : UInt8) (h : LexIs w b F k .out) (hT : Tab w) (hkb : k ≤ 1000000000) :
    Calls Tryd.prog 17 #[.pointer (some ⟨b, 0, none⟩), .int .u8 c.toNat] w (TakeEnd w b F k (outL k c)) := by
  unfold outL
  rcases kind_cases c with hk | hk | ⟨h2, h7⟩ | hk | ⟨hk, hn⟩ | ⟨hk, hc⟩
  · rw [if_neg (by omega), if_pos hk]
    exact out_other w b k F c h hk
  · rw [if_pos hk]
    exact out_blank w b k F c h hk
  · rw [if_neg (by omega), if_neg (by omega), if_pos (by omega)]
    exact out_one w b k F c h _ rfl h2 h7 hkb
  · rw [if_neg (by omega), if_neg (by omega), if_neg (by omega), if_pos hk]
    exact out_mark w b k F c h hk hkb
  · rw [if_neg (by omega), if_neg (by omega), if_neg (by omega), if_neg (by omega), if_pos hk]
    exact out_num w b k F c h hk hn hkb
  · rw [if_neg (by omega), if_neg (by omega), if_neg (by omega), if_neg (by omega), if_neg (by omega)]
    rcases hc with rfl | rfl | rfl
    · exact out_word w b k F 116 wT (.inl rfl) (by decide) rfl begun_t hT h hk hkb
    · exact out_word w b k F 102 wF (.inr (.inl rfl)) (by decide) rfl begun_f hT h hk hkb
    · exact out_word w b k F 110 wN (.inr (.inr rfl)) (by decide) rfl begun_n hT h hk hkb

end Go.Proofs.YtoahnbjpmbhpfaaDoor
