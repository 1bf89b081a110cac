/- A book: join. -/
import Derived.Test.YtfkbmecmancgpaaM18D
import Derived.Deep.RegionLaw
namespace Go.Proofs.Ytfkbmecmancgpaa
open Go.RowKit
set_option linter.unusedVariables false
set_option linter.unusedSimpArgs false

def tagU (tag : Nat → Nat) (d : Nat) (v : Value) : Nat → Nat := fun k => if v.ownBlock = some k then 2 * d + 5 else tag k

section
variable {w w' : World} {b : Nat} {tag : Nat → Nat} {s : St18} {vv : Value} {mb : Nat} {pb : Nat → Nat} {uv : Nat → Value}

/-- One more that hangs on d. -/
theorem BkR.user (h : BkR w b tag s vv mb pb uv) {d r : Nat} {t : Th18} (hd : s.opn d = some t) {u' : Value} {F : Nat → Prop} (ht : Touch F w w') (hF : ∀ k, F k → k = pb d ∨ (uv d).ownBlock = some k)
    (ho : Own w' (pb d) 47 #[.int .i64 t.left, .int .i64 t.one, u']) (hr : w'.ownsRow 0 3 1 u' (t.users.length + 1) (nums (t.users ++ [r])))
    (hv : u'.ownBlock = (uv d).ownBlock ∨ ∃ q, u'.ownBlock = some q ∧ w.heap.size ≤ q ∧ q < w'.heap.size) :
    Bk w' b (tagU tag d u') (usersOn r s d) ∧ ∀ k, k < w.heap.size → tagU tag d u' k = tag k := by
  have hT := h.tcell d t hd
  have hTu := h.turow d t hd
  have hnF : ∀ k, tag k ≠ 2 * d + 4 → tag k ≠ 2 * d + 5 → ¬ F k := by
    intro k h1 h2 hf
    rcases hF k hf with rfl | e
    · exact h1 hT
    · exact h2 (hTu k e)
  have htag : ∀ k, k < w.heap.size → tagU tag d u' k = tag k := by
    intro k hk
    unfold tagU
    split
    · rename_i e
      rcases hv with hv | ⟨q, hq, hq1, _⟩
      · exact (hTu k (hv ▸ e)).symm
      · rw [hq] at e; injection e with e; omega
    · rfl
  have hopd : (usersOn r s d).opn d = some { t with users := t.users ++ [r] } := by
    unfold usersOn
    rw [opn_setOpn, if_pos rfl, hd]
    rfl
  have hopo : ∀ y, y ≠ d → (usersOn r s d).opn y = s.opn y := fun y hy => by
    unfold usersOn
    rw [opn_setOpn, if_neg hy]
  refine ⟨⟨vv, mb, pb, fun x => if x = d then u' else uv x, ?_⟩, htag⟩
  exact {
    book := ht.own h.book (hnF _ (by rw [h.tbook]; omega) (by rw [h.tbook]; omega))
    tbook := by rw [htag b h.book.inside]; exact h.tbook
    row := ht.row h.row (fun g hg => hnF _ (by rw [h.trow g hg]; omega) (by rw [h.trow g hg]; omega))
    trow := fun k hk => by rw [htag k (own_lt h.row k hk).2]; exact h.trow k hk
    map := by
      have : (fun x => ((usersOn r s d).opn x).map fun _ => pb x) = (fun x => (s.opn x).map fun _ => pb x) := by
        funext x
        by_cases e : x = d
        · subst e; rw [hopd, hd]; rfl
        · rw [hopo x e]
      show Opm w' mb s.vals.length (fun x => ((usersOn r s d).opn x).map fun _ => pb x)
      rw [this]
      exact ht.opm h.map (hnF _ (by rw [h.tmap]; omega) (by rw [h.tmap]; omega))
    tmap := by rw [htag mb h.map.lt]; exact h.tmap
    cell := fun x tx hx => by
      by_cases e : x = d
      · subst e
        rw [hopd] at hx
        injection hx with hx
        subst hx
        simp only [if_true]
        exact ho
      · rw [hopo x e] at hx
        simp only [e, if_false]
        exact ht.own (h.cell x tx hx) (hnF _ (by rw [h.tcell x tx hx]; omega) (by rw [h.tcell x tx hx]; omega))
    tcell := fun x tx hx => by
      by_cases e : x = d
      · subst e
        rw [htag _ (h.cell x t hd).inside]
        exact hT
      · rw [hopo x e] at hx
        rw [htag _ (h.cell x tx hx).inside]
        exact h.tcell x tx hx
    urow := fun x tx hx => by
      by_cases e : x = d
      · subst e
        rw [hopd] at hx
        injection hx with hx
        subst hx
        simp only [if_true]
        rw [List.length_append]
        exact hr
      · rw [hopo x e] at hx
        simp only [e, if_false]
        exact ht.row (h.urow x tx hx) (fun g hg => hnF _ (by rw [h.turow x tx hx g hg]; omega) (by rw [h.turow x tx hx g hg]; omega))
    turow := fun x tx hx k hk => by
      by_cases e : x = d
      · subst e
        simp only [if_true] at hk
        unfold tagU
        rw [if_pos hk]
      · rw [hopo x e] at hx
        simp only [e, if_false] at hk
        rw [htag k (own_lt (h.urow x tx hx) k hk).2]
        exact h.turow x tx hx k hk
    live := fun k hk => by
      unfold tagU at hk
      by_cases e : u'.ownBlock = some k
      · exact (own_lt hr k e).2
      · rw [if_neg e] at hk
        exact Nat.lt_of_lt_of_le (h.live k hk) ht.size }
end

/-- What join leaves. -/
def JnEnd (nd : Nat → Nd18) (n : Nat) (s : St18) (W : World) (b : Nat) (tag : Nat → Nat) (one : Nat) (zs : List Int) (e : Ending) (w' : World) : Prop :=
  ∃ (r : Nat) (s' : St18) (nd' : Nat → Nd18) (n' : Nat) (tag' : Nat → Nat), e = .returned (.int .i64 r) ∧ Bk w' b tag' s' ∧ Mid18 nd' n' s' [] none ∧ Touch (fun k => tag k ≠ 0) W w' ∧ (∀ k, k < W.heap.size → tag' k = tag k) ∧ Jn18 nd n s nd' n' s' one zs r

/-- Those that are open so far; none has the value at once. -/
def RelJ (s : St18) (one : Nat) (zs : List Int) (W : World) (v7 v15 : Value) (wr : World) : Prop :=
  ∃ k : Nat, v15 = .int .i64 k ∧ k ≤ zs.length ∧ (∀ z ∈ zs.take k, s.valI z ≠ one) ∧ wr.ownsRow W.heap.size 3 1 v7 (unk s (zs.take k)).length (nums (unk s (zs.take k))) ∧ Below W.heap.size W wr

/-- Those ahead of j know of it. -/
def RelU (s : St18) (one : Nat) (U : List Nat) (A : Option Addr) (c : Nat) (W : World) (b : Nat) (tag : Nat → Nat) (v58 : Value) (wr : World) : Prop :=
  ∃ (j : Nat) (tag' : Nat → Nat), v58 = .int .i64 j ∧ j ≤ U.length ∧ Bk wr b tag' (joinK s one U j) ∧ Touch (fun k => tag k ≠ 0) W wr ∧ (∀ k, k < W.heap.size → tag' k = tag k) ∧
    wr.ownsRow W.heap.size 3 1 (.slice A U.length c) U.length (nums U) ∧ (∀ k, (Value.slice A U.length c).ownBlock = some k → tag' k = 0)

theorem step_append_rd {ops : Array Oper} {o : Oper} {a : Act} {w : World} {K : Act → World → Prop} {Q : Exit → Act → World → Prop} {E : Prop} (hgd : o.guard = none) (s x : Operand) (t : TypeId) (ho : o.op = .call { callee := .builtin .append, args := #[s, x], argTypes := #[t, t] })
    (base : Nat) (e : TypeId) (i : TypeInfo) (z : Value) (bytes : Nat) (ht : Try.prog.underlying t = some (.slice e)) (hi : Try.prog.info? e = some i) (hz : i.zero = some z)
    (hsize : i.size = 1) (hby : i.bytes = bytes) (hzs : z.cells.size = 1)
    (v : Value) (n : Nat) (xs : List Value) (hs : a.eval s = v) (hown : w.ownsRow base e 1 v n xs)
    (B : Nat) (A : Option Addr) (m c : Nat) (news : List Value) (hx : a.eval x = .slice A m c) (hr : Rd w B A m news) (h1 : ∀ u ∈ news, u.oneCell' = true)
    (h63 : n + m ≤ maxLen) (hbytes : (n + m) * bytes ≤ 140737488355328) (hbase : base ≤ w.heap.size)
    (h : ∀ v' w', w'.ownsRow base e 1 v' (n + m) (xs ++ news) → w.grownBy w' v.ownBlock → (v' = .slice none 0 0 ↔ v = .slice none 0 0 ∧ m = 0) → (v'.ownBlock = v.ownBlock ∨ v'.ownBlock = some w.heap.size) → K (a.put o.dst v') w') : if Region.wanted o (yielded ops a.tmps) = true then Oper.wp Try.prog o a w K Q else E := by
  have hw : Region.wanted o (yielded ops a.tmps) = true := by simp [Region.wanted, hgd]
  rw [if_pos hw]
  exact wp_append_rd w s x t ho base e i z bytes ht hi hz hsize hby hzs v n xs hs hown B A m c news hx hr h1 h63 hbytes hbase h
theorem Touch.drew {F : Nat → Prop} {w w' : World} (h : Touch F w w') : Touch F w w'.drew := ⟨h.os, h.tape, h.output, h.size, h.block⟩
/-- What the users' loop reads. -/
def JnAt (b mb p d : Nat) (v : Value) (w' : World) : Prop :=
  w'.cell? ⟨b, 1, none⟩ = some (.map (some mb)) ∧ w'.cell? ⟨p, 2, none⟩ = some v ∧ w'.frozen? ⟨p, 2, none⟩ = false ∧ (Instr.lookup 42 (.map (some mb)) (.int .i64 d) false).run Try.prog w' = .ok (.pointer (some ⟨p, 0, none⟩)) w'

set_option maxRecDepth 100000 in
set_option maxHeartbeats 16000000 in
theorem join_any {nd : Nat → Nd18} {n : Nat} {s : St18} (hm : Mid18 nd n s [] none) (one : Nat) (h1 : one = 1 ∨ one = 2) (hn : n ≤ 900) (W : World) (b : Nat) (tag : Nat → Nat) (h : Bk W b tag s)
    (A : Option Addr) (len c : Nat) (zs : List Int) (B : Nat) (hB : B ≤ W.heap.size) (hr : Rd W B A len (zs.map (Value.int .i64))) (hl : len ≤ 1000) (hwf : ∀ z ∈ zs, (Lit.int .i64 z).wf = true) :
    Calls Try.prog 19 #[.pointer (some ⟨b, 0, none⟩), .int .i64 one, .slice A len c] W fun e w' => JnEnd nd n s W b tag one zs e w' := by
  obtain ⟨i0, hi, hz0, hz1, hz2⟩ := info_parts int_info
  have hlen : zs.length = len := by simpa using hr.1
  subst hlen
  have h3 : ∀ x, s.val x ≤ 2 := fun x => by have := hm.v3 x; omega
  have HM := Lib.hid hm
  have HB := Lib.hid h
  have HR := Lib.hid hr
  have H1 := Lib.hid h1
  have HN := Lib.hid hn
  have H3 := Lib.hid h3
  have HBB := Lib.hid hB
  have HSL := Lib.hid hm.len
  have HE := Lib.hid (fun (w' : World) (r : Nat) (hb : Below W.heap.size W w') (hj : Jn18 nd n s nd n s one zs r) => show JnEnd nd n s W b tag one zs (.returned (.int .i64 r)) w' from
    ⟨r, s, nd, n, tag, rfl, h.stay (Touch.of_new (F := fun _ => False) hb) (fun _ f => f.elim), hm, Touch.of_new hb, fun _ _ => rfl, hj⟩)
  have HST := Lib.hid (show RelJ s one zs W (.slice none 0 0) (.int .i64 0) W from ⟨0, rfl, Nat.zero_le _, (fun z hz => by cases hz), World.ownsRow_nil _ _ _ _, Below.refl _ _⟩)
  clear hm h hr hn h3 hB h1
  go_enter Try.func19, Try.ntmps19
  go_wp2
  go_loopw [7, 15] (fun v7 v15 wr => RelJ s one zs W v7 v15 wr) (fun _ v15 _ => zs.length - (intOf v15).toNat)
  case atStart => exact HST.out
  case round =>
    obtain ⟨k, rfl, hk, hne, hrow, hbl⟩ := hrel
    obtain ⟨A7, c7, rfl, hc7, hm7⟩ := row_slice hrow
    have hul := unk_len s (zs.take k)
    rw [List.length_take] at hul
    by_cases hkl : k < zs.length
    · have hI : (k : Int) < zs.length := by omega
      obtain ⟨ad, rfl, hadb, hac⟩ := HR.out.2 (by omega)
      obtain ⟨z, hz⟩ : ∃ z, z = zs[k] := ⟨_, rfl⟩
      have hcz := (hbl.cell (p := ad.add k) (by rw [add_block]; have := HBB.out; omega)).trans (hac k (.int .i64 z) (by rw [List.getElem?_map, List.getElem?_eq_getElem hkl, hz]; rfl))
      have htk : zs.take (k + 1) = zs.take k ++ [z] := by rw [List.take_succ_eq_append_getElem hkl, hz]
      have hzm : z ∈ zs := by rw [hz]; exact List.getElem_mem hkl
      have hB2 : Bk wr b tag s := HB.out.stay (Touch.of_new (F := fun _ => False) hbl) (fun _ f => f.elim)
      have KV := Lib.hid (value_any hB2 H3.out z)
      have hv3 : s.valI z ≤ 2 := by
        unfold St18.valI
        split
        · exact H3.out _
        · omega
      have HTK := Lib.hid htk
      have HNE := Lib.hid hne
      have HROW := Lib.hid hrow
      have HBL := Lib.hid hbl
      have HUL := Lib.hid hul
      have HZM := Lib.hid hzm
      have hul9 : (unk s (zs.take k)).length ≤ 1000 := by omega
      have hw := hwf z hzm
      clear htk hne hrow hbl hul hzm hB2 hwf hac
      by_cases hv : s.valI z = one
      · have g1 : ((s.valI z : Int) == (one : Int)) = true := by rw [hv]; simp
        have KE := Lib.hid (HE.out wr _ HBL.out (jn_early HM.out H1.out HZM.out hv))
        rw [hv] at g1 KV
        clear hv hz
        go_wp2_with (first
          | (go_at_call 16
             go_must (
               refine KV.out.mono ?_
               rintro e w3 ⟨rfl, rfl⟩))
          | (go_at_call 22
             go_must (
               refine (fixed_any one _).mono ?_
               rintro e w3 ⟨rfl, rfl⟩)))
        go_ret
        exact KE.out
      · have g1 : ((s.valI z : Int) == (one : Int)) = false := beq_eq_false_iff_ne.2 (by omega)
        have HNE2 := Lib.hid (show ∀ y ∈ zs.take (k + 1), s.valI y ≠ one from by
          rw [HTK.out]
          intro y hy
          rcases List.mem_append.1 hy with hy | hy
          · exact HNE.out y hy
          · simp at hy
            subst hy
            exact hv)
        by_cases hv0 : s.valI z = 0
        · obtain ⟨hx0, hzl, _⟩ := valI_in hv0
          obtain ⟨x, rfl⟩ : ∃ x : Nat, z = x := ⟨z.toNat, by omega⟩
          have HU2 := Lib.hid (show unk s (zs.take (k + 1)) = unk s (zs.take k) ++ [x] from by
            rw [HTK.out, unk_snoc, if_pos hv0, Int.toNat_natCast])
          have hrw5 := HROW.out
          have hrd5 : Rd (wr.alloc (.cells #[.int .i64 x] 3)) (wr.heap.size + 1) (some ⟨wr.heap.size, 0, none⟩) 1 [.int .i64 x] := Rd.of_list (l := [.int .i64 x]) (Own.fresh _ _ _) rfl
          have hz5 : W.heap.size ≤ (wr.alloc (.cells #[.int .i64 x] 3)).heap.size := by have := HBL.out.size; simp; omega
          rw [hv0] at g1 KV
          clear hv hz hv0 hzl
          generalize hU1 : unk s (zs.take k) = U1 at *
          go_wp2_with (first
            | (go_at_call 16
               go_must (
                 refine KV.out.mono ?_
                 rintro e w3 ⟨rfl, rfl⟩))
            | (at_builtin
               go_must (
                 refine wpList_append_rd _ rfl (.tmp 29) (.tmp 31) _ rfl W.heap.size 3 i0 _ 8 Try.underlying27 hi hz0 hz1 hz2 rfl (.slice A7 U1.length c7) U1.length (nums U1) rfl (hrw5.alloc _) _ (some ⟨_, 0, none⟩) 1 1 [.int .i64 x] rfl hrd5 (nums_one [x]) (by unfold maxLen; omega) (by omega) hz5 ?_
                 intro v6 w6 hown6 hg6' hnil6 hat6
                 have HB6 := Lib.hid (show RelJ s one zs W v6 (.int .i64 ((k + 1 : Nat) : Int)) w6 from
                   ⟨k + 1, rfl, hkl, HNE2.out, by rw [HU2.out, nums_app, List.length_append]; exact hown6, (HBL.out.alloc HBL.out.size _).grown hg6' hz5 (fun g hg => (own_lt hrw5 g hg).1)⟩)
                 clear hown6 hg6' hnil6 hat6)))
          go_roundw
          case rel => exact HB6.out
          case measure => simp [intOf]; omega
        · have g2 : ((s.valI z : Int) == 0) = false := beq_eq_false_iff_ne.2 (by omega)
          have HB6 := Lib.hid (show RelJ s one zs W (.slice A7 (unk s (zs.take k)).length c7) (.int .i64 ((k + 1 : Nat) : Int)) wr from
            ⟨k + 1, rfl, hkl, HNE2.out, by rw [HTK.out, unk_snoc, if_neg hv0, List.append_nil]; exact HROW.out, HBL.out⟩)
          generalize s.valI z = v at *
          clear hv hz hv0 HTK
          go_wp2_with (first
            | (go_at_call 16
               go_must (
                 refine KV.out.mono ?_
                 rintro e w3 ⟨rfl, rfl⟩)))
          go_roundw
          case rel => exact HB6.out
          case measure => simp [intOf]; omega
    · have hI : ¬ (k : Int) < zs.length := by omega
      have hke : k = zs.length := by omega
      subst hke
      rw [List.take_length] at hne hrow hul
      rw [List.take_length] at *
      have HNE := Lib.hid hne
      have HROW := Lib.hid hrow
      have HBL := Lib.hid hbl
      have hul9 : (unk s zs).length ≤ 1000 := by omega
      clear hne hrow hbl hul hwf
      generalize hU0 : unk s zs = U0 at *
      have HU0 := Lib.hid hU0
      clear hU0
      go_upto_region 13 with (first
        | (go_at_call 23
           go_must (
             refine (sort18 HROW.out (by omega) HBL.out.size).mono ?_
             rintro e w3 ⟨rfl, l3, hl3, hm3, hs3, hr3, hb3⟩
             have HR3 := Lib.hid hr3
             have HB3 := Lib.hid (HBL.out.trans (hb3.mono (Nat.le_refl _)))
             have HM3 := Lib.hid hm3
             have HS3 := Lib.hid hs3
             have HL3 := Lib.hid hl3
             clear hr3 hb3 hm3 hs3 hl3))
        | (go_at_call 24
           go_must (
             refine (compact18n HL3.out HR3.out (by omega) HS3.out).mono ?_
             rintro e w4 ⟨U, rfl, hl4, hn4, hm4, hr4, hb4⟩
             have HR4 := Lib.hid hr4
             have HB4 := Lib.hid (HB3.out.trans (hb4.mono (Nat.le_refl _)))
             have HM4 := Lib.hid (show ∀ x, x ∈ U ↔ x ∈ unk s zs from fun x => by rw [HU0.out]; exact (hm4 x).trans (HM3.out x))
             have HN4 := Lib.hid hn4
             have HL4 := Lib.hid hl4
             clear hr4 hb4 hm4 hn4 hl4)))
      rcases U with _ | ⟨x, _ | ⟨y, U⟩⟩
      · have KE := Lib.hid (HE.out w4 _ HB4.out (jn_none HM.out H1.out HNE.out HM4.out))
        go_wp2_with (first
          | (go_at_call 25
             go_must (
               refine (other_any one _).mono ?_
               rintro e w5 ⟨rfl, rfl⟩))
          | (go_at_call 22
             go_must (
               refine (fixed_any (oth one) _).mono ?_
               rintro e w5 ⟨rfl, rfl⟩)))
        go_ret
        exact KE.out
      · have KE := Lib.hid (HE.out w4 _ HB4.out (jn_one HM.out H1.out HNE.out HM4.out))
        obtain ⟨g4, hg4, _, _⟩ := row_form HR4.out (by simp)
        subst hg4
        have hc4 := HR4.out.cellAt 0 (by simp)
        replace hc4 : w4.cell? ⟨g4, 0, none⟩ = some (.int .i64 x) := hc4
        go_wp2
        go_ret
        exact KE.out
      · have hU2 : (x :: y :: U).length = U.length + 2 := rfl
        have hUne : (x :: y :: U) ≠ [] := by simp
        generalize x :: y :: U = UU at *
        obtain ⟨hMJ, hJ⟩ := jn_many HM.out H1.out HNE.out HM4.out HN4.out hUne
        have HMJ := Lib.hid hMJ
        have HJ := Lib.hid hJ
        have h0 : ∀ d ∈ UU, s.val d = 0 := fun d hd => by
          obtain ⟨z, _, hz, rfl⟩ := unk_mem.1 ((HM4.out d).1 hd)
          exact (valI_in hz).2.2
        have H0 := Lib.hid h0
        have g0 : ((UU.length : Int) == 0) = false := beq_eq_false_iff_ne.2 (by omega)
        have g1 : ((UU.length : Int) == 1) = false := beq_eq_false_iff_ne.2 (by omega)
        have hUl : UU.length ≤ 1000 := by have := HL4.out; omega
        have hsn : s.vals.length ≤ 1000 := by have := HSL.out; have := HN.out; omega
        have KA := Lib.hid (add_any (HB.out.stay (Touch.of_new (F := fun _ => False) HB4.out) (fun _ f => f.elim)) (fun x hx => by have := (HM.out.opn x).1 hx; have := HSL.out; omega) hsn ⟨UU.length, one, []⟩ rfl)
        have HLV := Lib.hid (show ∀ k, W.heap.size ≤ k → tag k = 0 from fun k hk => by
          by_cases e : tag k = 0
          · exact e
          · have := HB.out.live k e; omega)
        clear h0 hMJ hJ hUne hU2
        go_wp2_with (first
          | (go_at_call 18
             go_must (
               refine KA.out.mono ?_
               rintro e w5 ⟨rfl, tag5, hB5, hT5, ht5⟩
               have hs4 := HB4.out.size
               have HST5 := Lib.hid (show RelU s one UU A7 c7 W b tag (.int .i64 0) w5 from
                 ⟨0, tag5, rfl, Nat.zero_le _, hB5, (Touch.of_new (F := fun k => tag k ≠ 0) HB4.out).trans hT5 (fun _ _ h => h), fun k hk => ht5 k (by omega),
                  hT5.row HR4.out (fun k hk e => e (HLV.out k (own_lt HR4.out k hk).1)), fun k hk => by
                    obtain ⟨h1, h2⟩ := own_lt HR4.out k hk
                    rw [ht5 k h2]
                    exact HLV.out k h1⟩)
               clear hB5 hT5 ht5)))
        go_loopw [58] (fun v58 wr => RelU s one UU A7 c7 W b tag v58 wr) (fun v58 _ => UU.length - (intOf v58).toNat)
        case atStart => exact HST5.out
        case round =>
          obtain ⟨j, tagj, rfl, hj, hBj, hTj, htj, hrj, h0j⟩ := hrel
          by_cases hjl : j < UU.length
          · have hI : (j : Int) < UU.length := by omega
            obtain ⟨d, hd⟩ : ∃ d, d = UU[j] := ⟨_, rfl⟩
            have hdm : d ∈ UU := by rw [hd]; exact List.getElem_mem hjl
            have hd0 := H0.out d hdm
            have hdn := HM.out.nm hd0
            obtain ⟨t, ht⟩ := HM.out.th hd0
            have hdj : d ∉ UU.take j := by
              intro hm
              obtain ⟨i, hi, e⟩ := List.getElem_of_mem hm
              rw [List.length_take] at hi
              rw [List.getElem_take, hd] at e
              exact (List.pairwise_iff_getElem.1 (List.nodup_iff_pairwise_ne.1 HN4.out) i j (by omega) hjl (by omega)) e
            have hop : (joinK s one UU j).opn d = some t := by
              rw [joinK_opn s one HN4.out, if_neg hdj, addS_opn, if_neg (by have := HSL.out; omega), ht]
            have hul2 := (HM.out.users d t ht).2.1
            obtain ⟨gU, rfl, _, _⟩ := row_form hrj (by omega)
            obtain ⟨_, hcj, _⟩ := row_cell hrj j hjl
            have hgd : UU.getD j 2 = d := by rw [hd]; simp [hjl]
            rw [hgd] at hcj
            obtain ⟨vv, mb, pb, uv, hBR⟩ := hBj
            have b1 := hBR.book.at 1
            simp at b1
            have lk := opm_look hBR.map (z := (d : Int)) (wf_nat (by have := HN.out; omega))
            rw [oI_nat, hop] at lk
            replace lk : (Instr.lookup 42 (.map (some mb)) (.int .i64 d) false).run Try.prog wr = .ok (.pointer (some ⟨pb d, 0, none⟩)) wr := lk
            have lkd : (Instr.lookup 42 (.map (some mb)) (.int .i64 d) false).run Try.prog wr.drew = .ok (.pointer (some ⟨pb d, 0, none⟩)) wr.drew := by
              have := opm_look (w := wr.drew) (hBR.map.stay rfl) (z := (d : Int)) (wf_nat (by have := HN.out; omega))
              rw [oI_nat, hop] at this
              exact this
            have hC := hBR.cell d t hop
            have c2 := hC.at 2
            simp at c2
            have f2 := hC.free 2
            have hur := hBR.urow d t hop
            obtain ⟨Ad, cd, hue, hcd, hmd⟩ := row_slice hur
            have hTc := hBR.tcell d t hop
            have hTu := hBR.turow d t hop
            rw [hue] at c2 hur hTu
            have hn1 : t.users.length ≤ 1000 := by have := HN.out; omega
            have HBR := Lib.hid hBR
            have HC := Lib.hid hC
            have HUR := Lib.hid hur
            have HTC := Lib.hid hTc
            have HTU := Lib.hid hTu
            have HTJ := Lib.hid hTj
            have HT5 := Lib.hid htj
            have HRJ := Lib.hid hrj
            have H0J := Lib.hid h0j
            have HOP := Lib.hid hop
            have HUE := Lib.hid hue
            have HD := Lib.hid hd
            clear hue
            clear hBR hC hur hTc hTu hTj htj hrj h0j hop hdj hdm hgd hd hd0
            have hrd5 : Rd (wr.drew.alloc (.cells #[.int .i64 s.vals.length] 3)) (wr.heap.size + 1) (some ⟨wr.heap.size, 0, none⟩) 1 [.int .i64 s.vals.length] := Rd.of_list (l := [.int .i64 s.vals.length]) (Own.fresh wr.drew _ _) rfl
            have hz5 : 0 ≤ (wr.drew.alloc (.cells #[.int .i64 s.vals.length] 3)).heap.size := Nat.zero_le _
            have hur5 : (wr.drew.alloc (.cells #[.int .i64 s.vals.length] 3)).ownsRow 0 3 1 (.slice Ad t.users.length cd) t.users.length (nums t.users) := (World.ownsRow.drew HUR.out).alloc _
            have HS := Lib.hid (fun (w' : World) (h' : Touch (fun k => (Value.slice Ad t.users.length cd).ownBlock = some k) wr w') => show JnAt b mb (pb d) d (.slice Ad t.users.length cd) w' from
              ⟨h'.own HBR.out.book (fun e => by have h1 := HTU.out _ e; rw [HBR.out.tbook] at h1; omega) |>.at 1, h'.own HC.out (fun e => by have h1 := HTU.out _ e; rw [HTC.out] at h1; omega) |>.at 2 |>.trans (by rw [HUE.out]; rfl),
               (h'.own HC.out (fun e => by have h1 := HTU.out _ e; rw [HTC.out] at h1; omega)).free 2, by
                have := opm_look (w := w') (h'.opm HBR.out.map (fun e => by have h1 := HTU.out _ e; rw [HBR.out.tmap] at h1; omega)) (z := (d : Int)) (wf_nat (by have := HN.out; omega))
                rw [oI_nat, HOP.out] at this
                exact this⟩)
            have HUR5 := Lib.hid (fun (w' : World) (h' : Touch (fun _ => False) wr w') => h'.row HUR.out (fun _ _ f => f))
            have KEY := Lib.hid (fun (Z : World) (hZ : Touch (fun _ => False) wr Z) (v6 : Value) (w6 : World) (hown6 : w6.ownsRow 0 3 1 v6 (t.users.length + 1) (nums t.users ++ [.int .i64 s.vals.length]))
              (hg6' : Z.grownBy w6 (Value.slice Ad t.users.length cd).ownBlock) (hat6 : v6.ownBlock = (Value.slice Ad t.users.length cd).ownBlock ∨ v6.ownBlock = some Z.heap.size) =>
              (show ∃ A6 c6, v6 = .slice A6 (t.users.length + 1) c6 ∧ w6.cell? ⟨b, 1, none⟩ = some (.map (some mb)) ∧ w6.cell? ⟨pb d, 2, none⟩ = some (.slice Ad t.users.length cd) ∧ w6.frozen? ⟨pb d, 2, none⟩ = false ∧
                  (Instr.lookup 42 (.map (some mb)) (.int .i64 d) false).run Try.prog w6 = .ok (.pointer (some ⟨pb d, 0, none⟩)) w6 ∧
                  Hid (RelU s one UU (some ⟨gU, 0, none⟩) c7 W b tag (.int .i64 ((j + 1 : Nat) : Int)) (w6.setCell ⟨pb d, 2, none⟩ (.slice A6 (t.users.length + 1) c6))) from by
                obtain ⟨A6, c6, rfl, _, _⟩ := row_slice hown6
                have hT6 : Touch (fun k => (Value.slice Ad t.users.length cd).ownBlock = some k) wr w6 := (hZ.mono (G := fun k => (Value.slice Ad t.users.length cd).ownBlock = some k) (fun _ _ f => f.elim)).trans (touch_grown hg6') (fun _ _ h => h)
                obtain ⟨b6, c66, f66, lk6⟩ := HS.out w6 hT6
                refine ⟨A6, c6, rfl, b6, c66, f66, lk6, ?_⟩
                have hC6 := hT6.own HC.out (fun e => by have h1 := HTU.out _ e; rw [HTC.out] at h1; omega)
                have hC7 := hC6.put 2 (.slice A6 (t.users.length + 1) c6)
                obtain ⟨w7, hw7⟩ : ∃ w7, w7 = w6.setCell ⟨pb d, 2, none⟩ (.slice A6 (t.users.length + 1) c6) := ⟨_, rfl⟩
                have hT7 : Touch (fun k => k = pb d) w6 w7 := by rw [hw7]; exact touch_set w6 (pb d) 2 _
                rw [← hw7] at hC7
                have hs7 : w7.heap.size = w6.heap.size := by rw [hw7]; simp
                have hvb : (Value.slice A6 (t.users.length + 1) c6).ownBlock = (Value.slice Ad t.users.length cd).ownBlock ∨ ∃ q, (Value.slice A6 (t.users.length + 1) c6).ownBlock = some q ∧ wr.heap.size ≤ q ∧ q < w7.heap.size := by
                  rcases hat6 with e | e
                  · exact .inl e
                  · right
                    refine ⟨_, e, hZ.size, ?_⟩
                    have := (own_lt hown6 _ e).2; omega
                have hpn : (Value.slice A6 (t.users.length + 1) c6).ownBlock ≠ some (pb d) := by
                  rcases hvb with e | ⟨q, e, h1, _⟩
                  · rw [e]; intro e2; have h1 := HTU.out _ e2; rw [HTC.out] at h1; omega
                  · rw [e]; intro e2; injection e2 with e2; have := HC.out.inside; omega
                have hR7 := hT7.row hown6 (fun g hg e => hpn (e ▸ hg))
                obtain ⟨hB7, ht7⟩ := HBR.out.user (r := s.vals.length) (w' := w7) HOP.out (u' := .slice A6 (t.users.length + 1) c6) (F := fun k => k = pb d ∨ (Value.slice Ad t.users.length cd).ownBlock = some k)
                  ((hT6.mono (G := fun k => k = pb d ∨ (Value.slice Ad t.users.length cd).ownBlock = some k) (fun _ _ e => .inr e)).trans (hT7.mono (G := fun k => k = pb d ∨ (Value.slice Ad t.users.length cd).ownBlock = some k) (fun _ _ e => .inl e)) (fun _ _ h => h))
                  (fun k e => by rw [HUE.out]; exact e) hC7 (by rw [nums_app]; exact hR7) (by rw [HUE.out]; exact hvb)
                have hTW : Touch (fun k => tagj k ≠ 0) wr w7 := (hT6.mono (G := fun k => tagj k ≠ 0) (fun k _ e => by rw [HTU.out k e]; omega)).trans (hT7.mono (G := fun k => tagj k ≠ 0) (fun k _ e => by rw [e, HTC.out]; omega)) (fun _ _ h => h)
                have hgU := own_lt HRJ.out gU rfl
                rw [← hw7]
                exact ⟨j + 1, tagU tagj d (.slice A6 (t.users.length + 1) c6), rfl, hjl, by rw [joinK_succ s one UU j hjl, ← HD.out]; exact hB7,
                  HTJ.out.trans hTW (fun k hk e => by rw [← HT5.out k hk]; exact e),
                  fun k hk => by rw [ht7 k (by have := HTJ.out.size; omega)]; exact HT5.out k hk,
                  hTW.row HRJ.out (fun k hk e => e (H0J.out k hk)),
                  fun k hk => by rw [ht7 k (own_lt HRJ.out k hk).2]; exact H0J.out k hk⟩))
            obtain ⟨_, _, _, lk1⟩ := HS.out wr.drew (Touch.refl _ wr).drew
            obtain ⟨b2, c3, f3, lk2⟩ := HS.out (wr.alloc (.cells #[.int .i64 s.vals.length] 3)) ((Touch.refl _ wr).alloc _)
            obtain ⟨b3, c4, f4, lk3⟩ := HS.out (wr.alloc (.cells #[.int .i64 s.vals.length] 3)).drew ((Touch.refl _ wr).alloc _).drew
            obtain ⟨b4, c5, f5, lk4⟩ := HS.out (wr.drew.alloc (.cells #[.int .i64 s.vals.length] 3)) ((Touch.refl _ wr).drew.alloc _)
            clear lkd HS HBR HC HUR HTC HTU HTJ HT5 HRJ H0J HOP HUE HD HST5 HE HMJ HJ H0 KA HLV HR4 HB4 HM4 HN4 HL4 HM HB HR H1 HN H3 HBB HSL HNE HBL HST HU0
            go_wp2
            go_region_law (first
                | (refine step_append_rd rfl (.tmp 76) (.tmp 78) 27 rfl 0 3 i0 _ 8 Try.underlying27 hi hz0 hz1 hz2 rfl (.slice Ad t.users.length cd) t.users.length (nums t.users) rfl (HUR5.out _ (by with_reducible first | exact ((Touch.refl _ wr).alloc _).drew | exact (Touch.refl _ wr).drew.alloc _ | exact (Touch.refl _ wr).alloc _)) _ (some ⟨_, 0, none⟩) 1 1 [.int .i64 s.vals.length] rfl (Rd.of_list (l := [.int .i64 s.vals.length]) (Own.fresh _ _ _) rfl) (nums_one [s.vals.length]) (by unfold maxLen; omega) (by omega) (Nat.zero_le _) ?_
                   intro v6 w6 hown6 hg6' hnil6 hat6
                   obtain ⟨A6, c6, rfl, b6, c66, f66, lk6, HB8⟩ := KEY.out _ (by with_reducible first | exact ((Touch.refl _ wr).alloc _).drew | exact (Touch.refl _ wr).drew.alloc _ | exact (Touch.refl _ wr).alloc _) v6 w6 hown6 hg6' hat6
                   clear hown6 hg6' hnil6 hat6))
            all_goals
              go_wp2
              go_roundw
              case rel => exact HB8.out
              case measure => simp [intOf]; omega
          · have hI : ¬ (j : Int) < UU.length := by omega
            have hje : j = UU.length := by omega
            subst hje
            have HE9 := Lib.hid (show JnEnd nd n s W b tag one zs (.returned (.int .i64 s.vals.length)) wr from
              ⟨s.vals.length, _, _, _, tagj, rfl, hBj, HMJ.out, hTj, htj, by rw [HSL.out]; exact HJ.out⟩)
            clear hBj hTj htj hrj h0j
            go_wp2
            go_ret
            exact HE9.out
end Go.Proofs.Ytfkbmecmancgpaa
