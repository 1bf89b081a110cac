/- A book: settle. -/
import Derived.Test.YtfkbmecmancgpaaStl
namespace Go.Proofs.Ytfkbmecmancgpaa
open Go.RowKit
set_option linter.unusedVariables false
set_option linter.unusedSimpArgs false

theorem Touch.trans_new {F G : Nat → Prop} {w w' w'' : World} (h : Touch F w w') (g : Touch G w' w'') (hs : ∀ k, G k → w.heap.size ≤ k) : Touch F w w'' :=
  h.trans g (fun k hk hg => absurd (hs k hg) (by omega))
theorem own_lt {w : World} {base : Nat} {e : TypeId} {v : Value} {n : Nat} {xs : List Value} (h : w.ownsRow base e 1 v n xs) : ∀ k, v.ownBlock = some k → base ≤ k ∧ k < w.heap.size := h.lt
theorem nodup_len : ∀ (n : Nat) {l : List Nat}, l.Nodup → (∀ y ∈ l, y < n) → l.length ≤ n
  | 0, l, _, h => by
    cases l with
    | nil => simp
    | cons a l => have := h a (by simp); omega
  | n + 1, l, hn, h => by
    have h1 : (l.erase n).Nodup := hn.erase n
    have h2 : ∀ y ∈ l.erase n, y < n := by
      intro y hy
      have := (List.Nodup.mem_erase_iff hn).1 hy
      have := h y this.2
      omega
    have h3 := nodup_len n h1 h2
    have h4 := List.length_erase (a := n) (l := l)
    split at h4 <;> omega

set_option maxRecDepth 100000 in
set_option maxHeartbeats 16000000 in
theorem settle_any {nd : Nat → Nd18} {n : Nat} {s0 : St18} (hm : Mid18 nd n s0 [] none) (x v : Nat) (hx : nd x = .var) (h0 : s0.val x = 0) (hv : v = 1 ∨ v = 2) (hn : n ≤ 1000) (W : World) (b : Nat) (tag : Nat → Nat) (h : Bk W b tag s0) :
    Calls Try.prog 20 #[.pointer (some ⟨b, 0, none⟩), .int .i64 x, .int .i64 v] W fun e w' =>
      e = .returned (.tuple #[]) ∧ ∃ s, Bk w' b tag s ∧ Mid18 nd n s [] none ∧ Went18 nd s0 s x v ∧ Touch (fun k => tag k ≠ 0) W w' := by
  obtain ⟨i0, hi, hz0, hz1, hz2⟩ := info_parts int_info
  have hxn : x < n := hm.nm h0
  have hlen := hm.len
  have HLV := Lib.hid (show ∀ k, tag k ≠ 0 → k < W.heap.size from h.live)
  obtain ⟨vv, mb, pb, uv, h⟩ := h
  obtain ⟨g, c, rfl, hc, hcm⟩ := h.addr (by omega)
  have b0 := h.book.at 0
  simp at b0
  obtain ⟨_, gc, gf⟩ := row_cell h.row x (by omega)
  obtain ⟨hB1, hT1⟩ := h.value x v
  obtain ⟨hM1, hE1⟩ := hm.start hx h0 hv
  have hw8 : IntKind.u8.wrap (v : Int) = v := by unfold IntKind.wrap; simp [IntKind.bits, IntKind.signed]; omega
  have hst : RelO nd n s0 x v W b tag (opnN (s0.setVal x v) n) (.slice (some ⟨W.heap.size, 0, none⟩) 1 1) ((W.setCell ⟨g, x, none⟩ (.int .u8 (v : Int))).alloc (.cells #[.int .i64 x] 3)) := by
    have hs : (W.setCell ⟨g, x, none⟩ (.int .u8 (v : Int))).heap.size = W.heap.size := by simp
    refine ⟨[x], s0.setVal x v, ⟨_, _, _, _, hB1.stay ((Touch.refl (fun _ => False) _).alloc _) (fun _ f => f.elim)⟩, hM1, ⟨hE1, ?_, ?_⟩, ?_, ?_, rfl⟩
    · rw [val_setVal (by omega), if_pos rfl]
    · intro y hy hne
      rw [val_setVal (by omega), if_neg hne]
    · exact (hT1.mono (fun k _ e => by rw [e]; decide)).alloc _
    · have := World.ownsRow_lit (base := W.heap.size) (e := 3) (size := 1) (W.setCell ⟨g, x, none⟩ (.int .u8 (v : Int))) #[.int .i64 x] 1 (by rw [hs]; exact Nat.le_refl _) (by unfold maxLen; omega) rfl
      rw [hs] at this
      exact this
  have HST := Lib.hid hst
  have HX := Lib.hid hx
  have HN := Lib.hid hn
  have HV := Lib.hid hv
  generalize opnN (s0.setVal x v) n = k0 at *
  clear hst h hB1 hT1 hM1 hE1 hm
  go_enter Try.func20, Try.ntmps20
  go_wp2
  have HST2 := HST
  clear HST
  generalize (W.setCell ⟨g, x, none⟩ (.int .u8 (v : Int))).alloc _ = wS at *
  clear b0 gc gf
  go_loopg [6] k0 (fun k v6 wr => RelO nd n s0 x v W b tag k v6 wr)
  case atStart => exact HST2.out
  case round =>
    obtain ⟨K, s, hB, hM, hW, hT, hr, hk⟩ := hrel
    rcases List.eq_nil_or_concat K with rfl | ⟨K', y, rfl⟩
    · obtain ⟨A, c6, rfl, _⟩ := row_slice hr
      have HE := Lib.hid (show ∃ s, Bk wr b tag s ∧ Mid18 nd n s [] none ∧ Went18 nd s0 s x v ∧ Touch (fun k => tag k ≠ 0) W wr from ⟨s, hB, hM, hW, hT⟩)
      clear hB hM hW hT hr hk
      go_wp2
      go_end0
      exact ⟨rfl, HE.out⟩
    · rw [List.concat_eq_append] at hM hr
      obtain ⟨th, hth, hM2⟩ := hM.pop
      obtain ⟨hyn, hy0⟩ := hM.kv y (by simp)
      have hKl : K'.length ≤ n := nodup_len n (List.nodup_append.1 hM.kn).1 (fun z hz => (hM.kv z (by simp [hz])).1)
      have hul : th.users.length ≤ n := (hM.users y th hth).2.1
      have hsl := hM.len
      obtain ⟨A, c6, rfl, hc6, hm6⟩ := row_slice hr
      obtain ⟨g6, rfl, hg6, hg6l⟩ := row_form hr (by simp)
      have hr' := hr
      rw [nums_app, List.length_append, List.length_singleton] at hr'
      have hc1 := hr'.cellAt K'.length (by omega)
      rw [List.getElem?_append_right (by rw [nums_len]; exact Nat.le_refl _), nums_len, Nat.sub_self] at hc1
      replace hc1 : wr.cell? ⟨g6, K'.length, none⟩ = some (.int .i64 y) := hc1
      have hrp := row_pop hr' (nums_len _)
      obtain ⟨vv2, mb2, pb2, uv2, hBR⟩ := hB
      have b1 := hBR.book.at 1
      simp at b1
      have lk := opm_look hBR.map (z := (y : Int)) (wf_nat (by omega))
      rw [oI_nat, hth] at lk
      replace lk : (Instr.lookup 42 (.map (some mb2)) (.int .i64 y) false).run Try.prog wr = .ok (.pointer (some ⟨pb2 y, 0, none⟩)) wr := lk
      have c2 := (hBR.cell y th hth).at 2
      simp at c2
      have hur := hBR.urow y th hth
      have hut := hBR.turow y th hth
      obtain ⟨Au, cu, hue, hcu, hmu⟩ := row_slice hur
      rw [hue] at c2 hur hut
      have hopm := hBR.map
      rw [hsl] at hopm
      obtain ⟨n1, hn1⟩ : ∃ m, m = K'.length + 1 := ⟨_, rfl⟩
      rw [show (K' ++ [y]).length = n1 by rw [hn1]; simp] at *
      have s1 : (n1 : Int) - 1 = (K'.length : Int) := by omega
      have s2 : (0 : Int) ≤ (K'.length : Int) := by omega
      have s3 : (K'.length : Int) < n1 := by omega
      have s4 : (n1 : Int) ≤ 1001 := by omega
      have s5 : (n1 : Int) ≤ c6 := by omega
      have s6 : (K'.length : Int) ≤ c6 := by omega
      have s7 : (0 : Int) < (n1 : Int) := by omega
      have hko := opnN_less hyn (show (s.opn y).isSome = true by rw [hth]; rfl)
      rw [hk] at hko
      have HKO := Lib.hid hko
      have HT := Lib.hid hT
      have HW := Lib.hid hW
      have HM2 := Lib.hid hM2
      have HBR := Lib.hid hBR
      have HRP := Lib.hid hrp
      have HUR := Lib.hid hur
      have HUT := Lib.hid hut
      have HOP := Lib.hid hopm
      have HSL := Lib.hid hsl
      have HY0 := Lib.hid hy0
      have HK := Lib.hid hKl
      clear hko hT hW hM2 hBR hrp hur hut hopm hM hr hr' hk hsl hth hue hn1 hy0 hKl
      have hyc : (y : Int) ≤ 1000 := by omega
      go_wp2_with (first
        | (at_delete
           go_must (
             refine wpList_del_opm _ rfl (.tmp 46) (.tmp 47) rfl mb2 n _ rfl HOP.out y rfl (by omega) ?_
             intro w1 hopm1 hgr1
             obtain ⟨hBd, hTd⟩ := HBR.out.strike y (by rw [HSL.out]; exact hopm1) hgr1
             have HTW := Lib.hid (show Touch (fun k => tag k ≠ 0) W w1 from HT.out.trans (hTd.mono (G := fun k => tag k ≠ 0) (fun k _ e => by rw [e]; decide)) (fun _ _ h => h))
             have HBD := Lib.hid hBd
             have HRK := Lib.hid (hTd.row HRP.out (fun k hk e => by
               have h1 := (own_lt HRP.out k hk).1
               have h2 := HLV.out k (by rw [e]; decide)
               omega))
             have HRU := Lib.hid (hTd.row HUR.out (fun k hk e => by have := HUT.out k hk; omega))
             have HSI := Lib.hid (show RelI nd n s0 x v W b tag (opnN (s.setOpn y none) n) y th.users g6 cu Au (.slice (some ⟨g6, 0, none⟩) K'.length c6) (.int .i64 0) w1 from
               ⟨0, K', s.setOpn y none, rfl, Nat.zero_le _, ⟨_, _, _, _, HBD.out⟩, HM2.out, ⟨HW.out.ext, HW.out.set, HW.out.var⟩, HTW.out, HRK.out, rfl, HRU.out⟩)
             clear hopm1 hgr1 hBd hTd)))
      generalize opnN (s.setOpn y none) n = k1 at *
      generalize th.users = us at *
      clear lk c2 hc1 b1
      go_loopw [6, 50] (fun v6 v50 wr => RelI nd n s0 x v W b tag k1 y us g6 cu Au v6 v50 wr) (fun _ v50 _ => us.length - (intOf v50).toNat)
      case atStart => exact HSI.out
      case round =>
        obtain ⟨j, K2, s2, rfl, hj, hB2, hM2, hW2, hT2, hr2, hk2, hu2⟩ := hrel
        by_cases hjl : j < us.length
        · have hI : (j : Int) < us.length := by omega
          have hd : us.drop j = us[j] :: us.drop (j + 1) := List.drop_eq_getElem_cons hjl
          obtain ⟨u, hu⟩ : ∃ u, u = us[j] := ⟨_, rfl⟩
          rw [← hu] at hd
          rw [hd] at hM2
          obtain ⟨_, hy2, _, _, hcz⟩ := hM2.cur y _ rfl
          obtain ⟨hun, o, ds, hju, _⟩ := hcz u (by simp)
          have hoo := hM2.made.one u hun o ds hju
          have h3 : ∀ z, s2.val z ≤ 2 := fun z => by have := hM2.v3 z; omega
          have hpre : s2.val u = 0 → ∃ th, s2.opn u = some th ∧ 0 < th.left ∧ th.left ≤ 1000 ∧ th.one ≤ 2 := by
            intro hz
            obtain ⟨t2, ht2⟩ := hM2.th hz
            obtain ⟨e1, _, e3, e4, _⟩ := hM2.left u t2 ht2 hz o ds hju
            exact ⟨t2, ht2, e3, by have := HN.out; omega, by omega⟩
          have hsl2 := hM2.len
          have hKl2 : K2.length ≤ n := nodup_len n hM2.kn (fun z hz => (hM2.kv z hz).1)
          obtain ⟨hM3, hE3, hV3, hO3⟩ := hM2.hear
          have KV := Lib.hid (value_any hB2 h3 y)
          rw [valI_nat] at KV
          have KH := Lib.hid (hear_any hB2 h3 u (s2.val y) (by omega) (by have := HN.out; omega) (h3 y) hpre)
          obtain ⟨gu, rfl, _, _⟩ := row_form hu2 (by omega)
          obtain ⟨_, hcu1, _⟩ := row_cell hu2 j hjl
          have hgd : us.getD j 2 = u := by rw [hu]; simp [hjl]
          rw [hgd] at hcu1
          obtain ⟨A6, c9, rfl, hc9, hm9⟩ := row_slice hr2
          have HM3 := Lib.hid hM3
          have HW3 := Lib.hid (hW2.on (by have := HV.out; omega) hE3 hV3)
          have HO3 := Lib.hid ((opnN_same (n := n) hO3).trans hk2)
          have HT2 := Lib.hid hT2
          have HR2 := Lib.hid hr2
          have HU2 := Lib.hid hu2
          have HK2 := Lib.hid hKl2
          have hun2 : u ≤ 1000 := by have := HN.out; omega
          clear hM3 hW2 hE3 hV3 hO3 hT2 hr2 hu2 hKl2 hM2 hB2 hpre h3 hju hcz hoo hk2 hd hu hgd
          have HF := Lib.hid (fun w5 (ht : Touch (fun k => tag k = 2 ∨ tag k = 2 * u + 4) wr w5) =>
            (show Touch (fun k => tag k ≠ 0) W w5 from HT2.out.trans (ht.mono (G := fun k => tag k ≠ 0) (fun k _ e => by omega)) (fun _ _ h => h)))
          have HR5 := Lib.hid (fun w5 (ht : Touch (fun k => tag k = 2 ∨ tag k = 2 * u + 4) wr w5) => ht.row HR2.out (fun k hk e => by
            have h1 := (own_lt HR2.out k hk).1
            have h2 := HLV.out k (by omega)
            omega))
          have HU5 := Lib.hid (fun w5 (ht : Touch (fun k => tag k = 2 ∨ tag k = 2 * u + 4) wr w5) => ht.row HU2.out (fun k hk e => by have := HUT.out k hk; omega))
          generalize hres : hearS s2 u (s2.val y) = res at *
          obtain ⟨ans, s3⟩ := res
          replace HM3 : Hid (Mid18 nd n s3 (if ans = true then K2 ++ [u] else K2) (some (y, us.drop (j + 1)))) := HM3
          replace HW3 : Hid (Went18 nd s0 s3 x v) := HW3
          replace HO3 : Hid (opnN s3 n = k1) := HO3
          replace KH : Hid (Calls Try.prog 26 #[.pointer (some ⟨b, 0, none⟩), .int .i64 u, .int .i64 (s2.val y)] wr fun e w' => e = .returned (.bool ans) ∧ Bk w' b tag s3 ∧ Touch (fun k => tag k = 2 ∨ tag k = 2 * u + 4) wr w') := KH
          clear hres
          cases ans
          · go_wp2_with (first
              | (go_at_call 16
                 go_must (
                   refine KV.out.mono ?_
                   rintro e w3 ⟨rfl, rfl⟩))
              | (go_at_call 26
                 go_must (
                   refine KH.out.mono ?_
                   rintro e w5 ⟨rfl, hB5, hT5⟩
                   have HB5 := Lib.hid (show RelI nd n s0 x v W b tag k1 y us g6 cu (some ⟨gu, 0, none⟩) (.slice A6 K2.length c9) (.int .i64 ((j + 1 : Nat) : Int)) w5 from
                     ⟨j + 1, K2, s3, rfl, hjl, hB5, HM3.out, HW3.out, HF.out w5 hT5, HR5.out w5 hT5, HO3.out, HU5.out w5 hT5⟩)
                   clear hB5 hT5)))
            go_roundw
            case rel => exact HB5.out
            case measure => simp [intOf]; omega
          · go_wp2_with (first
              | (go_at_call 16
                 go_must (
                   refine KV.out.mono ?_
                   rintro e w3 ⟨rfl, rfl⟩))
              | (go_at_call 26
                 go_must (
                   refine KH.out.mono ?_
                   rintro e w5 ⟨rfl, hB5, hT5⟩
                   have hrw5 := HR5.out w5 hT5
                   have hrd5 : Rd (w5.alloc (.cells #[.int .i64 u] 3)) (w5.heap.size + 1) (some ⟨w5.heap.size, 0, none⟩) 1 [.int .i64 u] := Rd.of_list (l := [.int .i64 u]) (Own.fresh _ _ _) rfl
                   have hz5 : W.heap.size ≤ (w5.alloc (.cells #[.int .i64 u] 3)).heap.size := by have := (HF.out w5 hT5).size; simp; omega
                   have HB5 := Lib.hid hB5
                   have HU6 := Lib.hid (HU5.out w5 hT5)
                   have HF6 := Lib.hid (HF.out w5 hT5)
                   have hn6 : K2.length ≤ 1000 := by have := HK2.out; have := HN.out; omega
                   clear hB5 hT5))
              | (at_builtin
                 go_must (
                   refine wpList_append_rd _ rfl (.tmp 60) (.tmp 62) _ rfl W.heap.size 3 i0 _ 8 Try.underlying27 hi hz0 hz1 hz2 rfl (.slice A6 K2.length c9) K2.length (nums K2) rfl (hrw5.alloc _) (w5.heap.size + 1) (some ⟨w5.heap.size, 0, none⟩) 1 1 [.int .i64 u] rfl hrd5 (nums_one [u]) (by unfold maxLen; omega) (by omega) hz5 ?_
                   intro v6 w6 hown6 hg6' hnil6 hat6
                   have hT6 : Touch (fun k => (Value.slice A6 K2.length c9).ownBlock = some k) w5 w6 := (Touch.refl (fun k => (Value.slice A6 K2.length c9).ownBlock = some k) w5).alloc _ |>.trans (touch_grown hg6') (fun _ _ h => h)
                   have hz : ∀ k, (Value.slice A6 K2.length c9).ownBlock = some k → tag k = 0 := fun k hk => by
                     have h1 := (own_lt HR2.out k hk).1
                     by_cases e : tag k = 0
                     · exact e
                     · have h2 := HLV.out k e; omega
                   have HB6 := Lib.hid (show RelI nd n s0 x v W b tag k1 y us g6 cu (some ⟨gu, 0, none⟩) v6 (.int .i64 ((j + 1 : Nat) : Int)) w6 from
                     ⟨j + 1, K2 ++ [u], s3, rfl, hjl, HB5.out.stay hT6 hz, HM3.out, HW3.out, HF6.out.trans_new hT6 (fun k hk => (own_lt HR2.out k hk).1), by rw [nums_app, List.length_append]; exact hown6, HO3.out, hT6.row HU6.out (fun k hk e => by have h1 := HUT.out k hk; have h2 := hz k e; omega)⟩)
                   clear hown6 hg6' hnil6 hat6 hT6 hz)))
            go_roundw
            case rel => exact HB6.out
            case measure => simp [intOf]; omega
        · have hI : ¬ (j : Int) < us.length := by omega
          have hje : j = us.length := by omega
          rw [hje, List.drop_length] at hM2
          obtain ⟨A6, c9, rfl, _⟩ := row_slice hr2
          have HR9 := Lib.hid (show RelO nd n s0 x v W b tag k1 (.slice A6 K2.length c9) wr from ⟨K2, s2, hB2, hM2.done, hW2, hT2, hr2, hk2⟩)
          clear hB2 hM2 hW2 hT2 hr2 hk2 hu2 hje
          go_wp2
          go_roundg k1
          case measure => exact HKO.out
          case rel => exact HR9.out
end Go.Proofs.Ytfkbmecmancgpaa
