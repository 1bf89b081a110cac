/- Package tree: the walk of Same. -/
import Derived.Test.YthpkcapooeedeaaDoorJ19
import Derived.Deep.CutRange
import Derived.Deep.CutBlock
namespace Go.Proofs.YthpkcapooeedeaaDoor
open Go.RowKit
set_option linter.unusedVariables false

theorem AtSm.last {R : Bool} {W wr : World} {base : Nat} {rest : List Pr} {e : Pr} {v : Value} (h : AtSm R W wr base (rest ++ [e]) v) :
    ∃ g c : Nat, v = .slice (some ⟨g, 0, none⟩) (rest.length + 1) c ∧ rest.length + 1 ≤ c ∧ base ≤ g ∧ g < wr.heap.size ∧ wr.cell? ⟨g, rest.length * 2, none⟩ = some (.pointer (some e.p)) ∧ wr.cell? ⟨g, rest.length * 2 + 1, none⟩ = some (.pointer (some e.q)) ∧
      GRow pairK wr base (.slice (some ⟨g, 0, none⟩) rest.length c) (prRow rest) ∧ PrOk W e ∧ (∀ d ∈ rest, PrOk W d) := by
  have hl : (prRow (rest ++ [e])).length = rest.length + 1 := by simp [prRow]
  obtain ⟨A, c, rfl, hc, _, hg⟩ := h.row.form
  obtain ⟨g, rfl, hb, hlt⟩ := hg (by omega)
  have hr := h.row
  rw [hl] at hc hr ⊢
  have hx : (prRow (rest ++ [e]))[rest.length]? = some (e.p, e.q) := by
    unfold prRow
    rw [List.map_append, List.getElem?_append_right (by simp)]
    simp
  have h0 := (hr.rd).at rfl hx (j := 0) rfl
  have h1 := (hr.rd).at rfl hx (j := 1) rfl
  simp [show pairK.n = 2 from rfl] at h0 h1
  have hcut := hr.cut (k := rest.length) (by omega)
  have e1 : (prRow (rest ++ [e])).take rest.length = prRow rest := by
    unfold prRow
    rw [List.map_append, List.take_append_of_le_length (by simp), List.take_of_length_le (by simp)]
  rw [e1] at hcut
  exact ⟨g, c, rfl, hc, hb, hlt, h0, h1, hcut, h.ok e (by simp), fun d hd => h.ok d (by simp [hd])⟩

theorem bel_drewN {B : Nat} {w w' : World} (h : Below B w w') (q : Nat) : Below B w (w'.drewN q) := ⟨h.os, h.tape, h.output, h.size, h.block⟩

/-- One pair more. -/
theorem AtSk.next {W wr w0 w9 : World} {base pb : Nat} {rest ks : List (Addr × Addr)} {p q : Addr} {k : Nat} {v v9 : Value} {d : Addr × Addr} (h : AtSk W wr base pb rest ks p q k v) (hk : k + 1 ≤ ks.length) (he : ks.take (k + 1) = ks.take k ++ [d]) (hb : Below wr.heap.size wr w0) (hW : W.heap.size ≤ base)
    (row : GRow pairK w9 base v9 (rest ++ ks.take k ++ [d])) (hg : w0.grownBy w9 v.ownBlock) (ha : v9.ownBlock = v.ownBlock ∨ v9.ownBlock = some w0.heap.size) : AtSk W w9 base pb rest ks p q (k + 1) v9 := by
  have hs := hb.size
  have ht : Touch (fun j => v.ownBlock = some j) w0 w9 := (Touch.refl _ w0).grown hg (fun j e => .inl e)
  refine ⟨hk, by rw [he, ← List.append_assoc]; exact row, fun g hg => ?_, ?_, ?_⟩
  · rcases ha with e | e
    · exact h.off g (e ▸ hg)
    · have := h.own.inside
      rw [e] at hg
      injection hg with hg
      omega
  · exact ht.own (h.own.stay hb h.own.inside) (fun e => h.off pb e rfl)
  · have hbs := h.bel.size
    exact (h.bel.trans (hb.mono hbs)).trans (ht.below (fun j _ e => by have := (h.row.low e).1; omega) (by omega))

set_option maxRecDepth 100000 in
set_option maxHeartbeats 8000000 in
theorem same_any (t u : Tree) (x y : V6) (W : World) (hx : VIs W t x) (hy : VIs W u y) (hz : sizeT t ≤ 100000) :
    Calls Tryd.prog 9 #[.agg (v6Cells x).toArray, .agg (v6Cells y).toArray] W fun e w' => e = .returned (.bool (sameT t u)) ∧ Below W.heap.size W w' := by
  obtain ⟨W1, hW1⟩ : ∃ W1, W1 = (W.alloc (.cells (v6Cells x).toArray 27)).alloc (.cells (v6Cells y).toArray 27) := ⟨_, rfl⟩
  have hb1 : Below W.heap.size W W1 := by subst hW1; exact below2 _ _ _
  have hs1 : W1.heap.size = W.heap.size + 2 := by subst hW1; simp
  have o1 : Own W1 W.heap.size 27 (v6Cells x).toArray := by subst hW1; exact (Own.fresh _ _ _).over _
  have o2 : Own W1 (W.heap.size + 1) 27 (v6Cells y).toArray := by
    subst hW1
    have := Own.fresh (W.alloc (.cells (v6Cells x).toArray 27)) 27 (v6Cells y).toArray
    rwa [show (W.alloc (.cells (v6Cells x).toArray 27)).heap.size = W.heap.size + 1 by simp] at this
  have H0 : AtSm (sameT t u) W1 (W1.alloc (.cells #[.pointer (some ⟨W.heap.size, 0, none⟩), .pointer (some ⟨W.heap.size + 1, 0, none⟩)] 65)) W1.heap.size [⟨⟨W.heap.size, 0, none⟩, t, x, ⟨W.heap.size + 1, 0, none⟩, u, y⟩] (.slice (some ⟨W1.heap.size, 0, none⟩) 1 1) := by
    refine ⟨GRow.made (K := pairK) (l := [(⟨W.heap.size, 0, none⟩, ⟨W.heap.size + 1, 0, none⟩)]) W1 _ rfl (by simp [maxLen]) (Nat.le_refl _), fun e he => ?_, (Below.refl _ _).alloc (Nat.le_refl _) _, by simp [prSame]⟩
    obtain rfl : e = _ := by simpa using he
    exact ⟨CellsAt.of_own o1, hx.stay hb1, CellsAt.of_own o2, hy.stay hb1⟩
  have HB1 := Lib.hid hb1
  have HZ := Lib.hid hz
  have HS1 := Lib.hid hs1
  have hp0 : prSize [⟨⟨W.heap.size, 0, none⟩, t, x, ⟨W.heap.size + 1, 0, none⟩, u, y⟩] = sizeT t := by simp [prSize]
  have H0' := Lib.hid (show RelSm (sameT t u) W1 W1.heap.size (sizeT t) (.slice (some ⟨W1.heap.size, 0, none⟩) 1 1) _ from ⟨_, hp0, hz, H0⟩)
  generalize sameT t u = R at *
  generalize sizeT t = z0 at *
  generalize (v6Cells x).toArray = cx at *
  generalize (v6Cells y).toArray = cy at *
  clear hx hy hb1 hs1 o1 o2 H0 hp0 hz
  have e1 : (W.alloc (.cells cx 27)).heap.size = W.heap.size + 1 := by simp
  go_enter Tryd.func9, Tryd.ntmps9
  go_wp2
  rw [← hW1]
  rw [show W.heap.size + 1 + 1 = W1.heap.size by rw [HS1.out]]
  generalize hw3 : World.alloc W1 _ = w3
  rw [hw3] at H0'
  clear hw3 hW1 e1
  go_loopg [5] z0 (fun k v wr => RelSm R W1 W1.heap.size k v wr)
  case atStart => exact H0'.out
  case round =>
    obtain ⟨es, hk, hk9, hat⟩ := hrel
    rcases List.eq_nil_or_concat es with rfl | ⟨rest, e, rfl⟩
    · obtain ⟨A, c, rfl, _⟩ := hat.row.form
      have hR := Lib.hid hat.same
      have hbl := Lib.hid hat.bel
      clear hat hk hk9
      go_wp2
      go_ret
      exact ⟨by rw [hR.out]; rfl, HB1.out.trans (hbl.out.mono (by have := HS1.out; omega))⟩
    · rw [List.concat_eq_append] at hat hk
      obtain ⟨g, c, rfl, hc, hgb, hg, d0, d1, hcut, hoke, hokr⟩ := hat.last
      obtain ⟨ts, us, xs, ys, nt, nu, rA, rB, lt, lu, rn, rm, hse, hsm⟩ := hoke.parts
      have hszr := prSize_app rest [e]
      have hR := hat.same
      rw [prSame_app] at hR
      have hone : prSame [e] = sameT e.t e.u := by simp [prSame]
      have hone2 : prSize [e] = sizeT e.t := by simp [prSize]
      rw [hone, hsm] at hR
      have hrl := prSize_len rest
      have hxn : e.x.n = ts.length := by rw [← rA.1, lt.len]
      have hyn : e.y.n = us.length := by rw [← rB.1, lu.len]
      obtain ⟨cp, _, cq, _⟩ := hoke
      have hbel := hat.bel
      have hnt : nt.length ≤ 1000000 := by omega
      obtain ⟨n1, hn1⟩ : ∃ n, n = rest.length + 1 := ⟨_, rfl⟩
      rw [← hn1]
      have s1 : (n1 : Int) - 1 = (rest.length : Int) := by omega
      have s2 : (0 : Int) ≤ (rest.length : Int) := by omega
      have s3 : (rest.length : Int) < n1 := by omega
      have s4 : (n1 : Int) ≤ 100001 := by omega
      have s5 : (n1 : Int) ≤ c := by omega
      have s6 : (rest.length : Int) ≤ c := by omega
      have s7 : (0 : Int) < (n1 : Int) := by omega
      obtain ⟨w1, hw1⟩ : ∃ w1, w1 = wr.alloc (.cells #[.pointer (some e.p), .pointer (some e.q)] 65) := ⟨_, rfl⟩
      have hbw : Below wr.heap.size wr w1 := by subst hw1; exact (Below.refl _ _).alloc (Nat.le_refl _) _
      have hb2 : Below W1.heap.size W1 w1 := hbel.trans (hbw.mono hbel.size)
      have hsz1 : w1.heap.size = wr.heap.size + 1 := by subst hw1; simp
      have hpo : Own w1 wr.heap.size 65 #[.pointer (some e.p), .pointer (some e.q)] := by subst hw1; exact Own.fresh _ _ _
      have hcut1 := hcut.stay (w' := w1) (fun j hj => hbw.block j (hcut.low hj).2)
      have HA := Lib.hid (alike_any e.x e.y nt nu e.p e.q w1 (cp.below hb2) (cq.below hb2) (rn.below hb2) (rm.below hb2) hnt)
      have p0 := hpo.at 0
      have p1 := hpo.at 1
      simp at p0 p1
      have HR := Lib.hid hR
      have HPO := Lib.hid hpo
      have HB2 := Lib.hid hb2
      have HC1 := Lib.hid hcut1
      have HRL := Lib.hid (show rest.length + sizeT e.t ≤ 100000 by omega)
      have HSZ := Lib.hid (show prSize rest + 1 + nt.length + sizeL ts = gk by omega)
      have HOK := Lib.hid hokr
      have HW1 := Lib.hid hw1
      clear hw1 hR hpo hb2 hcut1 hse hsm hszr hone hone2 hrl hcut hbel hat hn1 hk
      by_cases hal : (decide (e.x.kd = e.y.kd) && decide (e.x.tx = e.y.tx) && decide (nt = nu) && decide (e.x.n = e.y.n)) = true
      · rw [hal] at HA
        have hn : e.x.n = e.y.n := by
          rw [Bool.and_eq_true] at hal
          exact of_decide_eq_true hal.2
        have HT := Lib.hid (show R = (prSame rest && sameL ts us) by
          rw [HR.out]
          rw [Bool.and_eq_true] at hal
          rw [hal.1, Bool.true_and])
        obtain ⟨bA, oA, bB, oB, hAB⟩ : ∃ bA oA bB oB : Nat, 0 < ts.length → e.x.A = some ⟨bA, oA, none⟩ ∧ e.y.A = some ⟨bB, oB, none⟩ := by
          by_cases h0 : 0 < ts.length
          · obtain ⟨bA, oA, e1, _⟩ := rA.2 (by omega)
            obtain ⟨bB, oB, e2, _⟩ := rB.2 (by omega)
            exact ⟨bA, oA, bB, oB, fun _ => ⟨e1, e2⟩⟩
          · exact ⟨0, 0, 0, 0, fun h => absurd h h0⟩
        have hll : ts.length = us.length := by omega
        have hlx : xs.length = ts.length := lt.len
        have hly : ys.length = us.length := lu.len
        obtain ⟨kz, ks, kl⟩ := kids_size bA oA bB oB 0 ts xs us ys hll hlx hly
        have krow := kids_row bA oA bB oB 0 ts xs us ys hll hlx hly
        have kok : ∀ d ∈ kids bA oA bB oB 0 ts xs us ys, PrOk W1 d := kids_ok 0 ts xs us ys lt lu (fun k x hk => by
          have hlt : k < xs.length := (List.getElem?_eq_some_iff.1 hk).1
          obtain ⟨b, o, e1, h⟩ := rA.item hk
          rw [(hAB (by omega)).1] at e1
          injection e1 with e1
          injection e1 with e1 e2
          subst e1 e2
          rwa [Nat.zero_add]) (fun k y hk => by
          have hlt : k < ys.length := (List.getElem?_eq_some_iff.1 hk).1
          obtain ⟨b, o, e1, h⟩ := rB.item hk
          rw [(hAB (by omega)).2] at e1
          injection e1 with e1
          injection e1 with e1 e2
          subst e1 e2
          rwa [Nat.zero_add])
        have KZ := Lib.hid kz
        have KS := Lib.hid ks
        have KL := Lib.hid (show (prRow (kids bA oA bB oB 0 ts xs us ys)).length = ts.length by rw [← kl]; simp [prRow])
        have KR := Lib.hid krow
        have KO := Lib.hid kok
        generalize kids bA oA bB oB 0 ts xs us ys = kd at *
        obtain ⟨b1, o1, hp1, hb1, _, _, _, _, a4, _⟩ := cp.six
        obtain ⟨b2, o2, hp2, hb2, _, _, _, _, c4, _⟩ := cq.six
        have A4 := Lib.hid (fun w (hb : Below W1.heap.size W1 w) => (hb.cell (p := ⟨b1, o1 + 4, none⟩) hb1).trans a4)
        have C4 := Lib.hid (fun w (hb : Below W1.heap.size W1 w) => (hb.cell (p := ⟨b2, o2 + 4, none⟩) hb2).trans c4)
        generalize e.p = pp at *
        generalize e.q = pq at *
        subst hp1 hp2
        clear a4 c4 hb1 hb2
        have tsl : ts.length ≤ 100000 := by
          have := sizeL_len ts
          have := HSZ.out
          omega
        have HOFF := Lib.hid (show wr.heap.size ≠ g by omega)
        have HXN := Lib.hid (show e.x.n = ts.length by omega)
        have HYN := Lib.hid (show e.y.n = ts.length by omega)
        have HAB := Lib.hid hAB
        clear hAB hal kz ks krow kok kl lt lu rA rB rn rm hlx hly cp cq HR hxn hyn
        go_wp2_with (go_at_call 21; rw [← HW1.out]; refine HA.out.mono ?_; rintro e w5 ⟨rfl, q, rfl⟩
                     have HB5 := Lib.hid (show Below W1.heap.size W1 (w1.drewN q) from bel_drewN HB2.out q)
                     have HC5 := Lib.hid (show GRow pairK (w1.drewN q) W1.heap.size _ _ from HC1.out)
                     have HPO5 := Lib.hid (show Own (w1.drewN q) wr.heap.size 65 _ from HPO.out)
                     have a4 := A4.out _ HB5.out
                     have q0 : (w1.drewN q).cell? ⟨wr.heap.size, 0, none⟩ = _ := p0
                     clear p0 p1 HC1 HPO HB2
                     generalize w1.drewN q = w6 at *)
        clear hn hll
        obtain ⟨pb, hpb⟩ : ∃ pb, pb = wr.heap.size := ⟨_, rfl⟩
        rw [← hpb] at HPO5 HOFF q0 ⊢
        clear hpb
        go_loopw [5, 36] (fun v i w => RelSk W1 W1.heap.size pb (prRow rest) (prRow kd) ⟨b1, o1, none⟩ ⟨b2, o2, none⟩ v i w) (fun _ i _ => ts.length - (intOf i).toNat)
        case atStart => exact ⟨0, rfl, Nat.zero_le _, by simpa using HC5.out, (fun g' hg' => by obtain rfl := ownBlock_is hg'; exact Ne.symm HOFF.out), HPO5.out, HB5.out⟩
        case round =>
          obtain ⟨k, rfl, h⟩ := hrel
          obtain ⟨A', c', rfl, hc1', hc2', _⟩ := h.row.form
          have hkl := h.le
          rw [KL.out] at hkl
          have hll := hc1'
          rw [List.length_append, List.length_take, Nat.min_eq_left (by rw [KL.out]; exact hkl)] at hll
          have hrl : (prRow rest).length = rest.length := by simp [prRow]
          have hxn := HXN.out
          have hyn := HYN.out
          by_cases hlt : k < ts.length
          · obtain ⟨eA, eB⟩ := HAB.out (by omega)
            have a4' := A4.out _ h.bel
            have c4' := C4.out _ h.bel
            have p0' := h.own.at 0
            have p1' := h.own.at 1
            simp at p0' p1'
            rw [eA] at a4'
            rw [eB] at c4'
            clear eA eB
            have l1 : (k : Int) < (e.x.n : Int) := by omega
            have l2 : (k : Int) < (e.y.n : Int) := by omega
            have l3 : (0 : Int) ≤ (k : Int) := by omega
            have l4 : (k : Int) < (ts.length : Int) := by omega
            have l5 : (k : Int) ≤ 100000 := by omega
            have hnew : (prRow kd).take (k + 1) = (prRow kd).take k ++ [(⟨bA, oA + k * 6, none⟩, ⟨bB, oB + k * 6, none⟩)] := by
              have e1 := KR.out k hlt
              rw [Nat.zero_add] at e1
              rw [List.take_add_one, e1]
              rfl
            have hbw2 : Below wr.heap.size wr (wr.alloc (.cells #[.pointer (some ⟨bA, oA + k * 6, none⟩), .pointer (some ⟨bB, oB + k * 6, none⟩)] 65)).drew := ((Below.refl _ _).alloc (Nat.le_refl _) _).drew
            have ROW := Lib.hid (h.row.stay (fun j hj => hbw2.block j (h.row.low hj).2))
            have NEW := Lib.hid (show RdG pairK (wr.alloc (.cells #[.pointer (some ⟨bA, oA + k * 6, none⟩), .pointer (some ⟨bB, oB + k * 6, none⟩)] 65)).drew (some ⟨wr.heap.size, 0, none⟩) 1 [(⟨bA, oA + k * 6, none⟩, ⟨bB, oB + k * 6, none⟩)] from (GRow.made (K := pairK) (base := 0) (l := [(⟨bA, oA + k * 6, none⟩, ⟨bB, oB + k * 6, none⟩)]) wr #[.pointer (some ⟨bA, oA + k * 6, none⟩), .pointer (some ⟨bB, oB + k * 6, none⟩)] rfl (by simp [maxLen]) (Nat.zero_le _)).rd)
            have HNEW := Lib.hid hnew
            have HI := Lib.hid h
            have HB2 := Lib.hid hbw2
            have HLL := Lib.hid hll
            have hrs := HRL.out
            have hsp := sizeT_pos e.t
            have hgrow : (prRow rest ++ (prRow kd).take k).length + 1 ≤ 1000000000 := by
              rw [List.length_append, List.length_take, Nat.min_eq_left (by rw [KL.out]; exact hkl)]
              omega
            have HGR := Lib.hid hgrow
            clear h hnew hbw2 hll hrs hsp hgrow hxn hyn hrl hc1' hc2'
            generalize hL9 : prRow rest ++ (prRow kd).take k = L9 at *
            have HL9 := Lib.hid hL9
            have l6 : (L9.length : Int) ≤ 1000000000 := by have := HGR.out; omega
            clear hL9
            go_upto_block 3 with fail
            go_cut [5, 7] from 38 to 56 (fun v _ wc => AtSk W1 wc W1.heap.size pb (prRow rest) (prRow kd) ⟨b1, o1, none⟩ ⟨b2, o2, none⟩ (k + 1) v)
            case first =>
              go_wp2
              go_region_law (
                (refine step_row_app (KK := pairK) rfl (.tmp 39) (.tmp 55) rfl W1.heap.size _ L9 rfl ROW.out _ 1 1 [(⟨bA, oA + k * 6, none⟩, ⟨bB, oB + k * 6, none⟩)] rfl NEW.out HGR.out (by have := HI.out.bel.size; have := HB2.out.size; omega) ?_
                 intro v9 w9 row9 grown9 at9
                 have HR9 := Lib.hid row9
                 have HG9 := Lib.hid grown9
                 have HA9 := Lib.hid at9
                 clear row9 grown9 at9))
              all_goals
                go_wp2
                go_meet
                case rel => exact HI.out.next (by rw [KL.out]; exact hlt) HNEW.out HB2.out (Nat.le_refl _) (by rw [HL9.out]; exact HR9.out) HG9.out HA9.out
            case rest =>
              have HC := Lib.hid hcut
              clear hcut
              go_wp2
              go_roundw
              case rel => exact ⟨k + 1, by go_num, HC.out⟩
              case measure => simp [intOf]; omega
          · have hke : k = ts.length := by omega
            subst hke
            have hall : (prRow kd).take ts.length = prRow kd := List.take_of_length_le (by rw [KL.out]; exact Nat.le_refl _)
            have hrw := h.row
            have hl9 : ((prRow rest ++ (prRow kd).take ts.length).length : Int) ≤ 1000000000 := by
              rw [List.length_append, List.length_take, Nat.min_eq_left (by rw [KL.out]; exact Nat.le_refl _)]
              have := HRL.out
              have := sizeT_pos e.t
              omega
            generalize (prRow rest ++ (prRow kd).take ts.length).length = m9 at *
            have HRW := Lib.hid (show GRow pairK wr W1.heap.size (.slice A' m9 c') (prRow (rest ++ kd)) by
              rw [hall] at hrw
              unfold prRow at hrw ⊢
              rw [List.map_append]
              exact hrw)
            clear hrw
            have HBW := Lib.hid h.bel
            have no1 : ¬ (ts.length : Int) < (e.y.n : Int) := by omega
            have no2 : ¬ (ts.length : Int) < (e.x.n : Int) := by omega
            clear h hall hll hc1' hc2' hrl hkl hxn hyn
            go_wp2
            go_roundg (prSize rest + prSize kd)
            case measure => have := HSZ.out; have := KZ.out; omega
            case rel => exact ⟨rest ++ kd, prSize_app _ _, by have := HSZ.out; have := KZ.out; omega, HRW.out, (fun d hd => (List.mem_append.1 hd).elim (HOK.out d) (KO.out d)), HBW.out, by rw [prSame_app, HT.out, KS.out]⟩
      · have hal : (decide (e.x.kd = e.y.kd) && decide (e.x.tx = e.y.tx) && decide (nt = nu) && decide (e.x.n = e.y.n)) = false := by simpa using hal
        have HF := Lib.hid (show R = false by
          rw [HR.out]
          by_cases h4 : e.x.n = e.y.n
          · rw [decide_eq_true h4, Bool.and_true] at hal
            rw [hal]
            simp
          · rw [sameL_len ts us (by omega)]
            simp)
        rw [hal] at HA
        clear hal
        go_wp2_with (go_at_call 21; rw [← HW1.out]; refine HA.out.mono ?_; rintro e w5 ⟨rfl, q, rfl⟩)
        go_ret
        refine ⟨by rw [HF.out]; rfl, ?_⟩
        have h1 := HB1.out
        have h2 := HB2.out
        have h3 := HS1.out
        exact h1.trans ((show Below W1.heap.size W1 (w1.drewN q) from ⟨h2.os, h2.tape, h2.output, h2.size, h2.block⟩).mono (B' := W.heap.size) (by omega))

end Go.Proofs.YthpkcapooeedeaaDoor
