/- The walk of NestPairs, over what the program's nest is proved to do. -/
import Derived.Test.YtpjdmhfineeimaaDoorJ18
namespace Go.Proofs.YtpjdmhfineeimaaDoor
open Go.RowKit
set_option linter.unusedVariables false

set_option maxRecDepth 100000 in
set_option maxHeartbeats 8000000 in
theorem nestPairs_core (C : NestC) (hA : AllN Tab) (hV : ∀ w, Tab w → Calls Tryd.prog 4 #[] w fun e w' => e = .returned (.bool true) ∧ Below w.heap.size w w')
    (A : Option Addr) (len cap : Nat) (l : List UInt8) (d : Int) (hd0 : 0 ≤ d) (hd9 : d ≤ 255) (W : World) (hT : Tab W) (hx : Rd W W.heap.size A len (byteCells l)) :
    Calls Tryd.prog 3 #[.slice A len cap, .int .u8 d] W fun e w' => e = .returned (.bool true) ∧ Below W.heap.size W w' := by
  have KV := Lib.hid hV
  have h0 : 0 < W.heap.size := hT.elim fun _ h => h.inside
  by_cases h2 : 2000 < (len : Int)
  · clear hA
    go_enter Tryd.func3, Tryd.ntmps3
    go_wp2_with (first
      | (go_at_call 4; refine (KV.out _ hT).mono ?_; rintro e w1 ⟨rfl, hb1⟩))
    go_ret
    exact ⟨rfl, hb1⟩
  have h2' : (len : Int) ≤ 2000 := by omega
  have KA := Lib.hid (fun w h1 h2 => hA A len cap l w h1 (by omega) h2)
  have KN := Lib.hid (fun w => C.new d w (by omega) (by omega))
  obtain ⟨sE, hsp, hse1, hse2, hse3⟩ := lexR_spans l
  obtain ⟨pE, hwf⟩ := lexR_wf l
  generalize lexR l = r at *
  obtain ⟨ts, kd, av⟩ := r
  have HSP := Lib.hid (show Spans l ts (0, none) sE from hsp)
  have HWF := Lib.hid (show WfTo ts none pE from hwf)
  clear hsp hwf hA hse1 hse2 hse3 hV
  go_enter Tryd.func3, Tryd.ntmps3
  go_wp2_with (first
    | (go_at_call 4; refine (KV.out _ hT).mono ?_; rintro e w1 ⟨rfl, hb1⟩; have hT1 := hT.stay hb1 h0)
    | (go_at_call 5; refine (KN.out _).mono ?_; rintro e w2 ⟨b0, rfl, hst, hb2⟩
       have hz1 := hb1.size
       have hb12 := hb1.trans (hb2.mono hz1)
       have hT2 := hT1.stay hb2 (by omega)
       have hx2 := (hx.stay hb12).more hb12.size
       have HS := Lib.hid hst
       clear hst)
    | (go_at_call 6; refine (KA.out _ hx2 hT2).mono ?_; rintro e w3 ⟨v, rfl, htk, hb3, hnw⟩
       obtain ⟨A2, c2, rfl, hc1, hc2, hcell⟩ := htk
       have HC := Lib.hid hcell
       have HNW := Lib.hid hnw
       clear hcell hnw))
  have z3 := hb3.size
  have z2 := hb2.size
  have hbt : ∃ bt o : Nat, bt ≤ w3.heap.size ∧ w2.heap.size ≤ bt ∧ (0 < ts.length → A2 = some ⟨bt, o, none⟩ ∧ bt < w3.heap.size ∧ ∀ (i : Nat) (t : Tok), ts[i]? = some t →
    w3.cell? ⟨bt, o + i * 5, none⟩ = some (.int .i64 t.kind) ∧ w3.cell? ⟨bt, o + i * 5 + 1, none⟩ = some (.bool t.begun) ∧ w3.cell? ⟨bt, o + i * 5 + 2, none⟩ = some (.int .i64 t.fr) ∧
    w3.cell? ⟨bt, o + i * 5 + 3, none⟩ = some (.int .i64 t.to) ∧ w3.cell? ⟨bt, o + i * 5 + 4, none⟩ = some (.string ⟨t.text.toArray⟩)) := by
    by_cases hp : 0 < ts.length
    · obtain ⟨bt, o, e, h1, h2⟩ := HC.out hp
      exact ⟨bt, o, by omega, HNW.out bt (by rw [e]; rfl), fun _ => ⟨e, h1, h2⟩⟩
    · exact ⟨w3.heap.size, 0, Nat.le_refl _, z3, fun h => absurd h hp⟩
  obtain ⟨bt, o, hbt1, hbt2, hbt⟩ := hbt
  have HBT := Lib.hid hbt
  have hB3 : Below W.heap.size W w3 := hb12.trans (hb3.mono hb12.size)
  have hz3 := hB3.size
  have HB3 := Lib.hid hB3
  clear hbt hB3 HC HNW
  generalize hw4 : World.alloc (World.alloc (World.alloc w3 _) _) _ = w4
  have H4 : AtTok C l ts sE pE W w4 w4 bt b0 (w3.heap.size + 1) (newN d).most (.slice (some ⟨w3.heap.size + 1, 0, none⟩) 0 0) (.slice (some ⟨w3.heap.size + 1 + 1, 0, none⟩) 1 1) 0 (0, none) none (newN d) (fun j => w1.heap.size ≤ j ∧ j < w2.heap.size) ∧ Below w3.heap.size w3 w4 ∧ w3.heap.size + 3 = w4.heap.size := by
    subst hw4
    have e1 : (w3.alloc (.cells #[.int .i64 kd, .int .i64 av] 28)).heap.size = w3.heap.size + 1 := by simp
    have e2 : ((w3.alloc (.cells #[.int .i64 kd, .int .i64 av] 28)).alloc (.cells #[] 40)).heap.size = w3.heap.size + 1 + 1 := by simp
    have b1 : Below w3.heap.size w3 (w3.alloc (.cells #[.int .i64 kd, .int .i64 av] 28)) := below1 _ _
    have b2 : Below w3.heap.size w3 ((w3.alloc (.cells #[.int .i64 kd, .int .i64 av] 28)).alloc (.cells #[] 40)) := below2 _ _ _
    have b3 : Below w3.heap.size w3 (((w3.alloc (.cells #[.int .i64 kd, .int .i64 av] 28)).alloc (.cells #[] 40)).alloc (.cells #[.int .i64 0] 3)) := b2.alloc b2.size _
    refine ⟨⟨Nat.zero_le _, InvN.start d, (fun o ho => by cases ho), ?_, ?_, ?_, ?_, ?_, ?_, HB3.out.trans (b3.mono hz3), rfl, HSP.out, HWF.out, rfl⟩, b3, by simp⟩
    · refine C.stay (F := fun j => w1.heap.size ≤ j ∧ j < w2.heap.size) (G := fun j => w2.heap.size ≤ j) ?_ (Touch.of_below ((hb3.trans (b3.mono z3))) (fun _ _ h => h)) (fun j _ h g => by omega)
      exact C.mono HS.out (fun j hj h => ⟨h, hj⟩)
    · intro j ⟨h1, h2⟩
      refine ⟨by omega, by simp; omega, by omega⟩
    · rw [(evs_start d).1]
      have := GRow.made (K := evK) (l := []) (base := w3.heap.size + 1) (w3.alloc (.cells #[.int .i64 kd, .int .i64 av] 28)) #[] rfl (by decide) (by simp)
      rw [e1] at this
      exact this.stay (fun g hg => (below1 _ _).block g (this.low hg).2)
    · rw [(evs_start d).2]
      have := GRow.made (K := ctK) (l := [0]) (base := w3.heap.size + 1) ((w3.alloc (.cells #[.int .i64 kd, .int .i64 av] 28)).alloc (.cells #[] 40)) #[.int .i64 0] rfl (by decide) (by simp)
      rw [e2] at this
      exact this
    · intro g hg
      obtain rfl := ownBlock_is hg
      exact ⟨fun h => by omega, fun h => by have := ownBlock_is h; omega⟩
    · intro g hg h
      obtain rfl := ownBlock_is hg
      omega
  clear hw4
  obtain ⟨H4, hb4, hz4⟩ := H4
  have h4b := H4.bel
  have hz4b := h4b.size
  have htl := hc2
  go_loopw [8, 9, 38] (fun vO vC vi wr => RelNP C l ts sE pE W w4 bt b0 (w3.heap.size + 1) (newN d).most vO vC vi wr) (fun _ _ vi _ => ts.length - (intOf vi).toNat)
  case atStart => exact ⟨0, (0, none), none, newN d, _, rfl, H4⟩
  case round =>
    obtain ⟨k, s, p, n, F, rfl, h⟩ := hrel
    have hzr := h.bel.size
    obtain ⟨A8, c8, rfl, _⟩ := h.rowO.form
    obtain ⟨A9, c9, rfl, _⟩ := h.rowC.form
    by_cases hlt : k < ts.length
    · obtain ⟨rfl, hbt3, hcell⟩ := HBT.out (by omega)
      have hsp := h.spans
      have hwf := h.wf
      rw [List.drop_eq_getElem_cons hlt] at hsp hwf
      obtain ⟨hok, hsp⟩ := hsp
      obtain ⟨hokw, hwf⟩ := hwf
      obtain ⟨c0, c1, c2', c3, c4⟩ := hcell k ts[k] (List.getElem?_eq_getElem hlt)
      have hcw : ∀ j, wr.cell? ⟨bt, j, none⟩ = w3.cell? ⟨bt, j, none⟩ := fun j => by
        have e : wr.heap[bt]? = w3.heap[bt]? := h.toks.trans (hb4.block bt hbt3)
        unfold World.cell?
        rw [e]
      rw [← hcw] at c0 c1 c2' c3 c4
      have hbtr : bt < wr.heap.size := cell_inside c0
      generalize ts[k] = t at *
      have hbnd : t.fr ≤ 1000000 ∧ t.to ≤ 1000000 := by
        have hl : l.length = len := by have := hx.1; rwa [byteCells_length] at this
        unfold okTok at hok
        split at hok
        · obtain ⟨_, _, h1, h2⟩ := hok; omega
        · obtain ⟨_, _, h1, h2, _⟩ := hok; omega
      have hTr : Tab (wr.alloc (.cells (tokCells t).toArray 34)) := hT.stay ((h.bel.alloc (by omega) _)) h0
      have hF0 : ¬ F 0 := fun hh => by have := (h.bnd 0 hh).1; omega
      have hst5 := C.stay h.st (Touch.of_new (F := fun _ => False) (below1 wr (.cells (tokCells t).toArray 34))) (fun _ _ _ hh => hh)
      have hdeep := h.inv.deep
      have hmst : n.op.length ≤ 4990 := by
        have h1 := h.mst
        have h2 := most_is d hd0
        omega
      have HT := Lib.hid (C.take _ b0 F n s p t h.inv hokw hbnd.1 hbnd.2 (fun o ho => Nat.le_trans (h.many o ho) (by omega)) hmst hTr hF0 (fun j hj => by have := (h.bnd j hj).2.1; simp; omega) hst5)
      have hone := takeN_one n t
      have HOK := Lib.hid (takeN_ok l n s p t h.inv hok hokw)
      have HMN := Lib.hid (takeN_many n t k h.many)
      have HMS := Lib.hid ((takeN_most n t).trans h.mst)
      have HCL := Lib.hid (cts_le n p k h.many)
      have HI := Lib.hid h
      have HSPR := Lib.hid hsp
      have HWFR := Lib.hid hwf
      have hxt : (tokCells t).toArray = #[.int .i64 t.kind, .bool t.begun, .int .i64 t.fr, .int .i64 t.to, .string ⟨t.text.toArray⟩] := rfl
      rw [hxt] at HT
      clear hst5 hTr hok hokw hsp hwf hcw hcell h hxt
      generalize takeN n t = r at *
      obtain ⟨n', es, fl⟩ := r
      have hone0 : fl ≠ 0 → es = [] := hone.1
      have hone1 : es.length ≤ 1 := hone.2
      clear hone
      by_cases hf : fl = 0
      · subst hf
        obtain ⟨hinv', hdoes⟩ := HOK.out rfl
        have hinv' : InvN n' (nextTok s t) (nextW t) := hinv'
        have hdoes : DoesN n n' p (nextW t) es := hdoes
        have HI' := Lib.hid hinv'
        have HD := Lib.hid hdoes
        clear hinv' hdoes HOK
        go_wp2_with (first
          | (go_at_call 7; refine HT.out.mono ?_; rintro e w5 ⟨v, rfl, hr5, ht5, hs5⟩
             obtain ⟨A5, c5, rfl, _⟩ := hr5.form
             obtain ⟨F5, hm5⟩ : ∃ F5, MidTok C W w4 w5 bt b0 (w3.heap.size + 1) (.slice A8 (evs n p).length c8) (.slice A9 (cts n p).length c9) (evs n p) (cts n p) n' F5 := ⟨_, mid_start HI.out hbtr ht5 hs5 hzr⟩
             have HM := Lib.hid hm5
             have HR5 := Lib.hid hr5.rd
             clear hr5 ht5 hs5 hm5))
        have HLT := Lib.hid hlt
        have HEL := Lib.hid (show (evs n p).length ≤ 1000001 from Nat.le_trans (evs_len n p) (by omega))
        clear HT HI c0 c1 c2' c3 c4 hF0 hbtr hzr hdeep hmst hlt
        have HMN' := Lib.hid (show manyLe n' (k + 1) from HMN.out)
        have HMS' := Lib.hid (show n'.most = (newN d).most from HMS.out)
        clear HMN HMS
        go_loopw [8, 9, 55] (fun vO vC vj wr => RelEv C W w4 bt b0 (w3.heap.size + 1) A5 es n n' p (nextW t) F5 vO vC vj wr) (fun _ _ vj _ => es.length - (intOf vj).toNat)
        case atStart =>
          by_cases he : 0 < es.length
          · exact ⟨0, rfl, .inl ⟨rfl, he, HM.out, HR5.out⟩⟩
          · have hes : es = [] := List.eq_nil_of_length_eq_zero (by omega)
            subst hes
            rcases HD.out with ⟨_, h1, h2⟩ | ⟨e, h1, _⟩ | ⟨e, q, c, h1, _⟩
            · exact ⟨0, rfl, .inr ⟨rfl, by rw [h1, h2]; exact HM.out⟩⟩
            · cases h1
            · cases h1
        case round =>
          obtain ⟨j, rfl, hj⟩ := hrel
          rcases hj with ⟨rfl, hes, M, hre⟩ | ⟨rfl, M⟩
          · obtain ⟨e, rfl⟩ : ∃ e, es = [e] := List.length_eq_one_iff.1 (by omega)
            obtain ⟨ek, ev, ef, et, ⟨snm, sna, six⟩, etx⟩ := e
            obtain ⟨A8', c8', rfl, _⟩ := M.rowO.form
            obtain ⟨A9', c9', rfl, _, _, hA9⟩ := M.rowC.form
            have hcl := cts_len n p
            obtain ⟨g9, rfl, hg9b, hg9⟩ := hA9 (by omega)
            obtain ⟨g5, o5, rfl, hg5, hc5⟩ := hre.2 (by simp)
            have x0 := hc5 0 _ rfl
            have x1 := hc5 1 _ rfl
            have x2 := hc5 2 _ rfl
            have x3 := hc5 3 _ rfl
            have x4 := hc5 4 _ rfl
            have x5 := hc5 5 _ rfl
            have x6 := hc5 6 _ rfl
            have x7 := hc5 7 _ rfl
            simp only [Nat.add_zero] at x0 x1 x2 x3 x4 x5 x6 x7
            have HMM := Lib.hid M
            clear hc5 hre M HM HR5
            rcases HD.out with ⟨h1, _⟩ | ⟨e', h1, hk1, hE, cs, c, hC1, hC2, hlast⟩ | ⟨e', q, c, h1, hk2, hE, hC, hfr, hst, hval, hto⟩
            · cases h1
            · injection h1 with h1
              subst h1
              have hk1 : ek = 1 := hk1
              subst hk1
              have hbtw : bt < wr.heap.size := by
                have h1 := HMM.out.toks
                have h2 : bt < w4.heap.size := by omega
                by_cases h3 : bt < wr.heap.size
                · exact h3
                · rw [Array.getElem?_eq_none (by omega), Array.getElem?_eq_getElem h2] at h1; cases h1
              have hc9 : c ≤ 1000001 := by have := HCL.out c (by rw [hC1]; simp); have := HLT.out; omega
              refine ev_open C W w4 wr bt b0 (w3.heap.size + 1) A8' c8' g9 c9' g5 o5 c5 n n' p (nextW t) F5 ev ef et snm sna six etx HMM.out HEL.out hbtw (by omega) (by omega) (by omega) hg5 hg9b hg9 x0 x1 x2 x3 x4 x5 x6 x7 hE cs c hC1 hC2 hlast hc9 ?_
              intro a' w' hI h55
              refine ⟨hI, ?_⟩
              rw [h55]
              simp [intOf]
            · injection h1 with h1
              subst h1
              have hk2 : ek = 2 := hk2
              subst hk2
              obtain ⟨qk, qv, qf, qt, qs, qx⟩ := q
              have hfr : qf = ef := hfr
              have hst : qs = ⟨snm, sna, six⟩ := hst
              have hval : ev = qv ∨ ev = 1 := hval
              have hto : ef < et := hto
              subst hfr hst
              have hbtw : bt < wr.heap.size := by
                have h1 := HMM.out.toks
                have h2 : bt < w4.heap.size := by omega
                by_cases h3 : bt < wr.heap.size
                · exact h3
                · rw [Array.getElem?_eq_none (by omega), Array.getElem?_eq_getElem h2] at h1; cases h1
              refine ev_close C W w4 wr bt b0 (w3.heap.size + 1) A8' c8' g9 c9' g5 o5 c5 n n' p (nextW t) F5 ev qf et snm sna six etx HMM.out HEL.out hbtw (by omega) (by omega) (by omega) hg5 hg9b hg9 x0 x1 x2 x3 x4 x5 x6 x7 qk qv qt qx c hE hC hval hto ?_
              intro a' w' hI h55
              refine ⟨hI, ?_⟩
              rw [h55]
              simp [intOf]
          · have hbtw : bt < wr.heap.size := by
              have h1 := M.toks
              have h2 : bt < w4.heap.size := by omega
              by_cases h3 : bt < wr.heap.size
              · exact h3
              · rw [Array.getElem?_eq_none (by omega), Array.getElem?_eq_getElem h2] at h1; cases h1
            obtain ⟨A8', c8', rfl, _, _, hA8⟩ := M.rowO.form
            obtain ⟨A9', c9', rfl, _⟩ := M.rowC.form
            have HMM := Lib.hid M
            have HG8 := Lib.hid hA8
            have hdp := evs_deep n' (nextW t)
            have hEL' : (evs n' (nextW t)).length ≤ 1000002 := by
              have h1 := evs_len n' (nextW t)
              have h2 := HI'.out.deep
              have h3 := HMS'.out
              have h4 := most_is d hd0
              omega
            have hmx : (n'.op.length : Int) ≤ max d 1 := by
              have h2 := HI'.out.deep
              have h3 := HMS'.out
              have h4 := most_is d hd0
              omega
            have HDP := Lib.hid hdp
            have KD := Lib.hid (fun w h => C.depth w b0 F5 n' h)
            clear M hA8 hdp HM HR5 HD
            generalize hE' : evs n' (nextW t) = E at *
            have HE' := Lib.hid hE'
            clear hE'
            go_wp2
            go_loopw [16, 192] (fun vd vi wx => RelDp wr wx E vd vi) (fun _ vi _ => E.length - (intOf vi).toNat)
            case atStart => exact ⟨0, Nat.zero_le _, rfl, by simp, Below.refl _ _⟩
            case round =>
              obtain ⟨i, hi, rfl, rfl, hbl⟩ := hrel
              have M := HMM.out.on hbl hbtw
              have HMW := Lib.hid M
              by_cases hil : i < E.length
              · obtain ⟨A8'', c8'', hv, _, _, hA8⟩ := M.rowO.form
                have hv1 : A8' = A8'' := by injection hv
                clear hv
                subst hv1
                obtain ⟨g8, rfl, _, hg8⟩ := hA8 (by omega)
                obtain ⟨⟨ek, ev, ef, et, ⟨snm, sna, six⟩, etx⟩, hx⟩ : ∃ x, E[i]? = some x := ⟨_, List.getElem?_eq_getElem hil⟩
                have hds := deep_step E i _ hx
                have hcell8 : ∀ j u, (evCells ⟨ek, ev, ef, et, ⟨snm, sna, six⟩, etx⟩)[j]? = some u → wr.cell? ⟨g8, i * 8 + j, none⟩ = some u := fun j u hu => by
                  have := (GRow.rd M.rowO).at (b := g8) (o := 0) rfl (i := i) hx (j := j) (u := u) hu
                  simpa [evK] using this
                have y0 := hcell8 0 _ rfl
                have y1 := hcell8 1 _ rfl
                have y2 := hcell8 2 _ rfl
                have y3 := hcell8 3 _ rfl
                have y4 := hcell8 4 _ rfl
                have y5 := hcell8 5 _ rfl
                have y6 := hcell8 6 _ rfl
                have y7 := hcell8 7 _ rfl
                simp only [Nat.add_zero] at y0
                have hdl : ((E.take i).filter Evt.holds).length ≤ 1000002 := by
                  have h1 := List.length_filter_le Evt.holds (E.take i)
                  have h2 : (E.take i).length ≤ i := by rw [List.length_take]; omega
                  omega
                have hilI : (i : Int) < E.length := by omega
                clear hcell8 M hA8
                generalize ((E.take i).filter Evt.holds).length = dp at *
                by_cases h4 : ev = 4
                · subst h4
                  have hds' : ((E.take (i + 1)).filter Evt.holds).length = dp + 1 := hds
                  have HDS := Lib.hid hds'
                  clear hds hds' hx
                  go_wp2
                  go_roundw
                  case rel => exact ⟨i + 1, hil, by go_num, by rw [HDS.out]; go_num, hbl.alloc (by have := hbl.size; omega) _⟩
                  case measure => simp [intOf]; omega
                · have g4 : (ev == 4) = false := beq_eq_false_iff_ne.2 h4
                  by_cases h5 : ev = 5
                  · subst h5
                    have hds' : ((E.take (i + 1)).filter Evt.holds).length = dp + 1 := hds
                    have HDS := Lib.hid hds'
                    clear hds hds' hx
                    go_wp2
                    go_roundw
                    case rel => exact ⟨i + 1, hil, by go_num, by rw [HDS.out]; go_num, hbl.alloc (by have := hbl.size; omega) _⟩
                    case measure => simp [intOf]; omega
                  · have g5 : (ev == 5) = false := beq_eq_false_iff_ne.2 h5
                    have hds' : ((E.take (i + 1)).filter Evt.holds).length = dp := by
                      rw [hds]
                      simp [Evt.holds, g4, g5]
                    have HDS := Lib.hid hds'
                    clear hds hds' hx h4 h5
                    go_wp2
                    go_roundw
                    case rel => exact ⟨i + 1, hil, by go_num, by rw [HDS.out], hbl.alloc (by have := hbl.size; omega) _⟩
                    case measure => simp [intOf]; omega
              · have hE9 : ((E.take i).filter Evt.holds).length = n'.op.length := by
                  rw [List.take_of_length_le (by omega)]
                  exact HDP.out
                have hilI : ¬ (i : Int) < E.length := by omega
                have hb5 := hbl.size
                rw [hE9]
                clear hE9
                generalize hdd : n'.op.length = dd at *
                have HDD := Lib.hid hdd
                clear hdd
                have gdd : ((dd : Int) != dd) = false := by simp
                obtain ⟨mx, hmm⟩ : ∃ mx : Int, mx = if d < 1 then 1 else d := ⟨_, rfl⟩
                have hmx' : ¬ (mx : Int) < dd := by
                  rw [hmm]
                  split <;> omega
                have hmr := fun w => (run_max_int2 (P := Tryd.prog) (w := w) #[3, 3] 3 .i64 .i64 d 1)
                rw [show (if (1 : Int) > d then (1 : Int) else d) = mx from hmm.symm] at hmr
                clear hmm hmx
                have hk9 : (k : Int) ≤ 1000000 := by have := HLT.out; omega
                have hbt9 : bt < wr.heap.size := by omega
                go_wp2_with (first
                  | (go_at_call 8; refine (KD.out _ HMW.out.st).mono ?_; rintro e w9 ⟨rfl, hb9⟩))
                go_roundw
                case rel =>
                  have M9 := HMW.out.on hb9 hbt9
                  have hE := HE'.out
                  refine ⟨k + 1, nextTok s t, nextW t, n', F5, by go_num, HLT.out, HI'.out, HMN'.out, M9.st, M9.bnd, ?_, M9.rowC, M9.offO, M9.offC, M9.bel, M9.toks, HSPR.out, HWFR.out, HMS'.out⟩
                  rw [hE]
                  exact M9.rowO
                case measure =>
                  have := HLT.out
                  simp [intOf]
                  omega
      · have gf : (fl != 0) = true := bne_iff_ne.2 hf
        obtain rfl := hone0 hf
        go_wp2_with (first
          | (go_at_call 7; refine HT.out.mono ?_; rintro e w5 ⟨v, rfl, hr5, ht5, _⟩
             obtain ⟨A5, c5, rfl, _⟩ := hr5.form))
        go_ret
        exact ⟨rfl, (HI.out.bel.alloc (by omega) _).trans (ht5.below (fun j _ hj => (HI.out.bnd j hj).1) (by simp; omega))⟩
    · obtain rfl : k = ts.length := by have := h.le; omega
      have hdn := evs_done n s p h.inv
      have hcl := cts_len n p
      have HI := Lib.hid h
      obtain ⟨A9', c9', hv, hc9, _, hA9⟩ := h.rowC.form
      have hv1 : A9 = A9' := by injection hv
      clear hv
      subst hv1
      obtain ⟨g9, rfl, _, hg9⟩ := hA9 (by omega)
      obtain ⟨c, hc0⟩ : ∃ c, (cts n p)[0]? = some c := ⟨_, List.getElem?_eq_getElem (by omega)⟩
      have hcell : wr.cell? ⟨g9, 0, none⟩ = some (.int .i64 c) := by
        have := (GRow.rd h.rowC).at (b := g9) (o := 0) rfl (i := 0) hc0 (j := 0) (u := .int .i64 c) rfl
        simpa [ctK] using this
      have hbel := h.bel
      have KD := Lib.hid (C.done wr b0 F n h.st)
      rw [List.head?_eq_getElem?, hc0] at hdn
      have hcl1 : (0 : Int) < (cts n p).length := by omega
      clear h hA9 hc0
      by_cases he : evs n p = []
      · have hl0 : (evs n p).length = 0 := by rw [he]; rfl
        rw [hl0]
        have hd : n.may.isNothing = ((c : Int) == 1) := by
          by_cases hc1 : c = 1
          · subst hc1
            exact hdn.2 ⟨he, rfl⟩
          · have h1 : ((c : Int) == 1) = false := by rw [beq_eq_false_iff_ne]; omega
            rw [h1]
            cases hn : n.may.isNothing
            · rfl
            · exact absurd (Option.some.inj (hdn.1 hn).2) hc1
        rw [hd] at KD
        clear hdn hd hl0 he hcl
        generalize (cts n p).length = m9 at *
        have hcw : ∀ w', Below wr.heap.size wr w' → w'.cell? ⟨g9, 0, none⟩ = some (.int .i64 c) := fun w' h => (h.cell (p := ⟨g9, 0, none⟩) hg9).trans hcell
        have HCW := Lib.hid hcw
        clear hcw
        generalize hcb : ((c : Int) == 1) = cb at *
        go_wp2_with (first
          | (go_at_call 9; refine KD.out.mono ?_; rintro e w9 ⟨rfl, hb9⟩; have c9 := HCW.out _ hb9))
        go_ret
        exact ⟨ret_b (by simp), hbel.trans (hb9.mono hbel.size)⟩
      · have hl0 : 0 < (evs n p).length := by
          cases hh : evs n p
          · exact absurd hh he
          · simp
        have hl1 : (((evs n p).length : Int) == 0) = false := by rw [beq_eq_false_iff_ne]; omega
        have hd : n.may.isNothing = false := by
          cases hn : n.may.isNothing
          · rfl
          · exact absurd (hdn.1 hn).1 he
        rw [hd] at KD
        clear hdn hd he hcl
        generalize (evs n p).length = m8 at *
        generalize (cts n p).length = m9 at *
        go_wp2_with (first
          | (go_at_call 9; refine KD.out.mono ?_; rintro e w9 ⟨rfl, hb9⟩))
        go_ret
        exact ⟨ret_b (by simp), hbel.trans (hb9.mono hbel.size)⟩

end Go.Proofs.YtpjdmhfineeimaaDoor
