/- Package tree: the walk of Part's closure. -/
import Derived.Test.YthpkcapooeedeaaDoorJ30
import Derived.Deep.LoopGhost
namespace Go.Proofs.YthpkcapooeedeaaDoor
open Go.RowKit
set_option linter.unusedVariables false

theorem verd_size : (Tryd.prog.info? 29).map (·.size) = some 2 := by kernel_rfl
theorem spans_cons {l : List UInt8} {t : Tok} {ts : List Tok} {s s' : Nat × Option Nat} (h : Spans l (t :: ts) s s') : okTok l s t ∧ Spans l ts (nextTok s t) s' := h
theorem wf_cons {t : Tok} {ts : List Tok} {p q : Option (Int × Nat)} (h : WfTo (t :: ts) p q) : okW p t ∧ WfTo ts (nextW t) q := h
theorem takeAll_cons (n : Nst) (t : Tok) (ts : List Tok) : takeAll n (t :: ts) = if (takeN n t).2.2 ≠ 0 then takeN n t else ((takeAll (takeN n t).1 ts).1, (takeN n t).2.1 ++ (takeAll (takeN n t).1 ts).2.1, (takeAll (takeN n t).1 ts).2.2) := rfl
/-- A token's cells. -/
theorem TRow.at {w : World} {B : Nat} {A : Option Addr} {m c : Nat} {ts : List Tok} (h : TRow w B (.slice A m c) ts) (h0 : 0 < ts.length) : ∃ bt o : Nat, A = some ⟨bt, o, none⟩ ∧ (Value.slice A m c).ownBlock = some bt ∧ bt < w.heap.size ∧ ∀ (i : Nat) (t : Tok), ts[i]? = some t →
    w.cell? ⟨bt, o + i * 5, none⟩ = some (.int .i64 t.kind) ∧ w.cell? ⟨bt, o + i * 5 + 1, none⟩ = some (.bool t.begun) ∧ w.cell? ⟨bt, o + i * 5 + 2, none⟩ = some (.int .i64 t.fr) ∧ w.cell? ⟨bt, o + i * 5 + 3, none⟩ = some (.int .i64 t.to) ∧ w.cell? ⟨bt, o + i * 5 + 4, none⟩ = some (.string ⟨t.text.toArray⟩) := by
  obtain ⟨A', c', e, _, _, hg⟩ := h.form
  injection e with e1 e2 e3
  subst e1 e2 e3
  obtain ⟨g, rfl, _, hlt⟩ := hg h0
  obtain ⟨b, o, e, hb, hc⟩ := h.rd.2 h0
  injection e with e
  injection e with e1 e2
  subst e1 e2
  refine ⟨g, 0, rfl, rfl, hlt, fun i t ht => ?_⟩
  have hh : ∀ j u, j < 5 → (tokCells t)[j]? = some u → w.cell? ⟨g, 0 + i * 5 + j, none⟩ = some u := fun j u hj hu => by
    rw [Nat.add_assoc]
    exact hc _ _ ((tokAll_at ts i t ht j hj).trans hu)
  exact ⟨hh 0 _ (by decide) rfl, hh 1 _ (by decide) rfl, hh 2 _ (by decide) rfl, hh 3 _ (by decide) rfl, hh 4 _ (by decide) rfl⟩

theorem bldA_one (bl : Bld) (es : List Evt) (h : es.length ≤ 1) : szB (bldA bl es) ≤ szB bl + 1 := by
  match es, h with
  | [], _ => exact Nat.le_succ _
  | [e], _ => exact bldE_size bl e
/-- Behind a token. -/
theorem AtPt.next {l : List UInt8} {W wr w6 : World} {base nb mb nx : Nat} {n0 : Nst} {bl0 : Bld} {ts : List Tok} {sE : Nat × Option Nat} {pE : Option (Int × Nat)} {m0 z0 : Nat} {FN0 FM0 : Nat → Prop} {j : Nat} {n : Nst} {bl : Bld} {s : Nat × Option Nat} {p : Option (Int × Nat)} {es0 : List Evt} {FN FM FN' FM' : Nat → Prop}
    (h : AtPt l W wr base nb mb nx n0 bl0 ts sE pE m0 z0 FN0 FM0 j n bl s p es0 FN FM) (hlt : j < ts.length) (hF0 : ∀ k, FN0 k ∨ FM0 k → k < W.heap.size) (hf : (takeN n ts[j]).2.2 = 0) (M : Mach w6 base nb mb nx FN' FM' (takeN n ts[j]).1 (bldA bl (takeN n ts[j]).2.1)) (ho : ∀ k, FN' k ∨ FM' k → FN k ∨ FM k ∨ wr.heap.size ≤ k) (ht : Touch (fun k => FN k ∨ FM k) wr w6) (hW : W.heap.size < wr.heap.size) :
    AtPt l W w6 base nb mb nx n0 bl0 ts sE pE m0 z0 FN0 FM0 (j + 1) (takeN n ts[j]).1 (bldA bl (takeN n ts[j]).2.1) (nextTok s ts[j]) (nextW ts[j]) (es0 ++ (takeN n ts[j]).2.1) FN' FM' := by
  have e := List.drop_eq_getElem_cons hlt
  have hsp := h.sp
  have hwf := h.wf
  have hall := h.all
  have hflt := h.flt
  rw [e] at hsp hwf hall hflt
  obtain ⟨a1, a2⟩ := spans_cons hsp
  obtain ⟨b1, b2⟩ := wf_cons hwf
  have hk : ts[j].begun = true → ts[j].kind ≠ 0 := fun hb hk => by
    unfold okW at b1
    cases p with
    | none => rw [hb] at b1; have b1 : 8 ≤ ts[j].kind ∧ ts[j].kind ≤ 10 := b1; omega
    | some q => have b1 := b1.1; rw [hb] at b1; cases b1
  have hpt := h.pb.tok ts[j] hk hf
  refine ⟨hlt, M, (takeN_ok l n s p ts[j] h.inv a1 b1 hf).1, a2, b2, hpt.1, h.ci.tok ts[j] hk hf, takeN_many n ts[j] (m0 + j) h.many, (takeN_most n ts[j]).trans h.most, ?_, by rw [h.bl_, bldA_app], ?_, ?_, fun k hk => ?_, ?_, ?_⟩
  · have := bldA_one bl (takeN n ts[j]).2.1 (takeN_one n ts[j]).2
    have := h.size
    omega
  · rw [hall, takeAll_cons, if_neg (fun hh => hh hf), List.append_assoc]
  · rw [hflt]
    show (if (takeN n ts[j]).2.2 ≠ 0 then ts[j].fr else faultAt (takeN n ts[j]).1 (ts.drop (j + 1))) = _
    rw [if_neg (fun hh => hh hf)]
  · rcases ho k hk with h1 | h1 | h1
    · exact h.out k (.inl h1)
    · exact h.out k (.inr h1)
    · exact .inr (.inr (by omega))
  · refine h.touch.trans ht (fun k hk h1 => ?_)
    rcases h.out k h1 with h2 | h2 | h2
    · exact .inl h2
    · exact .inr h2
    · omega
  · refine ht.own h.res (fun hh => ?_)
    rcases h.out _ hh with h2 | h2 | h2
    · have := hF0 _ (.inl h2); omega
    · have := hF0 _ (.inr h2); omega
    · omega

set_option maxRecDepth 100000 in
set_option maxHeartbeats 8000000 in
theorem take_part (l : List UInt8) {w : World} {base nb mb nx lx lb : Nat} {FN FM : Nat → Prop} {n : Nst} {bl : Bld} {ts : List Tok} {v : Value} {B : Nat} {s sE : Nat × Option Nat} {p pE : Option (Int × Nat)} {m0 k : Nat} (kind : Int) (M : Mach w base nb mb nx FN FM n bl) (hT : Tab w) (h0 : 0 < base) (hbs : base ≤ w.heap.size) (hi : InvN n s p) (hsp : Spans l ts s sE) (hwf : WfTo ts p pE) (hpb : PB n bl) (hci : CI n)
    (hm : manyLe n m0) (hm0 : m0 ≤ 900000) (hmo : n.most ≤ 4990) (hsz : szB bl ≤ 40000) (hv : TRow w B v ts) (hvF : ∀ g, v.ownBlock = some g → ¬ FN g ∧ ¬ FM g) (h2 : ts.length ≤ 2) (hlx : Own w lx 42 #[.pointer (some ⟨lb, 0, none⟩)]) (hlxF : ¬ FN lx ∧ ¬ FM lx) (hlb : w.cell? ⟨lb, 0, none⟩ = some (.int .i64 k)) (hlbF : ¬ FN lb ∧ ¬ FM lb) :
    Calls Tryd.prog 12 #[v, .int .i64 kind, .pointer (some ⟨nx, 0, none⟩), .pointer (some ⟨mb, 0, none⟩), .pointer (some ⟨lx, 0, none⟩)] w (ClEnd w base nb mb nx FN FM n bl ts kind k) := by
  obtain ⟨w1, hw1⟩ : ∃ w1, w1 = w.alloc (.cells #[.int .i64 0, .int .i64 0] 29) := ⟨_, rfl⟩
  have z1 : w1.heap.size = w.heap.size + 1 := by subst hw1; simp
  have hB1 : Below w.heap.size w w1 := by subst hw1; exact (Below.refl _ _).alloc (Nat.le_refl _) _
  have o1 : Own w1 w.heap.size 29 #[.int .i64 0, .int .i64 0] := by subst hw1; exact Own.fresh _ _ _
  have M1 := M.move (w' := w1) (T := fun _ => False) (Touch.of_new hB1) (fun _ _ h => h) (fun h => h)
  have hst : AtPt l w w1 base nb mb nx n bl ts sE pE m0 (szB bl) FN FM 0 n bl s p [] FN FM :=
    ⟨Nat.zero_le _, M1, hi, hsp, hwf, hpb, hci, hm, rfl, Nat.le_refl _, rfl, by simp, rfl, fun j hj => hj.elim .inl (fun h => .inr (.inl h)), Touch.of_new hB1, o1⟩
  obtain ⟨A, cv, rfl, hcv, _⟩ := hv.form
  have hbt : ∃ bt o : Nat, (0 < ts.length → A = some ⟨bt, o, none⟩ ∧ (¬ FN bt ∧ ¬ FM bt) ∧ bt < w.heap.size ∧ ∀ (i : Nat) (t : Tok), ts[i]? = some t →
    w.cell? ⟨bt, o + i * 5, none⟩ = some (.int .i64 t.kind) ∧ w.cell? ⟨bt, o + i * 5 + 1, none⟩ = some (.bool t.begun) ∧ w.cell? ⟨bt, o + i * 5 + 2, none⟩ = some (.int .i64 t.fr) ∧ w.cell? ⟨bt, o + i * 5 + 3, none⟩ = some (.int .i64 t.to) ∧ w.cell? ⟨bt, o + i * 5 + 4, none⟩ = some (.string ⟨t.text.toArray⟩)) := by
    by_cases hp : 0 < ts.length
    · obtain ⟨bt, o, e, ho, hl, hc⟩ := hv.at hp
      exact ⟨bt, o, fun _ => ⟨e, hvF bt ho, hl, hc⟩⟩
    · exact ⟨0, 0, fun h => absurd h hp⟩
  obtain ⟨bt, o, hbt⟩ := hbt
  have HBT := Lib.hid hbt
  have HST := Lib.hid (show RelPt l w base nb mb nx n bl ts sE pE m0 (szB bl) FN FM (.int .i64 0) w1 from ⟨0, n, bl, s, p, [], FN, FM, rfl, hst⟩)
  have HW1 := Lib.hid hw1
  have HT0 := Lib.hid hT
  have HLX := Lib.hid hlx
  have HLXF := Lib.hid hlxF
  have HLB := Lib.hid hlb
  have HLBF := Lib.hid hlbF
  have HM := Lib.hid M
  have HSZ := Lib.hid hsz
  have HBS := Lib.hid hbs
  have H0 := Lib.hid h0
  have HMO := Lib.hid hmo
  have HM0 := Lib.hid hm0
  have Z1 := Lib.hid z1
  have tl : (ts.length : Int) ≤ 2 := by omega
  clear hT hlx hlxF hlb hlbF M hsz hbs h0 hst M1 hbt hv hvF hi hsp hwf hpb hci hm hmo hB1 o1 hw1 hcv z1 hm0
  go_enter Tryd.func12, Tryd.ntmps12
  go_upto_region 1 with fail
  generalize hw : World.alloc w _ = w2'
  have ew : w1 = w2' := by rw [HW1.out]; exact hw
  subst ew
  clear hw
  go_wp2
  go_loopw [16] (fun vi wr => RelPt l w base nb mb nx n bl ts sE pE m0 (szB bl) FN FM vi wr) (fun vi _ => ts.length - (intOf vi).toNat)
  case atStart => exact HST.out
  case round =>
    obtain ⟨j, n1, bl1, s1, p1, es0, FN1, FM1, rfl, h⟩ := hrel
    by_cases hlt : j < ts.length
    · have e := List.drop_eq_getElem_cons hlt
      have hwf := h.wf
      rw [e] at hwf
      obtain ⟨hokw, _⟩ := wf_cons hwf
      obtain ⟨eA, hbF, hbl, hcell⟩ := HBT.out (by omega)
      subst eA
      have hTo := h.touch
      have hzr := hTo.size
      have hF00 : ¬ (FN 0 ∨ FM 0) := fun hh => by have := (HM.out.bnd 0 hh).1; have := H0.out; omega
      have hTr : Tab wr := HT0.out.touch hTo hF00
      have hcw : ∀ i, wr.cell? ⟨bt, i, none⟩ = w.cell? ⟨bt, i, none⟩ := fun i => World.cell?_of_block (by exact hTo.block bt hbl (fun hh => hh.elim hbF.1 hbF.2))
      obtain ⟨c0, c1, c2, c3, c4⟩ := hcell j ts[j] (List.getElem?_eq_getElem hlt)
      rw [← hcw] at c0 c1 c2 c3 c4
      have hnx := fun w6 FN' FM' => AtPt.next (w6 := w6) (FN' := FN') (FM' := FM') h hlt (fun k hk => (HM.out.bnd k hk).2.1)
      have hal := h.all
      have hfl := h.flt
      rw [e, takeAll_cons] at hal
      rw [e] at hfl
      have hfl : faultAt n ts = if (takeN n1 ts[j]).2.2 ≠ 0 then ts[j].fr else faultAt (takeN n1 ts[j]).1 (ts.drop (j + 1)) := hfl
      have hpk : (takeN n1 ts[j]).2.2 = 0 → bl1.root = none ∧ ∀ e ∈ (takeN n1 ts[j]).2.1, e.kind = 1 ∨ e.kind = 2 := fun hf => by
        refine (h.pb.tok ts[j] (fun hb hk => ?_) hf).2
        unfold okW at hokw
        cases p1 with
        | none => rw [hb] at hokw; have hokw : 8 ≤ ts[j].kind ∧ ts[j].kind ≤ 10 := hokw; omega
        | some q => have hokw := hokw.1; rw [hb] at hokw; cases hokw
      have hwr : w.heap.size < wr.heap.size := h.res.inside
      -- the world with the token in a variable of its own
      have hb2 : Below wr.heap.size wr (wr.alloc (.cells (tokCells ts[j]).toArray 48)) := (Below.refl _ _).alloc (Nat.le_refl _) _
      have M2 := h.mach.move (w' := wr.alloc (.cells (tokCells ts[j]).toArray 48)) (T := fun _ => False) (Touch.of_new hb2) (fun _ _ h => h) (fun h => h)
      have z2 : (wr.alloc (.cells (tokCells ts[j]).toArray 48)).heap.size = wr.heap.size + 1 := by simp
      have hmst : n1.op.length ≤ 4990 := by have h1 := h.inv.deep; have h2 := h.most; have := HMO.out; omega
      have HT := Lib.hid (Take_nest M2.ns (fun k hk => (M2.bnd k (.inl hk)).2.1) h.inv hokw (hTr.stay hb2 (hTr.elim fun _ h => h.inside)) (fun o ho => by have := h.many o ho; have := HM0.out; omega) hmst)
      have oT : Own (wr.alloc (.cells (tokCells ts[j]).toArray 48)) wr.heap.size 48 (tokCells ts[j]).toArray := Own.fresh _ _ _
      have hres := h.res.stay hb2 h.res.inside
      have hone := takeN_one n1 ts[j]
      have HA := Lib.hid h
      have HNX := Lib.hid hnx
      have HAL := Lib.hid hal
      have HFL := Lib.hid hfl
      have HPK := Lib.hid hpk
      have HM2 := Lib.hid M2
      have HOT := Lib.hid oT
      have HRES := Lib.hid hres
      have Z2 := Lib.hid z2
      have HB2 := Lib.hid hb2
      have HWR := Lib.hid hwr
      have HOUT := Lib.hid h.out
      have hxt : (tokCells ts[j]).toArray = #[.int .i64 ts[j].kind, .bool ts[j].begun, .int .i64 ts[j].fr, .int .i64 ts[j].to, .string ⟨ts[j].text.toArray⟩] := rfl
      unfold tokArgs at HT
      rw [hxt] at HT HM2 HOT HRES Z2 HB2
      have cnx : (wr.alloc (.cells #[.int .i64 ts[j].kind, .bool ts[j].begun, .int .i64 ts[j].fr, .int .i64 ts[j].to, .string ⟨ts[j].text.toArray⟩] 48)).cell? ⟨nx, 0, none⟩ = some (.pointer (some ⟨nb, 0, none⟩)) := by exact M2.on.at 0
      have hj0 : (0 : Int) ≤ (j : Int) := by omega
      have hj1 : (j : Int) < (ts.length : Int) := by omega
      clear hwf hokw hcell hTo hzr hTr hcw hnx hal hfl hpk hwr hb2 M2 z2 hmst oT hres h e hxt hbF hbl hF00
      generalize hgt : ts[j] = t at *
      clear hgt
      have hone0 : (takeN n1 t).2.2 ≠ 0 → (takeN n1 t).2.1 = [] := hone.1
      have hone1 : (takeN n1 t).2.1.length ≤ 1 := hone.2
      clear hone
      generalize hr : takeN n1 t = r at *
      clear hr
      obtain ⟨n2, es, fl⟩ := r
      by_cases hf : fl = 0
      · subst hf
        have hfb : ((0 : Int) != 0) = false := rfl
        have HNX' := Lib.hid (fun w6 FN' FM' => HNX.out w6 FN' FM' rfl)
        clear hone0 HAL HFL HNX
        -- behind the Nest, and behind what was made of its event
        have FIN := Lib.hid (fun (w5 w6 : World) (FM6 : Nat → Prop) (ht5 : Touch FN1 (wr.alloc (.cells #[.int .i64 t.kind, .bool t.begun, .int .i64 t.fr, .int .i64 t.to, .string ⟨t.text.toArray⟩] 48)) w5) (M6 : Mach w6 base nb mb nx (fun q => (FN1 q ∨ (wr.alloc (.cells #[.int .i64 t.kind, .bool t.begun, .int .i64 t.fr, .int .i64 t.to, .string ⟨t.text.toArray⟩] 48)).heap.size ≤ q) ∧ q < w5.heap.size) FM6 n2 (bldA bl1 es)) (ho : ∀ q, FM6 q → FM1 q ∨ wr.heap.size ≤ q) (t6 : Touch FM1 w5 w6) => show RelPt l w base nb mb nx n bl ts sE pE m0 (szB bl) FN FM (.int .i64 ((j + 1 : Nat) : Int)) w6 from by
          have hz2 := Z2.out
          refine ⟨j + 1, _, _, _, _, _, _, _, rfl, HNX'.out w6 _ FM6 M6 (fun q hq => ?_) ?_ HWR.out⟩
          · rcases hq with ⟨h1 | h1, _⟩ | h1
            · exact .inl h1
            · exact .inr (.inr (by omega))
            · exact (ho q h1).elim (fun h => .inr (.inl h)) (fun h => .inr (.inr h))
          · have t5 : Touch (fun q => FN1 q ∨ FM1 q) wr w5 := ((Touch.of_new (F := fun q => FN1 q ∨ FM1 q) HB2.out).trans ht5 (fun q _ h1 => .inl h1))
            exact t5.trans t6 (fun q _ h1 => .inr h1))
        have hcase : es = [] ∨ ∃ e, es = [e] := by
          match es, hone1 with
          | [], _ => exact .inl rfl
          | [e], _ => exact .inr ⟨e, rfl⟩
        clear hone1
        rcases hcase with rfl | ⟨e, rfl⟩
        · go_wp2_with (go_at_call 13; refine HT.out.mono ?_; rintro e w5 ⟨v5, rfl, hr5, ht5, hs5⟩
                       obtain ⟨A5, c5, rfl, _⟩ := hr5.form
                       have F5 := Lib.hid (FIN.out w5 w5 FM1 ht5 (HM2.out.nest (by have := HBS.out; have := HWR.out; have := Z2.out; omega) ht5 hs5) (fun q hq => .inl hq) (Touch.refl _ _))
                       clear hr5 ht5 hs5)
          refine wp_loop_rounds 1 ?_
          rw [rounds_succ]
          go_wp2
          go_roundw
          case rel => exact F5.out
          case measure => simp [intOf]; omega
        · obtain ⟨ek, ev, ef, et, ⟨nm, sn, si⟩, tx⟩ := e
          obtain ⟨hroot, hkinds⟩ := HPK.out rfl
          have hk12 : ek = 1 ∨ ek = 2 := hkinds ⟨ek, ev, ef, et, ⟨nm, sn, si⟩, tx⟩ (by simp)
          have hroot' : (⟨ek, ev, ef, et, ⟨nm, sn, si⟩, tx⟩ : Evt).kind = 1 → bl1.root = none := fun _ => hroot
          have hz1 : szB bl1 ≤ 50000 := by have := HA.out.size; have := HSZ.out; omega
          have HCK := Lib.hid (fun (w5 : World) (FN5 : Nat → Prop) (M5 : Mach w5 base nb mb nx FN5 FM1 n2 bl1) => show Calls Tryd.prog 14 #[.pointer (some ⟨mb, 0, none⟩), .agg #[.int .i64 ek, .int .i64 ev, .int .i64 ef, .int .i64 et, .bool nm, .string ⟨sn.toArray⟩, .int .i64 si, .string ⟨tx.toArray⟩]] (w5.alloc (.cells #[.int .i64 ek, .int .i64 ev, .int .i64 ef, .int .i64 et, .bool nm, .string ⟨sn.toArray⟩, .int .i64 si, .string ⟨tx.toArray⟩] 55)) fun e' w' => e' = .returned (.tuple #[]) ∧ BIs w' mb (fun q => FM1 q ∨ (w5.alloc (.cells #[.int .i64 ek, .int .i64 ev, .int .i64 ef, .int .i64 et, .bool nm, .string ⟨sn.toArray⟩, .int .i64 si, .string ⟨tx.toArray⟩] 55)).heap.size ≤ q) (bldE bl1 ⟨ek, ev, ef, et, ⟨nm, sn, si⟩, tx⟩) ∧ Touch FM1 (w5.alloc (.cells #[.int .i64 ek, .int .i64 ev, .int .i64 ef, .int .i64 et, .bool nm, .string ⟨sn.toArray⟩, .int .i64 si, .string ⟨tx.toArray⟩] 55)) w' from
            Take_bld (M5.bs.move (T := fun _ => False) (Touch.of_new ((Below.refl _ _).alloc (Nat.le_refl _) _)) (fun _ _ _ h => h)) ⟨ek, ev, ef, et, ⟨nm, sn, si⟩, tx⟩ hk12 hroot' hz1)
          clear hroot hkinds hk12 hroot' hz1
          go_wp2_with (go_at_call 13; refine HT.out.mono ?_; rintro e w5 ⟨v5, rfl, hr5, ht5, hs5⟩
                       obtain ⟨A5, c5, hv5, hc5, _, hA5⟩ := hr5.form
                       obtain ⟨g5, rfl, _, hg5⟩ := hA5 (by simp)
                       subst hv5
                       have hrd := hr5.rd
                       have x0 := hrd.at rfl (i := 0) rfl (j := 0) rfl
                       have x1 := hrd.at rfl (i := 0) rfl (j := 1) rfl
                       have x2 := hrd.at rfl (i := 0) rfl (j := 2) rfl
                       have x3 := hrd.at rfl (i := 0) rfl (j := 3) rfl
                       have x4 := hrd.at rfl (i := 0) rfl (j := 4) rfl
                       have x5 := hrd.at rfl (i := 0) rfl (j := 5) rfl
                       have x6 := hrd.at rfl (i := 0) rfl (j := 6) rfl
                       have x7 := hrd.at rfl (i := 0) rfl (j := 7) rfl
                       simp only [Nat.zero_mul, Nat.zero_add] at x0 x1 x2 x3 x4 x5 x6 x7
                       have M5 := HM2.out.nest (by have := HBS.out; have := HWR.out; have := Z2.out; omega) ht5 hs5
                       have HM5 := Lib.hid M5
                       have HT5 := Lib.hid ht5
                       have HC5 := Lib.hid (HCK.out w5 _ M5)
                       clear hr5 ht5 hs5 hrd M5 hA5 hc5)
          refine wp_loop_rounds 2 ?_
          rw [rounds_succ]
          go_wp2_with (go_at_call 14; refine HC5.out.mono ?_; rintro e w6 ⟨rfl, hb6, ht6⟩
                       have hev : Below w5.heap.size w5 (w5.alloc (.cells #[.int .i64 ek, .int .i64 ev, .int .i64 ef, .int .i64 et, .bool nm, .string ⟨sn.toArray⟩, .int .i64 si, .string ⟨tx.toArray⟩] 55)) := (Below.refl _ _).alloc (Nat.le_refl _) _
                       have M5a := HM5.out.move (T := fun _ => False) (Touch.of_new hev) (fun _ _ h => h) (fun h => h)
                       have M6 := M5a.made (by have := HBS.out; have := HWR.out; have := Z2.out; have := HT5.out.size; have := hev.size; omega) ht6 hb6
                       have F6 := Lib.hid (FIN.out w5 w6 _ HT5.out M6 (fun q hq => hq.1.elim .inl (fun h => .inr (by have := Z2.out; have := HT5.out.size; have := hev.size; omega))) ((Touch.of_new (F := FM1) hev).trans ht6 (fun _ _ h => h)))
                       clear hb6 ht6 hev M5a M6)
          rw [rounds_succ]
          go_wp2
          go_roundw
          case rel => exact F6.out
          case measure => simp [intOf]; omega
      · have hfb : (fl != 0) = true := bne_iff_ne.2 hf
        have HES := Lib.hid (show es = [] from hone0 hf)
        have HF := Lib.hid hf
        clear hone0 hone1 hf
        go_wp2_with (go_at_call 13; refine HT.out.mono ?_; rintro e w5 ⟨v5, rfl, hr5, ht5, hs5⟩
                     have o5 : Own w5 wr.heap.size 48 _ := ht5.own HOT.out (fun hh => by have := (HM2.out.bnd _ (.inl hh)).2.1; have := (HA.out.mach.bnd _ (.inl hh)).2.1; omega)
                     have q2 := o5.at 2
                     simp at q2
                     have res5 : Own w5 w.heap.size 29 _ := ht5.own HRES.out (fun hh => by
                       rcases HOUT.out _ (.inl hh) with h2 | h2 | h2
                       · have := (HM.out.bnd _ (.inl h2)).2.1; omega
                       · have := (HM.out.bnd _ (.inr h2)).2.1; omega
                       · omega)
                     have r0 := res5.at 0
                     have r1 := res5.at 1
                     simp at r0 r1
                     have g0 := res5.free 0
                     have g1 := res5.free 1
                     have HR5 := Lib.hid res5
                     have HT5 := Lib.hid ht5
                     have HS5 := Lib.hid hs5
                     clear hr5 ht5 hs5 o5 res5)
        have hO := (HR5.out.put 0 (.int .i64 fl)).put 1 (.int .i64 t.fr)
        have hO : Own ((w5.setCell ⟨w.heap.size, 0, none⟩ (.int .i64 fl)).setCell ⟨w.heap.size, 1, none⟩ (.int .i64 t.fr)) w.heap.size 29 #[.int .i64 fl, .int .i64 t.fr] := by simpa using hO
        refine bodyPost_ret (results_cell_row rfl _ _ w.heap.size _ _ (0, 0) _ rfl hO Tryd.underlying29 rfl verd_size) rfl ?_
        have hal := HAL.out
        have hfl := HFL.out
        rw [if_pos HF.out] at hal
        rw [if_pos HF.out] at hfl
        rw [HES.out, List.append_nil] at hal
        have hbs := HA.out.bl_
        have hz := HA.out.size
        have hz2 := Z2.out
        have hz5 := HT5.out.size
        have hwr := HWR.out
        have M5 := HM2.out.nest (by have := HBS.out; omega) HT5.out HS5.out
        have wx : ∀ q, ((FN1 q ∨ FM1 q) → q ≠ w.heap.size) := fun q hq e => by
          rcases HOUT.out q hq with h2 | h2 | h2
          · have := (HM.out.bnd _ (.inl h2)).2.1; omega
          · have := (HM.out.bnd _ (.inr h2)).2.1; omega
          · omega
        have tS : Touch (fun q => q = w.heap.size) w5 ((w5.setCell ⟨w.heap.size, 0, none⟩ (.int .i64 fl)).setCell ⟨w.heap.size, 1, none⟩ (.int .i64 t.fr)) := ((Touch.refl (fun q => q = w.heap.size) w5).setCell (p := ⟨w.heap.size, 0, none⟩) (.inl rfl) _).setCell (p := ⟨w.heap.size, 1, none⟩) (.inl rfl) _
        have nxw : nx ≠ w.heap.size := by have := HM.out.on.inside; omega
        have M6 := M5.move tS (fun q hq e => by
          have e : q = w.heap.size := e
          rcases hq with ⟨h1 | h1, _⟩ | h1
          · exact wx q (.inl h1) e
          · omega
          · exact wx q (.inr h1) e) nxw
        refine ⟨fl, t.fr, fun q => (FN1 q ∨ (wr.alloc (.cells #[.int .i64 t.kind, .bool t.begun, .int .i64 t.fr, .int .i64 t.to, .string ⟨t.text.toArray⟩] 48)).heap.size ≤ q) ∧ q < w5.heap.size, FM1, rfl, fun _ => ⟨by rw [hal], hfl.symm⟩, fun hh => absurd (by rw [hal] at hh; exact hh) HF.out, ?_, fun q hq => ?_, ?_, ?_⟩
        · rw [hal]
          simp only
          rw [← hbs]
          exact M6
        · rcases hq with ⟨h1 | h1, _⟩ | h1
          · rcases HOUT.out q (.inl h1) with h2 | h2 | h2
            · exact .inl h2
            · exact .inr (.inl h2)
            · exact .inr (.inr (by omega))
          · exact .inr (.inr (by omega))
          · rcases HOUT.out q (.inr h1) with h2 | h2 | h2
            · exact .inl h2
            · exact .inr (.inl h2)
            · exact .inr (.inr (by omega))
        · have t1 := HA.out.touch
          have t2 : Touch (fun q => FN q ∨ FM q) w w5 := t1.trans ((Touch.of_new (F := FN1) HB2.out).trans HT5.out (fun _ _ h => h)) (fun q hq h1 => by
            rcases HOUT.out q (.inl h1) with h2 | h2 | h2
            · exact .inl h2
            · exact .inr h2
            · omega)
          exact t2.trans tS (fun q hq e => by have e : q = w.heap.size := e; omega)
        · rw [hal]
          simp only
          rw [← hbs]
          omega
    · have hje : j = ts.length := by have := h.le; omega
      subst hje
      have hd : ts.drop ts.length = [] := List.drop_length
      have hal := h.all
      rw [hd] at hal
      have hal : takeAll n ts = (n1, es0 ++ [], 0) := hal
      rw [List.append_nil] at hal
      have hTo := h.touch
      have hxb : n1.may.isBroken = false := by rw [← bad_broken]; exact h.pb.j.bad
      obtain ⟨c1, _⟩ := h.mach.ns.cells hxb
      have HD := Lib.hid (done_any nb _ wr c1)
      rw [code_not] at HD
      have cnx := h.mach.on.at 0
      have clx := (hTo.own HLX.out (fun hh => hh.elim HLXF.out.1 HLXF.out.2)).at 0
      simp at cnx clx
      have clb : wr.cell? ⟨lb, 0, none⟩ = some (.int .i64 k) := by
        have hl := cell_inside HLB.out
        exact (World.cell?_of_block (by exact hTo.block lb hl (fun hh => hh.elim HLBF.out.1 HLBF.out.2))).trans HLB.out
      have HAT := Lib.hid (at_any wr lb k clb)
      have r0 := h.res.at 0
      have r1 := h.res.at 1
      simp at r0 r1
      have g0 := h.res.free 0
      have g1 := h.res.free 1
      have HA := Lib.hid h
      have HAL := Lib.hid hal
      have HOUT := Lib.hid h.out
      -- the end, whatever the kind
      have FIN := Lib.hid (fun (kd : Int) (hkd : kd = if kind = 8 ∧ n1.may.isNothing = true then 9 else kind) => show Own ((wr.setCell ⟨w.heap.size, 0, none⟩ (.int .i64 kd)).setCell ⟨w.heap.size, 1, none⟩ (.int .i64 k)) w.heap.size 29 #[.int .i64 kd, .int .i64 k] ∧ ClEnd w base nb mb nx FN FM n bl ts kind k (.returned (.agg #[.int .i64 kd, .int .i64 k])) ((wr.setCell ⟨w.heap.size, 0, none⟩ (.int .i64 kd)).setCell ⟨w.heap.size, 1, none⟩ (.int .i64 k)) by
        have hO := (HA.out.res.put 0 (.int .i64 kd)).put 1 (.int .i64 k)
        refine ⟨by simpa using hO, kd, k, FN1, FM1, rfl, fun hh => absurd (by rw [hal]) hh, fun _ => ⟨by rw [hal]; exact hkd, rfl, ?_, by rw [hal]; exact HA.out.ci⟩, ?_, fun q hq => ?_, ?_, ?_⟩
        · rw [hal]
          simp only
          rw [← HA.out.bl_]
          exact HA.out.pb
        · rw [hal]
          simp only
          rw [← HA.out.bl_]
          refine HA.out.mach.move (((Touch.refl (fun q => q = w.heap.size) wr).setCell (p := ⟨w.heap.size, 0, none⟩) (.inl rfl) _).setCell (p := ⟨w.heap.size, 1, none⟩) (.inl rfl) _) (fun q hq e => ?_) (by show nx ≠ w.heap.size; have := HM.out.on.inside; omega)
          have e : q = w.heap.size := e
          rcases HOUT.out q hq with h2 | h2 | h2
          · have := (HM.out.bnd _ (.inl h2)).2.1; omega
          · have := (HM.out.bnd _ (.inr h2)).2.1; omega
          · omega
        · rcases HOUT.out q hq with h2 | h2 | h2
          · exact .inl h2
          · exact .inr (.inl h2)
          · exact .inr (.inr (by omega))
        · exact HA.out.touch.trans (((Touch.refl (fun q => q = w.heap.size) wr).setCell (p := ⟨w.heap.size, 0, none⟩) (.inl rfl) _).setCell (p := ⟨w.heap.size, 1, none⟩) (.inl rfl) _) (fun q hq e => by have e : q = w.heap.size := e; omega)
        · rw [hal]
          simp only
          rw [← HA.out.bl_]
          exact HA.out.size)
      clear h hd hal hTo hxb c1 clb
      by_cases hk8 : kind = 8
      · subst hk8
        cases hnn : n1.may.isNothing with
        | true =>
          rw [hnn] at HD FIN
          go_wp2_with (first
            | (go_at_call 15; refine HD.out.mono ?_; rintro e w' ⟨rfl, rfl⟩)
            | (go_at_call 16; refine HAT.out.mono ?_; rintro e w' ⟨rfl, rfl⟩))
          obtain ⟨hO, hE⟩ := FIN.out 9 rfl
          refine bodyPost_ret (results_cell_row rfl _ _ w.heap.size _ _ (0, 0) _ rfl hO Tryd.underlying29 rfl verd_size) rfl ?_
          exact hE
        | false =>
          rw [hnn] at HD FIN
          go_wp2_with (first
            | (go_at_call 15; refine HD.out.mono ?_; rintro e w' ⟨rfl, rfl⟩)
            | (go_at_call 16; refine HAT.out.mono ?_; rintro e w' ⟨rfl, rfl⟩))
          obtain ⟨hO, hE⟩ := FIN.out 8 rfl
          refine bodyPost_ret (results_cell_row rfl _ _ w.heap.size _ _ (0, 0) _ rfl hO Tryd.underlying29 rfl verd_size) rfl ?_
          exact hE
      · have hkb : (kind == 8) = false := beq_eq_false_iff_ne.2 hk8
        have hkd : kind = if kind = 8 ∧ n1.may.isNothing = true then 9 else kind := by rw [if_neg (fun hh => hk8 hh.1)]
        have HKD := Lib.hid hkd
        clear hkd hk8
        go_wp2_with (first
          | (go_at_call 16; refine HAT.out.mono ?_; rintro e w' ⟨rfl, rfl⟩))
        obtain ⟨hO, hE⟩ := FIN.out kind HKD.out
        refine bodyPost_ret (results_cell_row rfl _ _ w.heap.size _ _ (0, 0) _ rfl hO Tryd.underlying29 rfl verd_size) rfl ?_
        exact hE

end Go.Proofs.YthpkcapooeedeaaDoor
