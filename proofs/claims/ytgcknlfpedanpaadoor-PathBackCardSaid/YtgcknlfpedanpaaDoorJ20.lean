/- PathBack's walk, over what package path is proved to do. -/
import Derived.Test.YtgcknlfpedanpaaDoorRows
import Derived.Test.YtgcknlfpedanpaaDoorJ03
import Derived.Test.YtgcknlfpedanpaaDoorJ07
import Derived.Test.YtgcknlfpedanpaaDoorJ08
import Derived.Test.YtgcknlfpedanpaaDoorJ09
import Derived.Test.YtgcknlfpedanpaaDoorJ12
import Derived.Test.YtgcknlfpedanpaaDoorJ13
import Derived.Test.YtgcknlfpedanpaaDoorJ15
import Derived.Test.YtgcknlfpedanpaaDoorJ17
import Derived.Test.YtgcknlfpedanpaaDoorJ18
import Derived.Test.YtgcknlfpedanpaaDoorJ19
namespace Go.Proofs.YtgcknlfpedanpaaDoor
open Go.RowKit
set_option linter.unusedVariables false

theorem addP_succ (ad : Addr) (m : Nat) : ad.add (m + 1) = ⟨ad.block, ad.off + (m + 1), none⟩ := by unfold Addr.add; simp
theorem addP_zero (ad : Addr) : ad.add 0 = ad := by unfold Addr.add; simp
theorem addP_in (ad : Addr) (i r : Nat) (hr : 0 < r) : ad.add (i + r) = ⟨(ad.add i).block, (ad.add i).off + r, none⟩ := by
  obtain ⟨q, rfl⟩ : ∃ q, r = q + 1 := ⟨r - 1, by omega⟩
  rw [← Nat.add_assoc, addP_succ]
  cases i with
  | zero => rw [addP_zero]; simp
  | succ i => rw [addP_succ]; simp; omega
theorem rdp_cells {w : World} {a : Addr} {n : Nat} {l : List Pst} (h : RdP w (some a) n l) : ∀ j u, (stpK.all l)[j]? = some u → w.cell? (a.add j) = some u := by
  intro j u hu
  have h1 := (List.getElem?_eq_some_iff.1 hu).1
  rw [stpK.all_len] at h1
  have h1 : j < l.length * 3 := h1
  have hi : j / 3 < l.length := by omega
  obtain ⟨b, e, _, hc⟩ := h.2 (by have := h.1; omega)
  obtain rfl : a = b := Option.some.inj e
  obtain ⟨c0, c1, c2⟩ := hc (j / 3) l[j / 3] (List.getElem?_eq_getElem hi)
  have hat := stpK.all_at l (j / 3) l[j / 3] (List.getElem?_eq_getElem hi) (j % 3) (show j % 3 < 3 by omega)
  have hj : j / 3 * stpK.n + j % 3 = j := by show j / 3 * 3 + j % 3 = j; omega
  rw [hj, hu] at hat
  rcases (show j % 3 = 0 ∨ j % 3 = 1 ∨ j % 3 = 2 by omega) with h3 | h3 | h3
  · rw [h3] at hat
    have hat : some u = some (Value.bool l[j / 3].named) := hat
    rw [Option.some.inj hat, ← c0, show j / 3 * 3 = j by omega]
  · rw [h3] at hat
    have hat : some u = some (Value.string ⟨l[j / 3].name.toArray⟩) := hat
    rw [Option.some.inj hat, ← c1, ← addP_in a (j / 3 * 3) 1 (by omega), show j / 3 * 3 + 1 = j by omega]
  · rw [h3] at hat
    have hat : some u = some (Value.int .i64 l[j / 3].index) := hat
    rw [Option.some.inj hat, ← c2, ← addP_in a (j / 3 * 3) 2 (by omega), show j / 3 * 3 + 2 = j by omega]
/-- Appending steps that lie anywhere. -/
theorem run_step_append (w : World) (base : Nat) (ty : TypeId) (v : Value) (l : List Pst) (hown : GRow stpK w base v l) (A : Option Addr) (m c : Nat) (news : List Pst) (hr : RdP w A m news)
    (h63 : l.length + m ≤ 1000000000) (hbase : base ≤ w.heap.size) :
    ∃ v' w', (Builtin.append_ #[stpK.S, stpK.S] ty #[v, .slice A m c]).run Tryd.prog w = .ok v' w' ∧ GRow stpK w' base v' (l ++ news) ∧ w.grownBy w' v.ownBlock ∧ (v'.ownBlock = v.ownBlock ∨ v'.ownBlock = some w.heap.size) := by
  rcases Nat.eq_zero_or_pos m with h0 | h0
  · exact run_row_append w base ty v l hown A m c news ⟨hr.1, fun h => absurd h (by omega)⟩ h63 hbase
  obtain ⟨i, hi, hz, hsize, hby⟩ := info_parts stpK.info
  have hl : (l ++ news).length = l.length + m := by rw [List.length_append, hr.1]
  obtain ⟨ad, rfl, _, _⟩ := hr.2 h0
  have hc := rdp_cells hr
  have hbytes : (l.length + m) * stpK.bytes ≤ 140737488355328 := by
    have := Nat.mul_le_mul h63 stpK.small
    omega
  obtain ⟨v', w', h1, h2, h3, _, h5⟩ := run_append_own_at (P := Tryd.prog) w base stpK.S ty stpK.T i _ stpK.n stpK.bytes stpK.under hi hz hsize hby stpK.zlen stpK.pos v l.length (stpK.all l) hown ad m c (stpK.all news) (by rw [stpK.all_len, hr.1]) hc (stpK.all_one news) (by unfold maxLen; omega) hbytes hbase
  refine ⟨v', w', h1, ?_, h3, h5⟩
  unfold GRow
  rw [hl, stpK.all_append]
  exact h2
theorem step_append {ops : Array Oper} {rest : List Oper} {o : Oper} {a : Act} {Q : Exit → Act → World → Prop} (w : World) (hgd : o.guard = none) (s x : Operand) (ho : o.op = .call { callee := .builtin .append, args := #[s, x], argTypes := #[stpK.S, stpK.S] })
    (base : Nat) (v : Value) (l : List Pst) (hs : a.eval s = v) (hown : GRow stpK w base v l) (A : Option Addr) (m c : Nat) (news : List Pst) (hx : a.eval x = .slice A m c) (hr : RdP w A m news)
    (h63 : l.length + m ≤ 1000000000) (hbase : base ≤ w.heap.size)
    (h : ∀ v' w', GRow stpK w' base v' (l ++ news) → Below base w w' → wpList Tryd.prog ops Q rest (a.put o.dst v') w') : wpList Tryd.prog ops Q (o :: rest) a w :=
  wpList_plain hgd fun _ hK => by
    obtain ⟨v', w', hrun, h2, h3, h5⟩ := run_step_append w base o.type v l hown A m c news hr h63 hbase
    have hbl : Below base w w' := (Below.refl base w).grown h3 hbase fun g hg => (hown.low hg).1
    unfold Oper.wp execOp
    simp only [ho, resolve, invoke, builtin, Sem.run_bind, Sem.run_pure, Result.andThen_ok, List.map_toArray, List.map_cons, List.map_nil, hs, hx, hrun]
    exact hK _ _ (h v' w' h2 hbl)

/-- Where PathBack's loop is. -/
def RelPb (W : World) (l : List Pst) (r i : Value) (wr : World) : Prop := ∃ k : Nat, k ≤ l.length ∧ i = .int .i64 k ∧ r = .bool ((l.take k).all rightB) ∧ Below W.heap.size W wr

theorem back_yes {G : World → Prop} (D : ParC G) {l : List Pst} (hall : l.all rightB = true) (hw : wtP l ≤ 1000) (w : World) (hG : G w) :
    Calls Tryd.prog 14 #[.string ⟨(putP l).toArray⟩] w fun e w' => ∃ A n c, e = .returned (.tuple #[.slice A n c, .bool true]) ∧ RdP w' A n l ∧ Below w.heap.size w w' := by
  have hp : parseM (putP l) = some l := (parse_iff _ _).2 ⟨hall, rfl⟩
  have hz : (putP l).length ≤ 100000 := by
    have := flat_le l hall
    unfold putP
    rw [if_pos hall, List.length_cons]
    omega
  refine (D.parse ⟨(putP l).toArray⟩ w hG hz).mono ?_
  rintro e w' ⟨A, n, c, rfl, hr, _, hb⟩
  rw [show (⟨(putP l).toArray⟩ : ByteArray).data.toList = putP l from rfl, hp] at hr
  rw [show (⟨(putP l).toArray⟩ : ByteArray).data.toList = putP l from rfl, hp]
  exact ⟨A, n, c, rfl, hr, hb⟩
theorem read_none {G : World → Prop} (D : ParC G) {s : ByteArray} (h9 : s.size ≤ 1000) (hp : parseM s.data.toList = none) (w : World) (hG : G w) :
    Calls Tryd.prog 14 #[.string s] w fun e w' => ∃ A c, e = .returned (.tuple #[.slice A 0 c, .bool false]) ∧ Below w.heap.size w w' := by
  refine (D.parse s w hG (by omega)).mono ?_
  rintro e w' ⟨A, n, c, rfl, hr, _, hb⟩
  rw [hp] at hr
  obtain rfl : 0 = n := hr.1
  rw [hp]
  exact ⟨A, c, rfl, hb⟩
theorem read_some {G : World → Prop} (D : ParC G) {s : ByteArray} {k : List Pst} (h9 : s.size ≤ 1000) (hp : parseM s.data.toList = some k) (w : World) (hG : G w) :
    Calls Tryd.prog 14 #[.string s] w fun e w' => ∃ A n c, e = .returned (.tuple #[.slice A n c, .bool true]) ∧ RdP w' A n k ∧ Below w.heap.size w w' := by
  refine (D.parse s w hG (by omega)).mono ?_
  rintro e w' ⟨A, n, c, rfl, hr, _, hb⟩
  rw [hp] at hr
  rw [hp]
  exact ⟨A, n, c, rfl, hr, hb⟩
theorem put_read {G : World → Prop} (C : PathC G) {s : ByteArray} {k : List Pst} (h9 : s.size ≤ 1000) (hp : parseM s.data.toList = some k) (A : Option Addr) (n c : Nat) (w : World) (hG : G w) (h : RdP w A n k) :
    Calls Tryd.prog 10 #[.slice A n c] w fun e w' => e = .returned (.string s) ∧ Below w.heap.size w w' := by
  have hw := parse_wt hp
  have hw : wtP k ≤ s.size := hw
  refine (C.put k A n c w hG h (by omega)).mono ?_
  rintro e w' ⟨rfl, hb⟩
  have e1 : (⟨(putP k).toArray⟩ : ByteArray) = s := by
    rw [((parse_iff _ _).1 hp).2]
  rw [e1]
  exact ⟨rfl, hb⟩
theorem same_is (l l' : List Pst) (t : Bool) (ht : t = true ↔ l = l') (A A' : Option Addr) (n n' c c' : Nat) (w : World) (hx : RdP w A n l) (hx' : RdP w A' n' l') (h9 : l.length ≤ 100000) (h9' : l'.length ≤ 100000) :
    Calls Tryd.prog 16 #[.slice A n c, .slice A' n' c'] w fun e w' => e = .returned (.bool t) ∧ Below w.heap.size w w' := by
  have h1 := hx.1
  have h2 := hx'.1
  refine (same13_any l l' A A' n n' c c' w hx hx' (by omega) (by omega)).mono ?_
  rintro e w' ⟨b, rfl, hb, hbl⟩
  have : b = t := by
    cases b <;> cases t <;> simp_all
  rw [this]
  exact ⟨rfl, hbl⟩

set_option maxRecDepth 100000 in
set_option maxHeartbeats 2000000 in
theorem pathBack_core {G : World → Prop} (C : PathC G) (D : ParC G) (l m : List Pst) (A B : Option Addr) (n n' c c' : Nat) (s : ByteArray) (W : World) (hG : G W) (hx : RdP W A n l) (hy : RdP W B n' m) (hn : ∀ x ∈ l, x.name.length ≤ 140737488351232) (hn' : ∀ x ∈ m, x.name.length ≤ 140737488351232) (hs : s.size ≤ 9223372036854775807) :
    Calls Tryd.prog 5 #[.slice A n c, .slice B n' c', .string s] W fun e w' => e = .returned (.bool true) ∧ Below W.heap.size W w' := by
  have hl : l.length = n := hx.1
  have hl' : m.length = n' := hy.1
  have HX := Lib.hid hx
  have HY := Lib.hid hy
  have KV := Lib.hid (pathAlive_walk C W hG)
  have KG := Lib.hid (fun w (h : Below W.heap.size W w) => great13_any l A n c w (hx.stay h) hn)
  have KH := Lib.hid (fun w (h : Below W.heap.size W w) => great13_any m B n' c' w (hy.stay h) hn')
  clear hx hy
  by_cases hg : 1000 < wtP l
  · rw [decide_eq_true hg] at KG
    go_enter Tryd.func5, Tryd.ntmps5
    go_wp2_with (first
      | (go_at_call 6; refine KV.out.mono ?_; rintro e w1 ⟨rfl, hb1⟩)
      | (go_at_call 7; refine (KG.out _ hb1).mono ?_; rintro e w2 ⟨rfl, hb2⟩))
    go_ret
    exact ⟨rfl, hb1.trans (hb2.mono hb1.size)⟩
  rw [decide_eq_false hg] at KG
  by_cases hh : 1000 < wtP m
  · rw [decide_eq_true hh] at KH
    go_enter Tryd.func5, Tryd.ntmps5
    go_wp2_with (first
      | (go_at_call 6; refine KV.out.mono ?_; rintro e w1 ⟨rfl, hb1⟩)
      | (go_at_call 7; have tk3 := hb12; go_must (refine (KH.out _ hb12).mono ?_; rintro e w3 ⟨rfl, hb3⟩))
      | (go_at_call 7; go_must (refine (KG.out _ hb1).mono ?_; rintro e w2 ⟨rfl, hb2⟩; have hb12 := hb1.trans (hb2.mono hb1.size))))
    go_ret
    exact ⟨rfl, hb12.trans (hb3.mono hb12.size)⟩
  rw [decide_eq_false hh] at KH
  by_cases h9 : s.size > 1000
  · have q : (s.size : Int) > 1000 := by omega
    go_enter Tryd.func5, Tryd.ntmps5
    go_wp2_with (first
      | (go_at_call 6; refine KV.out.mono ?_; rintro e w1 ⟨rfl, hb1⟩)
      | (go_at_call 7; have tk3 := hb12; go_must (refine (KH.out _ hb12).mono ?_; rintro e w3 ⟨rfl, hb3⟩))
      | (go_at_call 7; go_must (refine (KG.out _ hb1).mono ?_; rintro e w2 ⟨rfl, hb2⟩; have hb12 := hb1.trans (hb2.mono hb1.size))))
    go_ret
    exact ⟨rfl, hb12.trans (hb3.mono hb12.size)⟩
  have q : ¬ (s.size : Int) > 1000 := by omega
  have hll : l.length ≤ 1000 := by have := wt_length l; omega
  have hlm : m.length ≤ 1000 := by have := wt_length m; omega
  have HR0 := Lib.hid (fun w : World => GRow.made (K := stpK) (l := []) w #[] rfl (Nat.zero_le _) (Nat.le_refl w.heap.size))
  go_enter Tryd.func5, Tryd.ntmps5
  go_wp2_with (first
    | (go_at_call 6; refine KV.out.mono ?_; rintro e w1 ⟨rfl, hb1⟩)
    | (go_at_call 7; have tk3 := hb12; go_must (refine (KH.out _ hb12).mono ?_; rintro e w3 ⟨rfl, hb3⟩; have hb13 := hb12.trans (hb3.mono hb12.size)))
    | (go_at_call 7; go_must (refine (KG.out _ hb1).mono ?_; rintro e w2 ⟨rfl, hb2⟩; have hb12 := hb1.trans (hb2.mono hb1.size)))
    | (at_builtin
       have tk5 := tk4
       go_must (
         refine step_append _ rfl (.tmp 29) (.tmp 30) rfl w3.heap.size v4 l rfl row4 B n' c' m rfl (HY.out.stay hb14) (by omega) hb34.size ?_
         intro v5 w5 row5 hb5
         have hb15 := hb13.trans ((hb34.trans hb5).mono hb13.size)
         obtain ⟨A5, c5, rfl, _⟩ := row5.form
         have R5 := Lib.hid (rdp_of row5.rd)))
    | (at_builtin
       go_must (
         refine step_append _ rfl (.tmp 27) (.tmp 28) rfl w3.heap.size _ [] rfl (HR0.out _) A n c l rfl (HX.out.stay (hb13.alloc hb13.size _)) (by simp; omega) (below1 _ _).size ?_
         intro v4 w4 row4 hb4
         have hb34 := (below1 w3 _).trans hb4
         have hb14 := hb13.trans (hb34.mono hb13.size)
         have tk4 := True.intro)))
  clear hb1 hb2 hb3 hb12 tk3 hb4 hb34 hb14 tk4 tk5 row4 row5 hb5 hb13
  have hlm2 : (l ++ m).length = n + n' := by rw [List.length_append, hl, hl']
  go_loopw [7, 33] (fun r i wr => RelPb W (l ++ m) r i wr ∧ Below w5.heap.size w5 wr) (fun _ i _ => (l ++ m).length - (intOf i).toNat)
  case atStart => exact ⟨⟨0, Nat.zero_le _, rfl, rfl, hb15⟩, Below.refl _ _⟩
  case round =>
    obtain ⟨⟨k, hk, rfl, rfl, hb⟩, hb5⟩ := hrel
    have hk9 : (k : Int) ≤ 2000 := by omega
    by_cases hlt : k < (l ++ m).length
    · have hltI : (k : Int) < (l ++ m).length := by omega
      have hX2 := R5.out.stay hb5
      obtain ⟨a, rfl, ha, hc⟩ := hX2.2 (by omega)
      obtain ⟨s0, s1, s2⟩ := hc k (l ++ m)[k] (List.getElem?_eq_getElem hlt)
      have HTA := Lib.hid (take_all hlt)
      have hmm : (l ++ m)[k].name.length ≤ 140737488351232 := by
        rcases List.mem_append.1 (List.getElem_mem hlt) with h | h
        · exact hn _ h
        · exact hn' _ h
      have R2 := Lib.hid (fun w => rright13_any (l ++ m)[k] w (by unfold maxLen; omega))
      unfold stpV at R2
      have o1 := Own.fresh wr 26 #[.bool (l ++ m)[k].named, .string ⟨(l ++ m)[k].name.toArray⟩, .int .i64 (l ++ m)[k].index]
      have HB := Lib.hid (fun o => hb.alloc hb.size o)
      have HB5 := Lib.hid (fun o => hb5.alloc hb5.size o)
      have e0 := o1.at 0
      have e1 := o1.at 1
      have e2 := o1.at 2
      simp at e0 e1 e2
      clear hc hX2 hmm o1
      generalize (l ++ m)[k] = sk at *
      generalize (⟨sk.name.toArray⟩ : ByteArray) = nm at *
      generalize sk.named = nd at *
      generalize sk.index = ix at *
      cases hall : ((l ++ m).take k).all rightB
      · rw [hall] at HTA
        go_wp2
        go_roundw
        case rel => exact ⟨⟨k + 1, hlt, by go_num, (by rw [HTA.out]; rfl), HB.out _⟩, HB5.out _⟩
        case measure => simp [intOf]; omega
      · rw [hall] at HTA
        go_wp2_with (go_at_call 9; refine (R2.out _).mono ?_; rintro e w6 ⟨rfl, hb6⟩; have HB6 := Lib.hid ((HB.out _).trans (hb6.mono (HB.out _).size)); have HB56 := Lib.hid ((HB5.out _).trans (hb6.mono (HB5.out _).size)); clear hb6)
        go_roundw
        case rel => exact ⟨⟨k + 1, hlt, by go_num, (by rw [HTA.out]; rfl), HB6.out⟩, HB56.out⟩
        case measure => simp [intOf]; omega
    · have hltI : ¬ (k : Int) < (l ++ m).length := by omega
      rw [List.take_of_length_le (show (l ++ m).length ≤ k by omega)]
      clear hb5 R5 hb15
      by_cases hall : (l ++ m).all rightB = true
      rotate_left
      · rw [Bool.eq_false_iff.2 hall]
        clear hall
        cases hp : parseM s.data.toList with
        | none =>
          have K2 := Lib.hid (fun w (h : Below W.heap.size W w) => read_none D (s := s) (by omega) hp w (C.go hG h))
          clear hp
          go_wp2_with (first
            | (go_at_call 14; go_must (refine (K2.out _ hb).mono ?_; rintro e w12 ⟨A7, c7, rfl, hb12⟩; have h12 := hb.trans (hb12.mono hb.size); clear hb12)))
          go_ret
          exact ⟨rfl, h12⟩
        | some x =>
          have K2 := Lib.hid (fun w (h : Below W.heap.size W w) => read_some D (s := s) (by omega) hp w (C.go hG h))
          have K4 := Lib.hid (fun A n c w (hb : Below W.heap.size W w) h => put_read C (s := s) (by omega) hp A n c w (C.go hG hb) h)
          have qs : (s.toList == s.toList) = true := by simp
          clear hp
          go_wp2_with (first
            | (go_at_call 10; have tk := h12; go_must (refine (K4.out _ _ _ _ h12 r12).mono ?_; rintro e w13 ⟨rfl, hb13⟩; have h13 := h12.trans (hb13.mono h12.size); clear hb13))
            | (go_at_call 14; go_must (refine (K2.out _ hb).mono ?_; rintro e w12 ⟨A7, n7, c7, rfl, r12, hb12⟩; have h12 := hb.trans (hb12.mono hb.size); clear hb12)))
          go_ret
          exact ⟨rfl, h13⟩
      · rw [hall]
        rw [List.all_append, Bool.and_eq_true] at hall
        obtain ⟨al, am⟩ := hall
        have B1 := Lib.hid (fun w (h : Below W.heap.size W w) => back_yes D al (by omega) w (C.go hG h))
        have P1 := Lib.hid (fun w (h : Below W.heap.size W w) => C.put l A n c w (C.go hG h) (HX.out.stay h) (by omega))
        have P2 := Lib.hid (fun w (h : Below W.heap.size W w) => C.put m B n' c' w (C.go hG h) (HY.out.stay h) (by omega))
        have S1 := Lib.hid (fun A2 n2 c2 w (h : RdP w A2 n2 l) (hb : Below W.heap.size W w) => same_is l l true ⟨fun _ => rfl, fun _ => rfl⟩ A2 A n2 n c2 c w h (HX.out.stay hb) (by omega) (by omega))
        by_cases heq : l = m
        · have S2 := Lib.hid (fun w (h : Below W.heap.size W w) => same_is l m true ⟨fun _ => heq, fun _ => rfl⟩ A B n n' c c' w (HX.out.stay h) (HY.out.stay h) (by omega) (by omega))
          rw [← heq] at P2
          generalize (⟨(putP l).toArray⟩ : ByteArray) = P at *
          have qp : (P.toList == P.toList) = true := by simp
          clear heq al am
          cases hp : parseM s.data.toList with
          | none =>
            have K2 := Lib.hid (fun w (h : Below W.heap.size W w) => read_none D (s := s) (by omega) hp w (C.go hG h))
            clear hp
            go_wp2_with (first
              | (go_at_call 14; have tk := h11; go_must (refine (K2.out _ h11).mono ?_; rintro e w12 ⟨A7, c7, rfl, hb12⟩; have h12 := h11.trans (hb12.mono h11.size); clear hb12))
              | (go_at_call 14; go_must (refine (B1.out _ h6).mono ?_; rintro e w7 ⟨A6, n6, c6, rfl, r7, hb7⟩; have h7 := h6.trans (hb7.mono h6.size); clear hb7))
              | (go_at_call 10; have tk := hq9; go_must (refine (P2.out _ hq9).mono ?_; rintro e w10 ⟨rfl, hb10⟩; have h10 := hq9.trans (hb10.mono hq9.size); clear hb10))
              | (go_at_call 10; have tk := h8; go_must (refine (P1.out _ h8).mono ?_; rintro e w9 ⟨rfl, hb9⟩; have hq9 := h8.trans (hb9.mono h8.size); clear hb9))
              | (go_at_call 10; go_must (refine (P1.out _ hb).mono ?_; rintro e w6 ⟨rfl, hb6⟩; have h6 := hb.trans (hb6.mono hb.size); clear hb6))
              | (go_at_call 16; have tk := h10; go_must (refine (S2.out _ h10).mono ?_; rintro e w11 ⟨rfl, hb11⟩; have h11 := h10.trans (hb11.mono h10.size); clear hb11))
              | (go_at_call 16; go_must (refine (S1.out _ _ _ _ r7 h7).mono ?_; rintro e w8 ⟨rfl, hb8⟩; have h8 := h7.trans (hb8.mono h7.size); clear hb8)))
            go_ret
            exact ⟨rfl, h12⟩
          | some x =>
            have K2 := Lib.hid (fun w (h : Below W.heap.size W w) => read_some D (s := s) (by omega) hp w (C.go hG h))
            have K4 := Lib.hid (fun A n c w (hb : Below W.heap.size W w) h => put_read C (s := s) (by omega) hp A n c w (C.go hG hb) h)
            have qs : (s.toList == s.toList) = true := by simp
            clear hp
            go_wp2_with (first
              | (go_at_call 10; have tk := h12; go_must (refine (K4.out _ _ _ _ h12 r12).mono ?_; rintro e w13 ⟨rfl, hb13⟩; have h13 := h12.trans (hb13.mono h12.size); clear hb13))
              | (go_at_call 14; have tk := h11; go_must (refine (K2.out _ h11).mono ?_; rintro e w12 ⟨A7, n7, c7, rfl, r12, hb12⟩; have h12 := h11.trans (hb12.mono h11.size); clear hb12))
              | (go_at_call 14; go_must (refine (B1.out _ h6).mono ?_; rintro e w7 ⟨A6, n6, c6, rfl, r7, hb7⟩; have h7 := h6.trans (hb7.mono h6.size); clear hb7))
              | (go_at_call 10; have tk := hq9; go_must (refine (P2.out _ hq9).mono ?_; rintro e w10 ⟨rfl, hb10⟩; have h10 := hq9.trans (hb10.mono hq9.size); clear hb10))
              | (go_at_call 10; have tk := h8; go_must (refine (P1.out _ h8).mono ?_; rintro e w9 ⟨rfl, hb9⟩; have hq9 := h8.trans (hb9.mono h8.size); clear hb9))
              | (go_at_call 10; go_must (refine (P1.out _ hb).mono ?_; rintro e w6 ⟨rfl, hb6⟩; have h6 := hb.trans (hb6.mono hb.size); clear hb6))
              | (go_at_call 16; have tk := h10; go_must (refine (S2.out _ h10).mono ?_; rintro e w11 ⟨rfl, hb11⟩; have h11 := h10.trans (hb11.mono h10.size); clear hb11))
              | (go_at_call 16; go_must (refine (S1.out _ _ _ _ r7 h7).mono ?_; rintro e w8 ⟨rfl, hb8⟩; have h8 := h7.trans (hb8.mono h7.size); clear hb8)))
            go_ret
            exact ⟨rfl, h13⟩
        · have S2 := Lib.hid (fun w (h : Below W.heap.size W w) => same_is l m false ⟨fun h => (by cases h), fun h => absurd h heq⟩ A B n n' c c' w (HX.out.stay h) (HY.out.stay h) (by omega) (by omega))
          have hne : putP l ≠ putP m := fun e => heq (put_inj al am e)
          have qpq : ((⟨(putP l).toArray⟩ : ByteArray).toList == (⟨(putP m).toArray⟩ : ByteArray).toList) = false := by
            rw [show (⟨(putP l).toArray⟩ : ByteArray).toList = putP l by simp, show (⟨(putP m).toArray⟩ : ByteArray).toList = putP m by simp]
            exact beq_eq_false_iff_ne.2 hne
          clear hne
          generalize (⟨(putP l).toArray⟩ : ByteArray) = P at *
          generalize (⟨(putP m).toArray⟩ : ByteArray) = Q at *
          clear heq al am
          cases hp : parseM s.data.toList with
          | none =>
            have K2 := Lib.hid (fun w (h : Below W.heap.size W w) => read_none D (s := s) (by omega) hp w (C.go hG h))
            clear hp
            go_wp2_with (first
              | (go_at_call 14; have tk := h11; go_must (refine (K2.out _ h11).mono ?_; rintro e w12 ⟨A7, c7, rfl, hb12⟩; have h12 := h11.trans (hb12.mono h11.size); clear hb12))
              | (go_at_call 14; go_must (refine (B1.out _ h6).mono ?_; rintro e w7 ⟨A6, n6, c6, rfl, r7, hb7⟩; have h7 := h6.trans (hb7.mono h6.size); clear hb7))
              | (go_at_call 10; have tk := hq9; go_must (refine (P2.out _ hq9).mono ?_; rintro e w10 ⟨rfl, hb10⟩; have h10 := hq9.trans (hb10.mono hq9.size); clear hb10))
              | (go_at_call 10; have tk := h8; go_must (refine (P1.out _ h8).mono ?_; rintro e w9 ⟨rfl, hb9⟩; have hq9 := h8.trans (hb9.mono h8.size); clear hb9))
              | (go_at_call 10; go_must (refine (P1.out _ hb).mono ?_; rintro e w6 ⟨rfl, hb6⟩; have h6 := hb.trans (hb6.mono hb.size); clear hb6))
              | (go_at_call 16; have tk := h10; go_must (refine (S2.out _ h10).mono ?_; rintro e w11 ⟨rfl, hb11⟩; have h11 := h10.trans (hb11.mono h10.size); clear hb11))
              | (go_at_call 16; go_must (refine (S1.out _ _ _ _ r7 h7).mono ?_; rintro e w8 ⟨rfl, hb8⟩; have h8 := h7.trans (hb8.mono h7.size); clear hb8)))
            go_ret
            exact ⟨rfl, h12⟩
          | some x =>
            have K2 := Lib.hid (fun w (h : Below W.heap.size W w) => read_some D (s := s) (by omega) hp w (C.go hG h))
            have K4 := Lib.hid (fun A n c w (hb : Below W.heap.size W w) h => put_read C (s := s) (by omega) hp A n c w (C.go hG hb) h)
            have qs : (s.toList == s.toList) = true := by simp
            clear hp
            go_wp2_with (first
              | (go_at_call 10; have tk := h12; go_must (refine (K4.out _ _ _ _ h12 r12).mono ?_; rintro e w13 ⟨rfl, hb13⟩; have h13 := h12.trans (hb13.mono h12.size); clear hb13))
              | (go_at_call 14; have tk := h11; go_must (refine (K2.out _ h11).mono ?_; rintro e w12 ⟨A7, n7, c7, rfl, r12, hb12⟩; have h12 := h11.trans (hb12.mono h11.size); clear hb12))
              | (go_at_call 14; go_must (refine (B1.out _ h6).mono ?_; rintro e w7 ⟨A6, n6, c6, rfl, r7, hb7⟩; have h7 := h6.trans (hb7.mono h6.size); clear hb7))
              | (go_at_call 10; have tk := hq9; go_must (refine (P2.out _ hq9).mono ?_; rintro e w10 ⟨rfl, hb10⟩; have h10 := hq9.trans (hb10.mono hq9.size); clear hb10))
              | (go_at_call 10; have tk := h8; go_must (refine (P1.out _ h8).mono ?_; rintro e w9 ⟨rfl, hb9⟩; have hq9 := h8.trans (hb9.mono h8.size); clear hb9))
              | (go_at_call 10; go_must (refine (P1.out _ hb).mono ?_; rintro e w6 ⟨rfl, hb6⟩; have h6 := hb.trans (hb6.mono hb.size); clear hb6))
              | (go_at_call 16; have tk := h10; go_must (refine (S2.out _ h10).mono ?_; rintro e w11 ⟨rfl, hb11⟩; have h11 := h10.trans (hb11.mono h10.size); clear hb11))
              | (go_at_call 16; go_must (refine (S1.out _ _ _ _ r7 h7).mono ?_; rintro e w8 ⟨rfl, hb8⟩; have h8 := h7.trans (hb8.mono h7.size); clear hb8)))
            go_ret
            exact ⟨rfl, h13⟩

end Go.Proofs.YtgcknlfpedanpaaDoor
