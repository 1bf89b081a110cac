/- The document's segment (riffleref14). -/
import Derived.Test.YtclcjngdpicjjaaJ06
import Derived.Handy
namespace Go.Proofs.Ytclcjngdpicjjaa
open Go.RowKit
set_option linter.unusedVariables false
set_option linter.unusedSimpArgs false

theorem ba_list (s : ByteArray) : (⟨s.data.toList.toArray⟩ : ByteArray) = s := by simp
theorem rbr_no {s : ByteArray} (h : brkQ s.data.toList = none) (hs : s.size ≤ 1000000) (h0 : 0 < s.size) (w : World) :
    Calls Try.prog 30 #[.string s] w fun e w' => e = .returned (.tuple #[.slice none 0 0, .int .i64 0]) ∧ Below w.heap.size w w' := by
  refine (rbracketed_any s w hs h0).mono fun e w' he => ?_
  unfold BrEnd at he
  rw [h] at he
  exact he
theorem rbr_yes {s : ByteArray} {xs : List Sel} {n : Nat} (h : brkQ s.data.toList = some (xs, n)) (hs : s.size ≤ 1000000) (h0 : 0 < s.size) (w : World) :
    Calls Try.prog 30 #[.string s] w fun e w' => ∃ A L c, e = .returned (.tuple #[.slice A L c, .int .i64 n]) ∧ GRow selK w' w.heap.size (.slice A L c) xs ∧ Below w.heap.size w w' := by
  refine (rbracketed_any s w hs h0).mono fun e w' he => ?_
  unfold BrEnd at he
  rw [h] at he
  obtain ⟨⟨v, he, hr, _⟩, hb⟩ := he
  obtain ⟨A, c, rfl, _⟩ := hr.form
  exact ⟨A, _, c, he, hr, hb⟩
theorem brkGo_in (l : List UInt8) : ∀ (f k : Nat) (acc xs : List Sel) (n : Nat), k ≤ l.length → brkGo l f k acc = some (xs, n) → k + 1 ≤ n ∧ n ≤ l.length + 1
  | 0, k, acc, xs, n, hk, h => by cases h
  | f + 1, k, acc, xs, n, hk, h => by
    have hr := runB_le (l.drop k)
    rw [List.length_drop] at hr
    rw [brkGo_on l f k acc _ _ rfl rfl] at h
    split at h
    · cases h
    · rename_i x m hx
      have hm := selQ_in hx
      rw [List.length_drop] at hm
      split at h
      · rename_i hc
        have := headL_lt hc
        injection h with h
        injection h with h1 h2
        omega
      · split at h
        · rename_i hc
          have hlt := headL_lt hc
          have := brkGo_in l f _ _ _ _ (by omega) h
          omega
        · cases h
theorem brk_in {l : List UInt8} {xs : List Sel} {n : Nat} (hl : l.length ≤ 1000000) (h : brkQ l = some (xs, n)) : n ≠ 0 ∧ n ≤ 2000000 := by
  unfold brkQ at h
  cases l with
  | nil =>
    have e : brkGo [] (([] : List UInt8).length + 1) 1 [] = none := rfl
    rw [e] at h
    cases h
  | cons c t =>
    have := brkGo_in (c :: t) _ 1 [] xs n (by simp) h
    omega
theorem dots_is {l : List UInt8} {k : Nat} (hk : k ≤ 2) (hy : ∀ i, i < k → l[i]? = some 46) (hn : k = 2 ∨ l[k]? ≠ some 46) : dotsN l = k := by
  unfold dotsN
  match k, hk with
  | 0, _ =>
    have h0 : l.head? ≠ some 46 := by rw [List.head?_eq_getElem?]; exact hn.resolve_left (by decide)
    rw [if_neg h0]
  | 1, _ =>
    have h0 : l.head? = some 46 := by rw [List.head?_eq_getElem?]; exact hy 0 (by decide)
    have h1 : l.tail.head? ≠ some 46 := by
      rw [List.head?_eq_getElem?, List.getElem?_tail]
      exact hn.resolve_left (by decide)
    rw [if_pos h0, if_neg h1]
  | 2, _ =>
    have h0 : l.head? = some 46 := by rw [List.head?_eq_getElem?]; exact hy 0 (by decide)
    have h1 : l.tail.head? = some 46 := by
      rw [List.head?_eq_getElem?, List.getElem?_tail]
      exact hy 1 (by decide)
    rw [if_pos h0, if_pos h1]
/-- The segment under way, and the result's block ahead of it. -/
def SgB (W : World) (c0 c1 : Value) (w : World) : Prop := Own w (W.heap.size + 1) 33 #[c0, c1] ∧ Own w W.heap.size 33 #[.bool false, .slice none 0 0] ∧ Below W.heap.size W w
section
variable {W w w' : World} {c0 c1 : Value}
theorem SgB.start (W : World) (b : Bool) : SgB W (.bool b) (.slice none 0 0) ((W.alloc (.cells #[.bool false, .slice none 0 0] 33)).alloc (.cells #[.bool b, .slice none 0 0] 33)) := by
  have e : (W.alloc (.cells #[.bool false, .slice none 0 0] 33)).heap.size = W.heap.size + 1 := by simp
  refine ⟨?_, (Own.fresh W _ _).over _, ((Below.refl _ W).alloc (Nat.le_refl _) _).alloc (by simp) _⟩
  have := Own.fresh (W.alloc (.cells #[.bool false, .slice none 0 0] 33)) 33 #[.bool b, .slice none 0 0]
  rw [e] at this
  exact this
theorem SgB.on (h : SgB W c0 c1 w) (hb : Below w.heap.size w w') : SgB W c0 c1 w' := ⟨h.1.stay hb h.1.inside, h.2.1.stay hb h.2.1.inside, h.2.2.trans (hb.mono h.2.2.size)⟩
theorem SgB.put (h : SgB W c0 c1 w) (u : Value) : SgB W c0 u (w.setCell ⟨W.heap.size + 1, 1, none⟩ u) :=
  ⟨by simpa using h.1.put 1 u, h.2.1.past (p := ⟨W.heap.size + 1, 1, none⟩) (by show W.heap.size ≠ W.heap.size + 1; omega) u, h.2.2.setCell (Nat.le_succ _) _⟩
theorem SgB.x0 (h : SgB W c0 c1 w) : w.cell? ⟨W.heap.size + 1, 0, none⟩ = some c0 := h.1.at 0
theorem SgB.x1 (h : SgB W c0 c1 w) : w.cell? ⟨W.heap.size + 1, 1, none⟩ = some c1 := h.1.at 1
theorem SgB.fx (h : SgB W c0 c1 w) (i : Nat) : w.frozen? ⟨W.heap.size + 1, i, none⟩ = false := h.1.free i
theorem SgB.z0 (h : SgB W c0 c1 w) : w.cell? ⟨W.heap.size, 0, none⟩ = some (.bool false) := h.2.1.at 0
theorem SgB.z1 (h : SgB W c0 c1 w) : w.cell? ⟨W.heap.size, 1, none⟩ = some (.slice none 0 0) := h.2.1.at 1
theorem SgB.fz (h : SgB W c0 c1 w) (i : Nat) : w.frozen? ⟨W.heap.size, i, none⟩ = false := h.2.1.free i
theorem SgB.fin (h : SgB W c0 c1 w) (u0 u1 : Value) : Own ((w.setCell ⟨W.heap.size, 0, none⟩ u0).setCell ⟨W.heap.size, 1, none⟩ u1) W.heap.size 33 #[u0, u1] ∧ Below W.heap.size W ((w.setCell ⟨W.heap.size, 0, none⟩ u0).setCell ⟨W.heap.size, 1, none⟩ u1) :=
  ⟨by simpa using (h.2.1.put 0 u0).put 1 u1, (h.2.2.setCell (Nat.le_refl _) _).setCell (Nat.le_refl _) _⟩
end
/-- A row of the call's own stays where cells of elder blocks are written. -/
theorem GRow.past {α : Type} {K : RowK α} {w : World} {base : Nat} {v : Value} {d : List α} (h : GRow K w base v d) {p : Addr} (hp : p.block < base) (u : Value) : GRow K (w.setCell p u) base v d :=
  h.stay fun g hg => Below.heap_setCell w p u g (by have := (h.low hg).1; omega)
theorem seg2 (W : World) (o1 o2 : Obj) : Below W.heap.size W ((W.alloc o1).alloc o2) := ((Below.refl _ W).alloc (Nat.le_refl _) o1).alloc (by simp) o2
theorem seg3 (W : World) (o1 o2 o3 : Obj) : Below W.heap.size W (((W.alloc o1).alloc o2).alloc o3) := (seg2 W o1 o2).alloc (by simp; omega) o3
theorem made2 (W : World) (o1 o2 : Obj) (x : Sel) : GRow selK (((W.alloc o1).alloc o2).alloc (.cells #[.int .i64 x.kind, .string x.name, .int .i64 x.index, .int .i64 x.start, .int .i64 x.en, .bool x.hs, .bool x.he, .int .i64 x.stride] 35)) W.heap.size (.slice (some ⟨W.heap.size + 2, 0, none⟩) 1 1) [x] := by
  have hz : ((W.alloc o1).alloc o2).heap.size = W.heap.size + 2 := by simp
  have := GRow.made (K := selK) (base := W.heap.size) (l := [x]) ((W.alloc o1).alloc o2) #[.int .i64 x.kind, .string x.name, .int .i64 x.index, .int .i64 x.start, .int .i64 x.en, .bool x.hs, .bool x.he, .int .i64 x.stride] rfl (show 1 ≤ maxLen by decide) (by rw [hz]; omega)
  rw [hz] at this
  exact this
/-- What segment answers. -/
def SgEnd (l : List UInt8) (W : World) (e : Ending) (w' : World) : Prop :=
  (match sgmQ l with
    | none => ∃ b A L c, e = .returned (.tuple #[.agg #[.bool b, .slice A L c], .int .i64 0])
    | some (x, n) => ∃ v, e = .returned (.tuple #[.agg #[.bool x.deep, v], .int .i64 n]) ∧ GRow selK w' W.heap.size v x.sels) ∧ Below W.heap.size W w'
theorem SgEnd.no {l : List UInt8} {W w' : World} {b : Bool} {A : Option Addr} {L c : Nat} (h : sgmQ l = none) (hb : Below W.heap.size W w') : SgEnd l W (.returned (.tuple #[.agg #[.bool b, .slice A L c], .int .i64 0])) w' := by
  unfold SgEnd; rw [h]; exact ⟨⟨b, A, L, c, rfl⟩, hb⟩
theorem SgEnd.yes {l : List UInt8} {W w' : World} {x : Sgm} {n : Nat} {k : Int} {b : Bool} {v : Value} (h : sgmQ l = some (x, n)) (hk : (n : Int) = k) (hd : x.deep = b) (hr : GRow selK w' W.heap.size v x.sels) (hb : Below W.heap.size W w') : SgEnd l W (.returned (.tuple #[.agg #[.bool b, v], .int .i64 k])) w' := by
  unfold SgEnd; rw [h, ← hk, ← hd]; exact ⟨⟨v, rfl, hr⟩, hb⟩
/-- Where segment's loop is. -/
def RelDt (s : ByteArray) (W : World) (va : Value) (wr : World) : Prop :=
  ∃ k : Nat, va = .int .i64 k ∧ k ≤ 2 ∧ k ≤ s.size ∧ (∀ i, i < k → s.data.toList[i]? = some 46) ∧ wr = W.alloc (.cells #[.bool false, .slice none 0 0] 33)

set_option maxHeartbeats 3000000 in
set_option maxRecDepth 100000 in
theorem rsegment_any (s : ByteArray) (W : World) (hs : s.size ≤ 1000000) :
    Calls Try.prog 18 #[.string s] W (SgEnd s.data.toList W) := by
  go_enter Try.func18, Try.ntmps18
  go_wp2
  go_loopw [4] (fun va wr => RelDt s W va wr) (fun va _ => 2 - (intOf va).toNat)
  case atStart => exact ⟨0, rfl, by omega, by omega, fun i hi => by omega, rfl⟩
  case round =>
    obtain ⟨k, rfl, hk2, hks, hdots, rfl⟩ := hrel
    by_cases hgo : k < 2 ∧ ∃ h : k < s.size, s[k] = 46
    · obtain ⟨hlt2, hlt, h46⟩ := hgo
      have i1 : (k : Int) < s.size := by omega
      have i2 : (k : Int) < 2 := by omega
      have g46 : ((s[k].toNat : Int) == 46) = true := by rw [h46]; rfl
      have HD := Lib.hid (show ∀ i, i < k + 1 → s.data.toList[i]? = some 46 from fun i hi => by
        rcases Nat.lt_or_ge i k with h | h
        · exact hdots i h
        · obtain rfl : i = k := by omega
          rw [List.getElem?_eq_getElem (show i < s.data.toList.length from hlt)]
          exact congrArg some h46)
      clear hdots h46
      go_wp2
      go_roundw
      case rel => exact ⟨k + 1, by go_num, by omega, by omega, HD.out, rfl⟩
      case measure => simp [intOf]; omega
    have hdn : dotsN s.data.toList = k := dots_is hk2 hdots (by
      by_cases h2 : k = 2
      · exact .inl h2
      · refine .inr fun e => hgo ⟨by omega, ?_⟩
        have hlt : k < s.data.toList.length := (List.getElem?_eq_some_iff.1 e).1
        rw [List.getElem?_eq_getElem hlt] at e
        exact ⟨hlt, Option.some.inj e⟩)
    have hstop : (¬ (k : Int) < s.size) ∨ ((k : Int) < s.size ∧ ¬ (k : Int) < 2) ∨ ((k : Int) < s.size ∧ (k : Int) < 2 ∧ ∀ h : k < s.size, ((s[k].toNat : Int) == 46) = false) := by
      by_cases h1 : k < s.size
      · by_cases h2 : k < 2
        · exact .inr (.inr ⟨by omega, by omega, fun h => byteI_ne (d := 46) (fun e => hgo ⟨h2, h, e⟩)⟩)
        · exact .inr (.inl ⟨by omega, by omega⟩)
      · exact .inl (by omega)
    have hsg : sgmQ s.data.toList = (sgmR k (s.data.toList.drop k)).map fun p => (⟨decide (k = 2), p.1⟩, k + p.2) := by unfold sgmQ; rw [hdn]
    clear hgo hdots hdn
    obtain ⟨b, hb2⟩ : ∃ b, decide (k = 2) = b := ⟨_, rfl⟩
    have hbI : ((k : Int) == 2) = b := by
      rw [← hb2]
      by_cases h2 : k = 2
      · rw [decide_eq_true h2, h2]; rfl
      · rw [decide_eq_false h2]; exact beq_eq_false_iff_ne.2 (by omega)
    rw [hb2] at hsg
    have S0 := Lib.hid (SgB.start W b)
    have sK : (k : Int) ≤ s.size := by omega
    have ht := tail13 s k hks
    have hz := tail_size s k hks
    have hle_k := hks
    by_cases h91 : (s.data.toList.drop k).head? = some 91 ∧ k ≠ 1
    · obtain ⟨h91, hk1⟩ := h91
      have hR : sgmR k (s.data.toList.drop k) = brkQ (s.data.toList.drop k) := by unfold sgmR; rw [if_pos ⟨h91, hk1⟩]
      rw [hR] at hsg
      have hlt := head_lt h91
      have C1 := Lib.hid (fun w => beg_at (s := s) (p := k) 91 91 rfl true hle_k hs (decide_eq_true h91) w)
      have k1I : ((k : Int) != 1) = true := by rw [bne_iff_ne]; omega
      clear hR h91
      cases hx : brkQ (s.data.toList.drop k) with
      | none =>
        rw [hx] at hsg
        have HQ := Lib.hid (show sgmQ s.data.toList = none from hsg)
        have KB := Lib.hid (fun w => rbr_no (s := s.extract k s.size) (by rw [ht]; exact hx) (by omega) (by omega) w)
        clear hsg hx ht hz
        rcases hstop with hst | ⟨hst, hst2⟩ | ⟨hst, hst2, hst3⟩
        · omega
        all_goals
          (try have hst3 := hst3 (by omega))
          go_wp2_with (first
            | (go_at_call 16; with_reducible refine (C1.out _).mono ?_; rintro e w' ⟨rfl, rfl⟩)
            | (go_at_call 30; with_reducible refine (KB.out _).mono ?_; rintro e w1 ⟨rfl, hb1⟩; have h1 := S0.out.on hb1; have a1 := h1.x1; have f1 := h1.fx 1; have h2 := h1.put (.slice none 0 0); have x0 := h2.x0; have x1 := h2.x1; have z0 := h2.z0; have z1 := h2.z1; have y0 := h2.fz 0; have y1 := h2.fz 1; have S2 := Lib.hid h2; clear h1 h2 hb1))
          have HF := S2.out.fin (.bool b) (.slice none 0 0)
          have m0 := HF.1.at 0
          have m1 := HF.1.at 1
          simp at m0 m1
          refine bodyPost_ret (by simp [results, Try.results18, go_sem, m0, m1]; try rfl) rfl ?_
          exact SgEnd.no HQ.out HF.2
      | some q =>
        obtain ⟨xs, n⟩ := q
        rw [hx] at hsg
        have HQ := Lib.hid (show sgmQ s.data.toList = some (⟨b, xs⟩, k + n) from hsg)
        have KB := Lib.hid (fun w => rbr_yes (s := s.extract k s.size) (by rw [ht]; exact hx) (by omega) (by omega) w)
        have hn : n ≠ 0 ∧ n ≤ 2000000 := brk_in (by rw [List.length_drop]; show s.size - k ≤ _; omega) hx
        have nI : ((n : Int) == 0) = false := beq_eq_false_iff_ne.2 (by omega)
        have n9 : (n : Int) ≤ 2000000 := by omega
        clear hsg hx ht hz
        rcases hstop with hst | ⟨hst, hst2⟩ | ⟨hst, hst2, hst3⟩
        · omega
        all_goals
          (try have hst3 := hst3 (by omega))
          go_wp2_with (first
            | (go_at_call 16; with_reducible refine (C1.out _).mono ?_; rintro e w' ⟨rfl, rfl⟩)
            | (go_at_call 30; with_reducible refine (KB.out _).mono ?_; rintro e w1 ⟨A, L, c, rfl, hr1, hb1⟩; have h1 := S0.out.on hb1; have a1 := h1.x1; have f1 := h1.fx 1; have h2 := h1.put (.slice A L c); have x0 := h2.x0; have x1 := h2.x1; have z0 := h2.z0; have z1 := h2.z1; have y0 := h2.fz 0; have y1 := h2.fz 1; have S2 := Lib.hid h2; have R1 := Lib.hid hr1; clear h1 h2 hb1 hr1))
          have HF := S2.out.fin (.bool b) (.slice A L c)
          have m0 := HF.1.at 0
          have m1 := HF.1.at 1
          simp at m0 m1
          refine bodyPost_ret (by simp [results, Try.results18, go_sem, m0, m1]; try rfl) rfl ?_
          have hR := R1.out
          have hzW : (((W.alloc (.cells #[.bool false, .slice none 0 0] 33)).alloc (.cells #[.bool b, .slice none 0 0] 33))).heap.size = W.heap.size + 2 := by simp
          rw [hzW] at hR
          exact SgEnd.yes HQ.out (by omega) rfl ((((hR.past (p := ⟨W.heap.size + 1, 1, none⟩) (by show W.heap.size + 1 < _; omega) _).past (p := ⟨W.heap.size, 0, none⟩) (by show W.heap.size < _; omega) _).past (p := ⟨W.heap.size, 1, none⟩) (by show W.heap.size < _; omega) _).mono (by omega)) HF.2
    · have hR : sgmR k (s.data.toList.drop k) = if k = 0 then none else if (s.data.toList.drop k).head? = some 42 then some ([sqA], 1) else if plnN false (s.data.toList.drop k) = 0 then none else some ([sqN ((s.data.toList.drop k).take (plnN false (s.data.toList.drop k)))], plnN false (s.data.toList.drop k)) := by unfold sgmR; rw [if_neg h91]
      rw [hR] at hsg
      clear hR
      have h1 : (s.data.toList.drop k).head? ≠ some 91 ∨ (s.data.toList.drop k).head? = some 91 ∧ k = 1 := by
        by_cases h : (s.data.toList.drop k).head? = some 91
        · exact .inr ⟨h, Classical.not_not.1 (fun hk => h91 ⟨h, hk⟩)⟩
        · exact .inl h
      clear h91
      by_cases hk0 : k = 0
      · have HQ := Lib.hid (show sgmQ s.data.toList = none by rw [hsg, if_pos hk0]; rfl)
        have kI : ¬ (k : Int) > 0 := by omega
        have h91 : (s.data.toList.drop k).head? ≠ some 91 := h1.elim id (fun h => by omega)
        have C1 := Lib.hid (fun w => beg_at (s := s) (p := k) 91 91 rfl false hle_k hs (decide_eq_false h91) w)
        have kI2 : (k : Int) < 2 := by omega
        clear hsg h1 h91 hk0 ht hz hb2
        have S1 := S0.out
        have a1 := S1.x1
        have f1 := S1.fx 1
        have x0 := S1.x0
        have z0 := S1.z0
        have z1 := S1.z1
        have y0 := S1.fz 0
        have y1 := S1.fz 1
        clear S1
        rcases hstop with hst | ⟨hst, hst2⟩ | ⟨hst, hst2, hst3⟩
        · go_wp2_with (go_at_call 16; with_reducible refine (C1.out _).mono ?_; rintro e w' ⟨rfl, rfl⟩)
          refine bodyPost_ret (by simp [results, Try.results18, go_sem]; try rfl) rfl ?_
          exact SgEnd.no HQ.out (seg2 _ _ _)
        · omega
        · have hst3 := hst3 (by omega)
          go_wp2_with (go_at_call 16; with_reducible refine (C1.out _).mono ?_; rintro e w' ⟨rfl, rfl⟩)
          refine bodyPost_ret (by simp [results, Try.results18, go_sem]; try rfl) rfl ?_
          exact SgEnd.no HQ.out (seg2 _ _ _)
      rw [if_neg hk0] at hsg
      have kI : (k : Int) > 0 := by omega
      by_cases h42 : (s.data.toList.drop k).head? = some 42
      · rw [if_pos h42] at hsg
        have HQ := Lib.hid (show sgmQ s.data.toList = some (⟨b, [sqA]⟩, k + 1) from hsg)
        have h91 : (s.data.toList.drop k).head? ≠ some 91 := fun h => by rw [h42] at h; cases h
        have hlt := head_lt h42
        have C1 := Lib.hid (fun w => beg_at (s := s) (p := k) 91 91 rfl false hle_k hs (decide_eq_false h91) w)
        have C2 := Lib.hid (fun w => beg_at (s := s) (p := k) 42 42 rfl true hle_k hs (decide_eq_true h42) w)
        clear hsg h91 h42 ht hz hb2 hk0 h1
        rcases hstop with hst | ⟨hst, hst2⟩ | ⟨hst, hst2, hst3⟩
        · omega
        all_goals
          (try have hst3 := hst3 (by omega))
          go_wp2_with (first
            | (go_at_call 16; with_reducible refine (C1.out _).mono ?_; rintro e w' ⟨rfl, rfl⟩)
            | (go_at_call 16; with_reducible refine (C2.out _).mono ?_; rintro e w' ⟨rfl, rfl⟩))
          refine bodyPost_ret (by simp [results, Try.results18, go_sem]; try rfl) rfl ?_
          exact SgEnd.yes HQ.out (by omega) rfl (made2 W _ _ sqA) (seg3 _ _ _ _)
      · rw [if_neg h42] at hsg
        have C2 := Lib.hid (fun w => beg_at (s := s) (p := k) 42 42 rfl false hle_k hs (decide_eq_false h42) w)
        have KP := Lib.hid (fun w => rplain_any (s.extract k s.size) w (by omega))
        rw [ht] at KP
        have hpl := plnN_le false (s.data.toList.drop k)
        rw [List.length_drop] at hpl
        have hpl : plnN false (s.data.toList.drop k) ≤ s.size - k := hpl
        have hh3 := part14 (s.extract k s.size) 0 (plnN false (s.data.toList.drop k)) (by omega)
        rw [Nat.zero_add, List.drop_zero, ht] at hh3
        obtain ⟨n, hn⟩ : ∃ n, plnN false (s.data.toList.drop k) = n := ⟨_, rfl⟩
        rw [hn] at hsg KP hpl hh3
        have nI9 : (n : Int) ≤ s.size - k := by omega
        have nI8 : (n : Int) ≤ (s.extract k s.size).size := by omega
        have HX := Lib.hid (show sqN ((s.data.toList.drop k).take n) = ⟨0, (s.extract k s.size).extract 0 n, 0, 0, 0, false, false, 0⟩ by unfold sqN; rw [← hh3, ba_list])
        clear h42 hh3 hb2 hk0 hn
        have hC1 : (∃ b1 : Bool, (∀ w, Calls Try.prog 16 #[.string (s.extract k s.size), .int .u8 91] w fun e w' => e = .returned (.bool b1) ∧ w = w') ∧ (b1 = true → ((k : Int) != 1) = false)) := by
          rcases h1 with h | ⟨h, hk⟩
          · exact ⟨false, fun w => beg_at (s := s) (p := k) 91 91 rfl false hle_k hs (decide_eq_false h) w, fun h => by cases h⟩
          · exact ⟨true, fun w => beg_at (s := s) (p := k) 91 91 rfl true hle_k hs (decide_eq_true h) w, fun _ => by rw [hk]; rfl⟩
        clear h1
        obtain ⟨b1, c1, hb1⟩ := hC1
        have C1 := Lib.hid c1
        clear c1
        by_cases hn0 : n = 0
        · rw [if_pos hn0] at hsg
          have HQ := Lib.hid (show sgmQ s.data.toList = none from hsg)
          have nI : ((n : Int) == 0) = true := by rw [hn0]; rfl
          clear hsg ht hz hn0
          cases b1
          all_goals
            (try have hb1 := hb1 rfl)
            rcases hstop with hst | ⟨hst, hst2⟩ | ⟨hst, hst2, hst3⟩
            all_goals
              (try have hst3 := hst3 (by omega))
              go_wp2_with (first
                | (go_at_call 16; with_reducible refine (C1.out _).mono ?_; rintro e w' ⟨rfl, rfl⟩)
                | (go_at_call 16; with_reducible refine (C2.out _).mono ?_; rintro e w' ⟨rfl, rfl⟩)
                | (go_at_call 31; with_reducible refine (KP.out _).mono ?_; rintro e w' ⟨rfl, rfl⟩))
              refine bodyPost_ret (by simp [results, Try.results18, go_sem]; try rfl) rfl ?_
              exact SgEnd.no HQ.out (seg3 _ _ _ _)
        · rw [if_neg hn0] at hsg
          have HQ := Lib.hid (show sgmQ s.data.toList = some (⟨b, [⟨0, (s.extract k s.size).extract 0 n, 0, 0, 0, false, false, 0⟩]⟩, k + n) by rw [hsg, HX.out]; rfl)
          have nI : ((n : Int) == 0) = false := beq_eq_false_iff_ne.2 (by omega)
          clear hsg ht hz hn0
          cases b1
          all_goals
            (try have hb1 := hb1 rfl)
            rcases hstop with hst | ⟨hst, hst2⟩ | ⟨hst, hst2, hst3⟩
            all_goals
              (try have hst3 := hst3 (by omega))
              go_wp2_with (first
                | (go_at_call 16; with_reducible refine (C1.out _).mono ?_; rintro e w' ⟨rfl, rfl⟩)
                | (go_at_call 16; with_reducible refine (C2.out _).mono ?_; rintro e w' ⟨rfl, rfl⟩)
                | (go_at_call 31; with_reducible refine (KP.out _).mono ?_; rintro e w' ⟨rfl, rfl⟩))
              refine bodyPost_ret (by simp [results, Try.results18, go_sem]; try rfl) rfl ?_
              exact SgEnd.yes HQ.out (by omega) rfl (made2 W _ _ _) (seg3 _ _ _ _)

end Go.Proofs.Ytclcjngdpicjjaa

namespace Go.Proofs.Ytclcjngdpicjjaa
open Go.RowKit
set_option linter.unusedVariables false
set_option linter.unusedSimpArgs false

/-- A segment as it lies in memory. -/
structure SegV where
  deep : Bool
  A : Option Addr
  n : Nat
  c : Nat
def sgmK : RowK SegV where
  T := 33
  S := 24
  n := 2
  bytes := 32
  zero := .agg #[.bool false, .slice none 0 0]
  enc := fun s => [.bool s.deep, .slice s.A s.n s.c]
  pos := by decide
  len := fun _ => rfl
  one := fun s u h => by simp at h; rcases h with rfl | rfl <;> rfl
  under := Try.underlying24
  info := by kernel_rfl
  zlen := rfl
  small := by decide
/-- A query of the call's own. -/
def QIs (w : World) (base : Nat) (v : Value) (xs : List Sgm) : Prop :=
  ∃ ss : List SegV, GRow sgmK w base v ss ∧ ss.length = xs.length ∧ ∀ (i : Nat) (s : SegV) (x : Sgm), ss[i]? = some s → xs[i]? = some x → s.deep = x.deep ∧ GRow selK w base (.slice s.A s.n s.c) x.sels
theorem QIs.keep {w w' : World} {base B : Nat} {v : Value} {xs : List Sgm} (h : QIs w base v xs) (hb : Below B w w') (hB : w.heap.size ≤ B) : QIs w' base v xs := by
  obtain ⟨ss, h1, h2, h3⟩ := h
  exact ⟨ss, h1.keep hb hB, h2, fun i s x hs hx => ⟨(h3 i s x hs hx).1, (h3 i s x hs hx).2.keep hb hB⟩⟩
theorem row_ne {w : World} {base : Nat} {v u : Value} {ss : List SegV} {xs : List Sel} (h : GRow sgmK w base v ss) (h' : GRow selK w base u xs) {g : Nat} (hg : v.ownBlock = some g) (hu : u.ownBlock = some g) : False := by
  rcases h.2 with ⟨rfl, _⟩ | ⟨g1, c1, cur1, rfl, _, hh1, _⟩
  · simp [Value.ownBlock] at hg
  rcases h'.2 with ⟨rfl, _⟩ | ⟨g2, c2, cur2, rfl, _, hh2, _⟩
  · simp [Value.ownBlock] at hu
  have e1 : g1 = g := by simpa [Value.ownBlock] using hg
  have e2 : g2 = g := by simpa [Value.ownBlock] using hu
  subst e1 e2
  rw [hh1] at hh2
  have := Option.some.inj hh2
  injection this with _ ht _
  exact absurd ht (by decide)
theorem brkGo_low (l : List UInt8) : ∀ (f k : Nat) (acc xs : List Sel) (n : Nat), k ≤ l.length → brkGo l f k acc = some (xs, n) → k + 1 ≤ n ∧ n ≤ l.length
  | 0, k, acc, xs, n, hk, h => by cases h
  | f + 1, k, acc, xs, n, hk, h => by
    have hr := runB_le (l.drop k)
    rw [List.length_drop] at hr
    rw [brkGo_on l f k acc _ _ rfl rfl] at h
    split at h
    · cases h
    · rename_i x m hx
      have hm := selQ_in hx
      rw [List.length_drop] at hm
      split at h
      · rename_i hc
        have := headL_lt hc
        injection h with h
        injection h with h1 h2
        omega
      · split at h
        · rename_i hc
          have hlt := headL_lt hc
          have := brkGo_low l f _ _ _ _ (by omega) h
          omega
        · cases h
theorem sgmR_in {p : Nat} {r : List UInt8} {xs : List Sel} {n : Nat} (h : sgmR p r = some (xs, n)) : 1 ≤ n ∧ n ≤ r.length := by
  unfold sgmR at h
  split at h
  · rename_i hc
    have hlt := headL_lt (l := r) (p := 0) hc.1
    have := brkGo_low r _ 1 [] xs n (by omega) h
    omega
  split at h
  · cases h
  split at h
  · rename_i hc
    have hlt := headL_lt (l := r) (p := 0) hc
    injection h with h
    injection h with h1 h2
    omega
  split at h
  · cases h
  · rename_i hn
    have := plnN_le false r
    injection h with h
    injection h with h1 h2
    omega
theorem sgmQ_in {l : List UInt8} {x : Sgm} {n : Nat} (h : sgmQ l = some (x, n)) : 1 ≤ n ∧ n ≤ l.length := by
  unfold sgmQ at h
  cases hr : sgmR (dotsN l) (l.drop (dotsN l)) with
  | none => rw [hr] at h; cases h
  | some q =>
    rw [hr] at h
    have hq := sgmR_in (xs := q.1) (n := q.2) hr
    rw [List.length_drop] at hq
    injection h with h
    injection h with h1 h2
    omega
theorem rsg_no {s : ByteArray} (h : sgmQ s.data.toList = none) (hs : s.size ≤ 1000000) (w : World) :
    Calls Try.prog 18 #[.string s] w fun e w' => ∃ b A L c, e = .returned (.tuple #[.agg #[.bool b, .slice A L c], .int .i64 0]) ∧ Below w.heap.size w w' := by
  refine (rsegment_any s w hs).mono fun e w' he => ?_
  unfold SgEnd at he
  rw [h] at he
  obtain ⟨⟨b, A, L, c, he⟩, hb⟩ := he
  exact ⟨b, A, L, c, he, hb⟩
theorem rsg_yes {s : ByteArray} {x : Sgm} {n : Nat} (h : sgmQ s.data.toList = some (x, n)) (hs : s.size ≤ 1000000) (w : World) :
    Calls Try.prog 18 #[.string s] w fun e w' => ∃ A L c, e = .returned (.tuple #[.agg #[.bool x.deep, .slice A L c], .int .i64 n]) ∧ GRow selK w' w.heap.size (.slice A L c) x.sels ∧ Below w.heap.size w w' := by
  refine (rsegment_any s w hs).mono fun e w' he => ?_
  unfold SgEnd at he
  rw [h] at he
  obtain ⟨⟨v, he, hr⟩, hb⟩ := he
  obtain ⟨A, c, rfl, _⟩ := hr.form
  exact ⟨A, _, c, he, hr, hb⟩
theorem new_seg (w : World) (b : Bool) (A : Option Addr) (n c : Nat) : RdG sgmK (w.alloc (.cells #[.bool b, .slice A n c] 33)) (some ⟨w.heap.size, 0, none⟩) 1 [⟨b, A, n, c⟩] :=
  (GRow.made (K := sgmK) (base := 0) (l := [⟨b, A, n, c⟩]) w _ rfl (show 1 ≤ maxLen by decide) (Nat.zero_le _)).rd
theorem queGo_on (f : Nat) (l : List UInt8) (acc : List Sgm) : queGo (f + 1) l acc = if l = [] then some acc else match sgmQ (l.drop (runB l)) with
    | none => none
    | some (x, n) => queGo f (l.drop (runB l + n)) (acc ++ [x]) := rfl
/-- What Parse answers. -/
def QpEnd (l : List UInt8) (W : World) (e : Ending) (w' : World) : Prop :=
  (match queQ l with
    | none => e = .returned (.tuple #[.slice none 0 0, .bool false])
    | some xs => ∃ v, e = .returned (.tuple #[v, .bool true]) ∧ QIs w' W.heap.size v xs ∧ xs.length ≤ l.length) ∧ Below W.heap.size W w'
theorem QpEnd.no {l : List UInt8} {W w' : World} (h : queQ l = none) (hb : Below W.heap.size W w') : QpEnd l W (.returned (.tuple #[.slice none 0 0, .bool false])) w' := by
  unfold QpEnd; rw [h]; exact ⟨rfl, hb⟩
theorem QpEnd.yes {l : List UInt8} {W w' : World} {xs : List Sgm} {v : Value} (h : queQ l = some xs) (hr : QIs w' W.heap.size v xs) (hl : xs.length ≤ l.length) (hb : Below W.heap.size W w') : QpEnd l W (.returned (.tuple #[v, .bool true])) w' := by
  unfold QpEnd; rw [h]; exact ⟨⟨v, rfl, hr, hl⟩, hb⟩
/-- One segment more. -/
theorem QIs.snoc {w w' : World} {base : Nat} {v v' : Value} {acc : List Sgm} {x : Sgm} {ss : List SegV} {A : Option Addr} {n c : Nat}
    (h1 : GRow sgmK w base v ss) (h2 : ss.length = acc.length) (h3 : ∀ (i : Nat) (s : SegV) (y : Sgm), ss[i]? = some s → acc[i]? = some y → s.deep = y.deep ∧ GRow selK w base (.slice s.A s.n s.c) y.sels)
    (hx : GRow selK w base (.slice A n c) x.sels) (hrow : GRow sgmK w' base v' (ss ++ [⟨x.deep, A, n, c⟩])) (hg : w.grownBy w' v.ownBlock) (hbase : base ≤ w.heap.size) : QIs w' base v' (acc ++ [x]) := by
  have hk : ∀ {u : Value} {xs : List Sel}, GRow selK w base u xs → GRow selK w' base u xs := fun {u xs} hu => hu.stay fun g hgu => by
    have hlow := hu.low hgu
    exact hg.block g hlow.2 (fun e => row_ne h1 hu e.symm hgu)
  refine ⟨_, hrow, by simp [h2], fun i s y hs hy => ?_⟩
  rcases Nat.lt_or_ge i ss.length with h | h
  · rw [List.getElem?_append_left h] at hs
    rw [List.getElem?_append_left (by omega)] at hy
    obtain ⟨e, hr⟩ := h3 i s y hs hy
    exact ⟨e, hk hr⟩
  · have hi : i = ss.length := by
      have := (List.getElem?_eq_some_iff.1 hs).1
      simp at this
      omega
    subst hi
    rw [List.getElem?_append_right (Nat.le_refl _)] at hs
    rw [h2, List.getElem?_append_right (Nat.le_refl _)] at hy
    simp at hs hy
    subst hs hy
    exact ⟨rfl, hk hx⟩

end Go.Proofs.Ytclcjngdpicjjaa

namespace Go.Proofs.Ytclcjngdpicjjaa
open Go.RowKit
set_option linter.unusedVariables false
set_option linter.unusedSimpArgs false

/-- Where Parse's loop is. -/
def RelQp (s : ByteArray) (W : World) (vo va : Value) (wr : World) : Prop :=
  ∃ (k f : Nat) (acc : List Sgm) (V : Value), V = vo ∧ 1 ≤ k ∧ k ≤ s.size ∧ va = .int .i64 k ∧ QIs wr W.heap.size vo acc ∧ Below W.heap.size W wr ∧ acc.length + 1 ≤ k ∧ queGo f (s.data.toList.drop k) acc = queQ s.data.toList ∧ s.size < f + k

set_option maxHeartbeats 4000000 in
set_option maxRecDepth 100000 in
theorem rque_any (s : ByteArray) (W : World) (hs : s.size ≤ 1000000) :
    Calls Try.prog 8 #[.string s] W (QpEnd s.data.toList W) := by
  have HBad := Lib.hid (fun w => rbad_any s w (by unfold maxLen; omega))
  have hque := show queQ s.data.toList = (if badU s.data.toList ≠ -1 ∨ s.data.toList.head? ≠ some 36 then none else queGo (s.data.toList.length + 1) s.data.toList.tail []) from rfl
  by_cases hbad : badU s.data.toList = -1
  rotate_left
  · have HN := Lib.hid (show queQ s.data.toList = none by rw [hque, if_pos (.inl hbad)])
    have gI : ((badU s.data.toList) != -1) = true := by rw [bne_iff_ne]; exact hbad
    clear hque hbad
    generalize badU s.data.toList = bu at *
    go_enter Try.func8, Try.ntmps8
    go_wp2_with (go_at_call 12; with_reducible refine (HBad.out _).mono ?_; rintro e w1 ⟨rfl, hb1⟩)
    go_ret2
    exact QpEnd.no HN.out hb1
  rw [hbad] at HBad
  by_cases h36 : s.data.toList.head? = some 36
  rotate_left
  · have HN := Lib.hid (show queQ s.data.toList = none by rw [hque, if_pos (.inr h36)])
    have B1 := Lib.hid (fun w => beg0 36 36 rfl false hs (decide_eq_false h36) w)
    clear hque h36 hbad
    go_enter Try.func8, Try.ntmps8
    go_wp2_with (first
      | (go_at_call 12; with_reducible refine (HBad.out _).mono ?_; rintro e w1 ⟨rfl, hb1⟩)
      | (go_at_call 16; with_reducible refine (B1.out _).mono ?_; rintro e w' ⟨rfl, rfl⟩))
    go_ret2
    exact QpEnd.no HN.out hb1
  rw [if_neg (fun h => h.elim (fun h => h hbad) (fun h => h h36))] at hque
  have h0 : 0 < s.size := head_lt (p := 0) h36
  have B1 := Lib.hid (fun w => beg0 36 36 rfl true hs (decide_eq_true h36) w)
  have HST := Lib.hid (show queGo (s.size + 1) (s.data.toList.drop 1) [] = queQ s.data.toList by rw [hque]; simp)
  clear hque h36 hbad
  go_enter Try.func8, Try.ntmps8
  go_wp2_with (first
    | (go_at_call 12; with_reducible refine (HBad.out _).mono ?_; rintro e w1 ⟨rfl, hb1⟩; have HB1 := Lib.hid hb1; clear hb1)
    | (go_at_call 16; with_reducible refine (B1.out _).mono ?_; rintro e w' ⟨rfl, rfl⟩))
  go_loopw [4, 5] (fun vo va wr => RelQp s W vo va wr) (fun _ va _ => s.size + 1 - (intOf va).toNat)
  case atStart =>
    refine ⟨1, s.size + 1, [], _, rfl, Nat.le_refl _, h0, rfl, ⟨[], GRow.made (K := sgmK) _ #[] rfl (by simp [maxLen]) HB1.out.size, rfl, fun i s x hs => by simp at hs⟩, HB1.out.alloc HB1.out.size _, by simp, HST.out, by omega⟩
  case round =>
    obtain ⟨k, f, acc, V, rfl, hk1, hks, rfl, hq, hb, hal, hgo, hf⟩ := hrel
    obtain ⟨f, rfl⟩ : ∃ g, f = g + 1 := ⟨f - 1, by omega⟩
    rw [queGo_on] at hgo
    by_cases hlt : k < s.size
    rotate_left
    · have hltI : ¬ (k : Int) < s.size := by omega
      rw [if_pos (List.drop_of_length_le (by show s.size ≤ k; omega))] at hgo
      have HG := Lib.hid hgo.symm
      have HQ := Lib.hid hq
      have HB := Lib.hid hb
      have hle : acc.length ≤ s.size := by omega
      have HLE := Lib.hid hle
      clear hgo hq hb hle
      go_wp2
      go_ret2
      exact QpEnd.yes HG.out HQ.out HLE.out HB.out
    have hltI : (k : Int) < s.size := by omega
    rw [if_neg (fun h => by have := congrArg List.length h; rw [List.length_drop] at this; have : s.size - k = 0 := this; omega)] at hgo
    obtain ⟨r1, hr1⟩ : ∃ r1, runB (s.data.toList.drop k) = r1 := ⟨_, rfl⟩
    obtain ⟨p, hp⟩ : ∃ p, k + r1 = p := ⟨_, rfl⟩
    have hle_p : p ≤ s.size := by have := runB_in s k r1 hks hr1; omega
    rw [hr1, List.drop_drop, hp] at hgo
    have K1 := Lib.hid (fun w => blk_at hks hs hr1 w)
    have sA : (k : Int) ≤ s.size := by omega
    have sB : (p : Int) ≤ s.size := by omega
    have eA : (k : Int) + r1 = p := by omega
    have htp := tail13 s p hle_p
    have hzp := tail_size s p hle_p
    have HB := Lib.hid hb
    cases hx : sgmQ (s.data.toList.drop p) with
    | none =>
      rw [hx] at hgo
      have HN := Lib.hid (show queQ s.data.toList = none from hgo.symm)
      have KX := Lib.hid (fun w => rsg_no (s := s.extract p s.size) (by rw [htp]; exact hx) (by omega) w)
      clear hgo hx hq hb htp hzp
      go_wp2_with (first
        | (go_at_call 17; with_reducible refine (K1.out _).mono ?_; rintro e w' ⟨rfl, rfl⟩)
        | (go_at_call 18; with_reducible refine (KX.out _).mono ?_; rintro e w1 ⟨b, A, L, c, rfl, hb1⟩; have HB1 := Lib.hid (fun o => (HB.out.trans (hb1.mono HB.out.size)).alloc (Nat.le_trans HB.out.size hb1.size) o); clear hb1))
      go_ret2
      exact QpEnd.no HN.out (HB1.out _)
    | some y =>
      obtain ⟨x, n⟩ := y
      obtain ⟨hn1, hn2⟩ := sgmQ_in hx
      rw [List.length_drop] at hn2
      have hn2 : n ≤ s.size - p := hn2
      obtain ⟨q, hqq⟩ : ∃ q, p + n = q := ⟨_, rfl⟩
      have hle_q : q ≤ s.size := by omega
      have hgo : queGo f (s.data.toList.drop q) (acc ++ [x]) = queQ s.data.toList := by
        rw [← hgo, hx]
        show _ = queGo f ((s.data.toList.drop k).drop (r1 + n)) (acc ++ [x])
        rw [List.drop_drop, show k + (r1 + n) = q by omega]
      have HG := Lib.hid hgo
      have KX := Lib.hid (fun w => rsg_yes (s := s.extract p s.size) (by rw [htp]; exact hx) (by omega) w)
      have sC : (q : Int) ≤ s.size := by omega
      have eB : (p : Int) + n = q := by omega
      have nI : ((n : Int) == 0) = false := beq_eq_false_iff_ne.2 (by omega)
      obtain ⟨ss, q1, q2, q3⟩ := hq
      have hak : ss.length ≤ 1000000 := by omega
      have HLOW := Lib.hid (fun g' hg' => (q1.low (g := g') hg').1)
      have Q1 := Lib.hid q1
      have Q3 := Lib.hid q3
      have Q2 := Lib.hid q2
      clear hx q1 q2 q3 hb htp hzp hgo
      go_wp2_with (first
        | (go_at_call 17; with_reducible refine (K1.out _).mono ?_; rintro e w' ⟨rfl, rfl⟩)
        | (go_at_call 18
           go_must (
             with_reducible refine (KX.out _).mono ?_
             rintro e w1 ⟨A, L, c, rfl, hr1, hb1⟩
             have hb2 := (hb1.trans ((below1 w1 (.cells #[.bool x.deep, .slice A L c] 33)).mono hb1.size))
             have o2 := Own.fresh w1 33 #[.bool x.deep, .slice A L c]
             have a0 := o2.at 0
             have a1 := o2.at 1
             simp at a0 a1
             have HB2 := Lib.hid (fun o => hb2.alloc hb2.size o)
             have hnew := new_seg (w1.alloc (.cells #[.bool x.deep, .slice A L c] 33)) x.deep A L c
             have hz2 : (w1.alloc (.cells #[.bool x.deep, .slice A L c] 33)).heap.size = w1.heap.size + 1 := by simp
             rw [hz2] at hnew
             have HNEW := Lib.hid hnew
             have RX := Lib.hid (fun o => ((hr1.keep (below1 w1 (.cells #[.bool x.deep, .slice A L c] 33)) (Nat.le_refl _)).keep (below1 (w1.alloc (.cells #[.bool x.deep, .slice A L c] 33)) o) (Nat.le_refl _)).mono HB.out.size)
             clear hb1 hb2 o2 hnew hz2 hr1))
        | (at_builtin
           go_must (
             refine row_append (K := sgmK) _ rfl (.tmp 36) (.tmp 38) rfl W.heap.size _ ss rfl (Q1.out.keep (HB2.out _) (Nat.le_refl _)) _ 1 1 [⟨x.deep, A, L, c⟩] rfl HNEW.out (by omega) (Nat.le_trans HB.out.size (HB2.out _).size) ?_
             intro v4 w4 row4 grown4 at4
             have HB4 := Lib.hid (below_grown (HB.out.trans ((HB2.out _).mono HB.out.size)) grown4 (Nat.le_trans HB.out.size (HB2.out _).size) HLOW.out)
             have R4 := Lib.hid (QIs.snoc (Q1.out.keep (HB2.out _) (Nat.le_refl _)) Q2.out (fun i s y hs hy => ⟨(Q3.out i s y hs hy).1, (Q3.out i s y hs hy).2.keep (HB2.out _) (Nat.le_refl _)⟩) (RX.out _) row4 grown4 (Nat.le_trans HB.out.size (HB2.out _).size))
             clear grown4 at4 row4)))
      go_roundw
      case rel => exact ⟨q, f, acc ++ [x], _, rfl, by omega, hle_q, by go_num, R4.out, HB4.out, by rw [List.length_append]; show acc.length + 1 + 1 ≤ _; omega, HG.out, by omega⟩
      case measure => simp [intOf]; omega

end Go.Proofs.Ytclcjngdpicjjaa
