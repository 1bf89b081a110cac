/- The document's Same (riffleref14): queries that can be read, wherever they lie. -/
import Derived.Test.YtclcjngdpicjjaaJ07
import Derived.BigQuiet
namespace Go.Proofs.Ytclcjngdpicjjaa
open Go.RowKit
set_option linter.unusedVariables false
set_option linter.unusedSimpArgs false

/-- Selectors that can be read. -/
def SRd (w : World) (B : Option Addr) (m : Nat) (l : List Sel) : Prop :=
  l.length = m ∧ (0 < m → ∃ a : Addr, B = some a ∧ a.block < w.heap.size ∧ ∀ j y, l[j]? = some y → w.cell? (a.add (j * 8)) = some (.int .i64 y.kind) ∧ w.cell? ⟨(a.add (j * 8)).block, (a.add (j * 8)).off + 1, none⟩ = some (.string y.name) ∧
    w.cell? ⟨(a.add (j * 8)).block, (a.add (j * 8)).off + 2, none⟩ = some (.int .i64 y.index) ∧ w.cell? ⟨(a.add (j * 8)).block, (a.add (j * 8)).off + 3, none⟩ = some (.int .i64 y.start) ∧ w.cell? ⟨(a.add (j * 8)).block, (a.add (j * 8)).off + 4, none⟩ = some (.int .i64 y.en) ∧
    w.cell? ⟨(a.add (j * 8)).block, (a.add (j * 8)).off + 5, none⟩ = some (.bool y.hs) ∧ w.cell? ⟨(a.add (j * 8)).block, (a.add (j * 8)).off + 6, none⟩ = some (.bool y.he) ∧ w.cell? ⟨(a.add (j * 8)).block, (a.add (j * 8)).off + 7, none⟩ = some (.int .i64 y.stride))
/-- A query that can be read. -/
def QRd (w : World) (A : Option Addr) (n : Nat) (xs : List Sgm) : Prop :=
  xs.length = n ∧ (0 < n → ∃ a : Addr, A = some a ∧ a.block < w.heap.size ∧ ∀ i x, xs[i]? = some x → ∃ B m c, w.cell? (a.add (i * 2)) = some (.bool x.deep) ∧ w.cell? ⟨(a.add (i * 2)).block, (a.add (i * 2)).off + 1, none⟩ = some (.slice B m c) ∧ SRd w B m x.sels)
theorem add_block14 (a : Addr) (j : Nat) : (a.add j).block = a.block := by unfold Addr.add; split <;> rfl
theorem SRd.stay {w w' : World} {B : Option Addr} {m : Nat} {l : List Sel} (h : SRd w B m l) (hb : Below w.heap.size w w') : SRd w' B m l := by
  refine ⟨h.1, fun hm => ?_⟩
  obtain ⟨a, e, ha, hc⟩ := h.2 hm
  refine ⟨a, e, Nat.lt_of_lt_of_le ha hb.size, fun j y hy => ?_⟩
  have ha' : (a.add (j * 8)).block < w.heap.size := by rw [add_block14]; exact ha
  have t : ∀ i, w'.cell? ⟨(a.add (j * 8)).block, (a.add (j * 8)).off + i, none⟩ = w.cell? ⟨(a.add (j * 8)).block, (a.add (j * 8)).off + i, none⟩ := fun i => hb.cell (p := ⟨(a.add (j * 8)).block, (a.add (j * 8)).off + i, none⟩) ha'
  rw [hb.cell ha', t, t, t, t, t, t, t]
  exact hc j y hy
theorem QRd.stay {w w' : World} {A : Option Addr} {n : Nat} {xs : List Sgm} (h : QRd w A n xs) (hb : Below w.heap.size w w') : QRd w' A n xs := by
  refine ⟨h.1, fun hm => ?_⟩
  obtain ⟨a, e, ha, hc⟩ := h.2 hm
  refine ⟨a, e, Nat.lt_of_lt_of_le ha hb.size, fun i x hx => ?_⟩
  obtain ⟨B, m, c, h0, h1, h2⟩ := hc i x hx
  have ha' : (a.add (i * 2)).block < w.heap.size := by rw [add_block14]; exact ha
  exact ⟨B, m, c, (hb.cell ha').trans h0, (hb.cell (p := ⟨(a.add (i * 2)).block, (a.add (i * 2)).off + 1, none⟩) ha').trans h1, h2.stay hb⟩
theorem srd_of {w : World} {A : Option Addr} {m : Nat} {l : List Sel} (h : RdG selK w A m l) : SRd w A m l := by
  refine ⟨h.1, fun hm => ?_⟩
  obtain ⟨b, o, hA, hb, _⟩ := h.2 hm
  refine ⟨⟨b, o, none⟩, hA, hb, fun j y hy => ?_⟩
  rw [add_none]
  exact ⟨RdG.at h hA hy (j := 0) (u := .int .i64 y.kind) rfl, RdG.at h hA hy (j := 1) (u := .string y.name) rfl, RdG.at h hA hy (j := 2) (u := .int .i64 y.index) rfl, RdG.at h hA hy (j := 3) (u := .int .i64 y.start) rfl,
    RdG.at h hA hy (j := 4) (u := .int .i64 y.en) rfl, RdG.at h hA hy (j := 5) (u := .bool y.hs) rfl, RdG.at h hA hy (j := 6) (u := .bool y.he) rfl, RdG.at h hA hy (j := 7) (u := .int .i64 y.stride) rfl⟩
theorem qrd_of {w : World} {base : Nat} {v : Value} {xs : List Sgm} (h : QIs w base v xs) : ∃ A c, v = .slice A xs.length c ∧ QRd w A xs.length xs := by
  obtain ⟨ss, h1, h2, h3⟩ := h
  obtain ⟨A, c, rfl, _⟩ := h1.form
  rw [h2] at h1
  refine ⟨A, c, by rw [h2], rfl, fun hm => ?_⟩
  have hr := h1.rd
  rw [h2] at hr
  obtain ⟨b, o, hA, hb, _⟩ := hr.2 hm
  refine ⟨⟨b, o, none⟩, hA, hb, fun i x hx => ?_⟩
  have hi : i < ss.length := by have := (List.getElem?_eq_some_iff.1 hx).1; omega
  have hs : ss[i]? = some ss[i] := List.getElem?_eq_getElem hi
  obtain ⟨e, hsel⟩ := h3 i _ x hs hx
  have hl : ss[i].n = x.sels.length := by
    obtain ⟨A', c', e', _⟩ := hsel.form
    injection e'
  rw [add_none]
  refine ⟨ss[i].A, ss[i].n, ss[i].c, ?_, RdG.at hr hA hs (j := 1) (u := .slice ss[i].A ss[i].n ss[i].c) rfl, ?_⟩
  · rw [← e]; exact RdG.at hr hA hs (j := 0) (u := .bool ss[i].deep) rfl
  · have := srd_of hsel.rd
    rw [hl]
    exact this
/-- Where Same's loops are. -/
def RelSo (W : World) (xs ys : List Sgm) (i : Value) (wr : World) : Prop :=
  ∃ k : Nat, k ≤ xs.length ∧ i = .int .i64 k ∧ xs.take k = ys.take k ∧ Below W.heap.size W wr
def RelSi (W : World) (l l' : List Sel) (i : Value) (wr : World) : Prop :=
  ∃ k : Nat, k ≤ l.length ∧ i = .int .i64 k ∧ l.take k = l'.take k ∧ Below W.heap.size W wr
/-- What Same answers. -/
def SqEnd (xs ys : List Sgm) (W : World) (e : Ending) (w' : World) : Prop := ∃ b, e = .returned (.bool b) ∧ (b = true ↔ xs = ys) ∧ Below W.heap.size W w'
theorem sel_eq {x y : Sel} (h0 : x.kind = y.kind) (h1 : x.name = y.name) (h2 : x.index = y.index) (h3 : x.start = y.start) (h4 : x.en = y.en) (h5 : x.hs = y.hs) (h6 : x.he = y.he) (h7 : x.stride = y.stride) : x = y := by
  cases x; cases y; simp at h0 h1 h2 h3 h4 h5 h6 h7; simp [h0, h1, h2, h3, h4, h5, h6, h7]
theorem sgm_eq {x y : Sgm} (h0 : x.deep = y.deep) (h1 : x.sels = y.sels) : x = y := by
  cases x; cases y; simp at h0 h1; simp [h0, h1]
theorem take_on {α : Type} {l l' : List α} {k : Nat} (h : k < l.length) (h' : k < l'.length) (ht : l.take k = l'.take k) (he : l[k] = l'[k]) : l.take (k + 1) = l'.take (k + 1) := by
  rw [List.take_succ_eq_append_getElem h, List.take_succ_eq_append_getElem h', ht, he]
theorem at_not {α : Type} {l l' : List α} {k : Nat} (h : k < l.length) (h' : k < l'.length) (he : l[k] ≠ l'[k]) : ¬ l = l' := fun e => he (by subst e; rfl)

end Go.Proofs.Ytclcjngdpicjjaa

namespace Go.Proofs.Ytclcjngdpicjjaa
open Go.RowKit
set_option linter.unusedVariables false
set_option linter.unusedSimpArgs false

set_option maxRecDepth 100000 in
set_option maxHeartbeats 4000000 in
theorem sameQ_any (xs ys : List Sgm) (A A' : Option Addr) (n n' c c' : Nat) (W : World) (hx : QRd W A n xs) (hx' : QRd W A' n' ys) (h9 : n ≤ 1000000) (h9' : n' ≤ 1000000) (hs9 : ∀ x ∈ xs, x.sels.length ≤ 1000000) (ht9 : ∀ x ∈ ys, x.sels.length ≤ 1000000) :
    Calls Try.prog 9 #[.slice A n c, .slice A' n' c'] W (SqEnd xs ys W) := by
  have hl : xs.length = n := hx.1
  have hl' : ys.length = n' := hx'.1
  have HX := Lib.hid hx
  have HX' := Lib.hid hx'
  clear hx hx'
  by_cases hn : n = n'
  rotate_left
  · have q : ((n : Int) != n') = true := bne_iff_ne.2 (by omega)
    have HF := Lib.hid (show ¬ xs = ys from fun e => hn (by rw [← hl, ← hl', e]))
    clear hl hl' hs9 ht9
    go_enter Try.func9, Try.ntmps9
    go_wp2
    go_ret
    exact ⟨false, rfl, ⟨fun h => (by cases h), fun h => absurd h HF.out⟩, Below.refl _ _⟩
  subst hn
  have q : ((n : Int) != n) = false := by simp
  have HS := Lib.hid hs9
  have HT := Lib.hid ht9
  clear hs9 ht9
  go_enter Try.func9, Try.ntmps9
  go_wp2
  go_loopw [14] (fun i wr => RelSo W xs ys i wr) (fun i _ => xs.length - (intOf i).toNat)
  case atStart => exact ⟨0, Nat.zero_le _, rfl, rfl, Below.refl _ _⟩
  case round =>
    obtain ⟨k, hk, rfl, ht, hb⟩ := hrel
    by_cases hlt : k < xs.length
    rotate_left
    · have q2 : ¬ (k : Int) < n := by omega
      have HE := Lib.hid (show xs = ys by rw [← List.take_of_length_le (l := xs) (i := k) (by omega), ht, List.take_of_length_le (by omega)])
      clear ht
      go_wp2
      go_ret
      exact ⟨true, rfl, ⟨fun _ => HE.out, fun _ => rfl⟩, hb⟩
    have q2 : (k : Int) < n := by omega
    have hlt' : k < ys.length := by omega
    have hX2 := HX.out.stay hb
    have hX2' := HX'.out.stay hb
    obtain ⟨a, rfl, ha, hc⟩ := hX2.2 (by omega)
    obtain ⟨a', rfl, ha', hc'⟩ := hX2'.2 (by omega)
    obtain ⟨B, m, cc, s0, s1, sr⟩ := hc k xs[k] (List.getElem?_eq_getElem hlt)
    obtain ⟨B', m', cc', t0, t1, tr⟩ := hc' k ys[k] (List.getElem?_eq_getElem hlt')
    have HON := Lib.hid (fun h => take_on hlt hlt' ht h)
    have HNO := Lib.hid (fun h => at_not hlt hlt' h)
    have HK := Lib.hid (show xs[k]? = some xs[k] from List.getElem?_eq_getElem hlt)
    have HK' := Lib.hid (show ys[k]? = some ys[k] from List.getElem?_eq_getElem hlt')
    have m9 := HS.out _ (List.getElem_mem hlt)
    have m9' := HT.out _ (List.getElem_mem hlt')
    clear hX2 hX2' hc hc' ht
    generalize xs[k] = x at *
    generalize ys[k] = y at *
    have SR := Lib.hid sr
    have TR := Lib.hid tr
    have hm : x.sels.length = m := sr.1
    have hm' : y.sels.length = m' := tr.1
    clear sr tr
    have hk9 : (k : Int) ≤ 1000000 := by omega
    by_cases h1 : x.deep = y.deep
    rotate_left
    · have HF := Lib.hid (HNO.out (fun e => h1 (by rw [e])))
      clear SR TR HON HNO HK HK' m9 m9' hm hm'
      cases hxd : x.deep
      · cases hyd : y.deep
        · exact absurd (hxd.trans hyd.symm) h1
        · rw [hxd] at s0
          rw [hyd] at t0
          clear h1 hxd hyd
          go_wp2_with fail
          go_region
          all_goals
            go_wp2
            go_ret
            exact ⟨false, rfl, ⟨fun h => (by cases h), fun h => absurd h HF.out⟩, below_drewN (n := 1) hb⟩
      · cases hyd : y.deep
        · rw [hxd] at s0
          rw [hyd] at t0
          clear h1 hxd hyd
          go_wp2_with fail
          go_region
          all_goals
            go_wp2
            go_ret
            exact ⟨false, rfl, ⟨fun h => (by cases h), fun h => absurd h HF.out⟩, below_drewN (n := 1) hb⟩
        · exact absurd (hxd.trans hyd.symm) h1
    have g1 : (x.deep != y.deep) = false := by rw [h1]; simp
    rw [h1] at s0
    have g1 : (y.deep != y.deep) = false := by simp
    by_cases h2 : m = m'
    rotate_left
    · have HF := Lib.hid (HNO.out (fun e => h2 (by rw [← hm, ← hm', e])))
      have g2 : ((m : Int) != m') = true := bne_iff_ne.2 (by omega)
      go_wp2_with fail
      go_region
      all_goals
        go_wp2
        go_ret
        exact ⟨false, rfl, ⟨fun h => (by cases h), fun h => absurd h HF.out⟩, below_drewN (n := 1) hb⟩
    subst h2
    have g2 : ((m : Int) != m) = false := by simp
    have mI : (m : Int) ≤ 1000000 := by omega
    have HON2 := Lib.hid (fun h : x.sels = y.sels => HON.out (sgm_eq h1 h))
    have HNO2 := Lib.hid (fun h : x.sels ≠ y.sels => HNO.out (fun e => h (by rw [e])))
    go_wp2_with fail
    go_region
    all_goals
      have hb2 := below_drewN (n := 1) hb
      clear SR TR hb
      go_wp2
      go_loopw [49] (fun j w => RelSi W x.sels y.sels j w) (fun j _ => x.sels.length - (intOf j).toNat)
      case atStart => exact ⟨0, Nat.zero_le _, rfl, rfl, hb2⟩
      case round =>
        obtain ⟨j, hj, rfl, htj, hbj⟩ := hrel
        by_cases hjl : j < x.sels.length
        rotate_left
        · have q3 : ¬ (j : Int) < m := by omega
          have HE := Lib.hid (HON2.out (show x.sels = y.sels by rw [← List.take_of_length_le (l := x.sels) (i := j) (by omega), htj, List.take_of_length_le (by omega)]))
          clear htj
          go_wp2
          go_roundw
          case rel => exact ⟨k + 1, hlt, by go_num, HE.out, hbj⟩
          case measure => simp [intOf]; omega
        have q3 : (j : Int) < m := by omega
        have hjl' : j < y.sels.length := by omega
        have hXj := HX.out.stay hbj
        have hYj := HX'.out.stay hbj
        obtain ⟨a2, ea, ha2, hc2⟩ := hXj.2 (by omega)
        obtain rfl := Option.some.inj ea
        obtain ⟨a3, ea', ha3, hc3⟩ := hYj.2 (by omega)
        obtain rfl := Option.some.inj ea'
        obtain ⟨B2, m2, cc2, u0, u1, ur⟩ := hc2 k x HK.out
        obtain ⟨B3, m3, cc3, v0, v1, vr⟩ := hc3 k y HK'.out
        obtain rfl : m = m2 := by rw [← hm]; exact ur.1
        obtain rfl : m = m3 := by rw [← hm']; exact vr.1
        obtain ⟨b2, rfl, hb2', d2⟩ := ur.2 (by omega)
        obtain ⟨b3, rfl, hb3', d3⟩ := vr.2 (by omega)
        obtain ⟨w0, w1, w2, w3, w4, w5, w6, w7⟩ := d2 j x.sels[j] (List.getElem?_eq_getElem hjl)
        obtain ⟨z0, z1, z2, z3, z4, z5, z6, z7⟩ := d3 j y.sels[j] (List.getElem?_eq_getElem hjl')
        have HJ := Lib.hid (fun h => take_on hjl hjl' htj h)
        have HJN := Lib.hid (fun h => HNO2.out (at_not hjl hjl' h))
        clear hXj hYj hc2 hc3 ur vr d2 d3 htj
        generalize x.sels[j] = p at *
        generalize y.sels[j] = r at *
        by_cases f0 : p.kind = r.kind
        rotate_left
        · have HF := Lib.hid (HJN.out (fun e => f0 (by rw [e])))
          go_wp2_with fail
          go_region
          all_goals
            go_wp2
            go_ret
            exact ⟨false, rfl, ⟨fun h => (by cases h), fun h => absurd h HF.out⟩, below_drewN (n := 1) hbj⟩
        by_cases f1 : p.name = r.name
        rotate_left
        · have HF := Lib.hid (HJN.out (fun e => f1 (by rw [e])))
          have hne : ¬ p.name.toList = r.name.toList := fun e => f1 (by rw [ByteArray.toList_eq, ByteArray.toList_eq] at e; rw [← ba_list p.name, ← ba_list r.name, e])
          go_wp2_with fail
          go_region
          all_goals
            go_wp2
            go_ret
            exact ⟨false, rfl, ⟨fun h => (by cases h), fun h => absurd h HF.out⟩, below_drewN (n := 1) hbj⟩
        by_cases f2 : p.index = r.index
        rotate_left
        · have HF := Lib.hid (HJN.out (fun e => f2 (by rw [e])))
          go_wp2_with fail
          go_region
          all_goals
            go_wp2
            go_ret
            exact ⟨false, rfl, ⟨fun h => (by cases h), fun h => absurd h HF.out⟩, below_drewN (n := 1) hbj⟩
        by_cases f3 : p.start = r.start
        rotate_left
        · have HF := Lib.hid (HJN.out (fun e => f3 (by rw [e])))
          go_wp2_with fail
          go_region
          all_goals
            go_wp2
            go_ret
            exact ⟨false, rfl, ⟨fun h => (by cases h), fun h => absurd h HF.out⟩, below_drewN (n := 1) hbj⟩
        by_cases f4 : p.en = r.en
        rotate_left
        · have HF := Lib.hid (HJN.out (fun e => f4 (by rw [e])))
          go_wp2_with fail
          go_region
          all_goals
            go_wp2
            go_ret
            exact ⟨false, rfl, ⟨fun h => (by cases h), fun h => absurd h HF.out⟩, below_drewN (n := 1) hbj⟩
        by_cases f5 : p.hs = r.hs
        rotate_left
        · have HF := Lib.hid (HJN.out (fun e => f5 (by rw [e])))
          go_wp2_with fail
          go_region
          all_goals
            go_wp2
            go_ret
            exact ⟨false, rfl, ⟨fun h => (by cases h), fun h => absurd h HF.out⟩, below_drewN (n := 1) hbj⟩
        by_cases f6 : p.he = r.he
        rotate_left
        · have HF := Lib.hid (HJN.out (fun e => f6 (by rw [e])))
          go_wp2_with fail
          go_region
          all_goals
            go_wp2
            go_ret
            exact ⟨false, rfl, ⟨fun h => (by cases h), fun h => absurd h HF.out⟩, below_drewN (n := 1) hbj⟩
        by_cases f7 : p.stride = r.stride
        rotate_left
        · have HF := Lib.hid (HJN.out (fun e => f7 (by rw [e])))
          go_wp2_with fail
          go_region
          all_goals
            go_wp2
            go_ret
            exact ⟨false, rfl, ⟨fun h => (by cases h), fun h => absurd h HF.out⟩, below_drewN (n := 1) hbj⟩
        have HT2 := Lib.hid (HJ.out (sel_eq f0 f1 f2 f3 f4 f5 f6 f7))
        go_wp2_with fail
        go_region
        all_goals
          go_wp2
          go_roundw
          case rel => exact ⟨j + 1, hjl, by go_num, HT2.out, below_drewN (n := 1) hbj⟩
          case measure => simp [intOf]; omega

end Go.Proofs.Ytclcjngdpicjjaa
