/- Package nest: an array or an object closes; commas, colons. -/
import Derived.Test.YthpkcapooeedeaaDoorJ13
namespace Go.Proofs.YthpkcapooeedeaaDoor
open Go.RowKit
set_option linter.unusedVariables false

section
variable {w w' : World} {b : Nat} {F G : Nat → Prop} {m y wi : Int} {l : List Bool} {lv : List Lvl} {v : Value}
def endL : List Lvl → List Lvl
  | [] => []
  | x :: r => ⟨x.fr, x.many + 1, []⟩ :: r
theorem endValue_any {op : List Bool} {lo : List Lvl} (h : NR w b F m y wi op.reverse lo.reverse) (hl : op.length = lo.length) (h5 : op.length ≤ 5000) (hm : ∀ x ∈ lo, x.many ≤ 2000000) :
    Calls Tryd.prog 48 #[.pointer (some ⟨b, 0, none⟩)] w fun e w' => e = .returned (.tuple #[]) ∧ Aft F w w' b m (if op.isEmpty then 7 else 6) wi op.reverse (endL lo).reverse := by
  cases op with
  | nil =>
    obtain rfl : lo = [] := List.eq_nil_of_length_eq_zero hl.symm
    refine (endValue_none h).mono ?_
    rintro e w' ⟨rfl, rfl⟩
    exact ⟨rfl, (Touch.refl F w).setCell (p := ⟨b, 1, none⟩) (.inl h.has.1) _, (h.may 7).mono (fun k _ hk => .inl hk)⟩
  | cons o op =>
    cases lo with
    | nil => cases hl
    | cons x lo =>
      have hk : (x :: lo).reverse.length = lo.length + 1 := by simp
      have hx : (x :: lo).reverse[lo.length]? = some x := by simp
      have := endValue_some h lo.length x (by simp at hl h5; omega) (by simp at hl ⊢; omega) hk hx (hm x (by simp))
      have e : (x :: lo).reverse.set lo.length ⟨x.fr, x.many + 1, []⟩ = (endL (x :: lo)).reverse := by simp [endL]
      rw [e] at this
      exact this
theorem leave_any2 {op : List Bool} {lo : List Lvl} {o : Bool} {x : Lvl} (h : NR w b F m y wi (o :: op).reverse (x :: lo).reverse) (hl : op.length = lo.length) (h5 : op.length ≤ 4999) :
    Calls Tryd.prog 56 #[.pointer (some ⟨b, 0, none⟩)] w fun e w' => e = .returned (.int .i64 x.fr) ∧ Aft F w w' b m y wi op.reverse lo.reverse := by
  have := leave_nest h lo.length x (by omega) (by simp; omega) (by simp) (by simp)
  have e1 : (o :: op).reverse.dropLast = op.reverse := by simp
  have e2 : (x :: lo).reverse.take lo.length = lo.reverse := by simp
  rw [e1, e2] at this
  exact this
def stR : List Bool → List Lvl → Stp
  | o :: _, x :: _ => if o then ⟨true, x.name, 0⟩ else ⟨false, [], x.many⟩
  | _, _ => ⟨false, [], 0⟩
theorem stL_rev (op : List Bool) (lo : List Lvl) : stL op.reverse lo.reverse = stR op lo := by
  cases op with
  | nil => simp [stL, stR]
  | cons o op =>
    cases lo with
    | nil => cases o <;> simp [stL, stR]
    | cons x lo => cases o <;> simp [stL, stR]

/-- What is open doesn't end here. -/
theorem close_no (h : NR w b F m y wi l lv) (t : Tok) (h5 : l.length ≤ 5000) (hv : (y == 2 || y == 4 || y == 6) = false ∨ (l.getLast?.getD false != (t.kind == 5)) = true) :
    Calls Tryd.prog 34 #[.pointer (some ⟨b, 0, none⟩), .agg (tokCells t).toArray] w fun e w' => e = .returned (.tuple #[.slice none 0 0, .int .i64 (if y == 7 then 9 else 8)]) ∧ Below w.heap.size w w' := by
  have HV := Lib.hid (fun w' (hb : Below w.heap.size w w') => endMay_any b y w' (h.below hb).c1)
  have HR := Lib.hid (fun w' (hb : Below w.heap.size w w') => refuse_any b y w' (h.below hb).c1)
  have HT := Lib.hid (show ∀ w', Below w.heap.size w w' → Calls Tryd.prog 54 #[.pointer (some ⟨b, 3, none⟩)] w' (fun e w2 => e = .returned (.tuple #[.bool (l.getLast?.getD false), .bool (decide (0 < l.length))]) ∧ ∃ q, w2 = w'.drewN q) from fun w' hb => by
    obtain ⟨v, G, h', _⟩ := h.below hb
    exact KB.top_any b G l w' h'.stk h5)
  generalize l.getLast?.getD false = o at *
  generalize decide (0 < l.length) = z at *
  obtain ⟨kd, bg, fr, to, tx⟩ := t
  have hv : (y == 2 || y == 4 || y == 6) = false ∨ (o != (kd == 5)) = true := hv
  clear h
  show Calls _ _ #[.pointer (some ⟨b, 0, none⟩), .agg #[.int .i64 kd, .bool bg, .int .i64 fr, .int .i64 to, .string ⟨tx.toArray⟩]] _ _
  generalize (if y == 7 then (9 : Int) else 8) = r at *
  have hO : ∀ q, Own ((w.alloc (.cells #[.int .i64 kd, .bool bg, .int .i64 fr, .int .i64 to, .string ⟨tx.toArray⟩] 48)).drewN q) w.heap.size 48 _ := fun q => Own.fresh w 48 #[.int .i64 kd, .bool bg, .int .i64 fr, .int .i64 to, .string ⟨tx.toArray⟩]
  have HO := Lib.hid hO
  clear hO
  generalize hb1 : (y == 2 || y == 4 || y == 6) = b1 at *
  cases b1
  · clear hv
    go_enter Tryd.func34, Tryd.ntmps34
    go_wp2_with (first
      | (go_at_call 54; refine (HT.out _ (bel1 w _)).mono ?_; rintro e w' ⟨rfl, q, rfl⟩)
      | (go_at_call 55; refine (HV.out _ (bel_drew (bel1 w _) _)).mono ?_; rintro e w' ⟨rfl, rfl⟩)
      | (go_at_call 37; refine (HR.out _ (bel_drew (bel1 w _) _)).mono ?_; rintro e w' ⟨rfl, rfl⟩))
    go_ret2
    exact ⟨rfl, bel_drew (bel1 w _) _⟩
  · have hv2 : (o != (kd == 5)) = true := by rcases hv with hv | hv; · cases hv
                                             · exact hv
    clear hv
    have hv3 : (!o == (kd == 5)) = true := by
      cases o <;> cases hk : (kd == 5) <;> rw [hk] at hv2 <;> first | rfl | cases hv2
    go_enter Tryd.func34, Tryd.ntmps34
    go_wp2_with (first
      | (go_at_call 54; refine (HT.out _ (bel1 w _)).mono ?_; rintro e w' ⟨rfl, q, rfl⟩)
      | (go_at_call 55; refine (HV.out _ (bel_drew (bel1 w _) _)).mono ?_; rintro e w' ⟨rfl, rfl⟩)
      | (go_at_call 37; refine (HR.out _ (bel_drew (bel1 w _) _)).mono ?_; rintro e w' ⟨rfl, rfl⟩))
    go_ret2
    exact ⟨rfl, bel_drew (bel1 w _) _⟩

set_option maxRecDepth 100000 in
set_option maxHeartbeats 4000000 in
/-- What is open ends. -/
theorem close_yes {op : List Bool} {lo : List Lvl} {o : Bool} {x : Lvl} (h : NR w b F m y wi (o :: op).reverse (x :: lo).reverse) (hF : ∀ k, F k → k < w.heap.size) (t : Tok) (hl : op.length = lo.length) (h5 : op.length ≤ 4990) (hm : ∀ x ∈ lo, x.many ≤ 2000000) (hv : (y == 2 || y == 4 || y == 6) = true) (ho : (t.kind == 5) = o) :
    Calls Tryd.prog 34 #[.pointer (some ⟨b, 0, none⟩), .agg (tokCells t).toArray] w fun e w' => ∃ v, e = .returned (.tuple #[v, .int .i64 0]) ∧ GRow evK w' w.heap.size v [⟨2, if o then 5 else 4, x.fr, t.to, stR op lo, []⟩] ∧ Aft F w w' b m (if op.isEmpty then 7 else 6) wi op.reverse (endL lo).reverse := by
  have HV := Lib.hid (fun w' (hb : Below w.heap.size w w') => endMay_any b y w' (h.below hb).c1)
  simp only [hv] at HV
  have hlast : (o :: op).reverse.getLast?.getD false = o := by simp
  have HT := Lib.hid (show ∀ w', Below w.heap.size w w' → Calls Tryd.prog 54 #[.pointer (some ⟨b, 3, none⟩)] w' (fun e w2 => e = .returned (.tuple #[.bool o, .bool (decide (0 < (o :: op).reverse.length))]) ∧ ∃ q, w2 = w'.drewN q) from fun w' hb => by
    obtain ⟨v, G, h', _⟩ := h.below hb
    have := KB.top_any b G _ w' h'.stk (by simp; omega)
    rwa [hlast] at this)
  generalize decide (0 < (o :: op).reverse.length) = z at *
  have HEnd := Lib.hid (fun (F : Nat → Prop) (w : World) (h : NR w b F m y wi op.reverse lo.reverse) => endValue_any h hl (by omega) hm)
  have HK := Lib.hid (kindOf_is o)
  generalize (if op.isEmpty = true then (7 : Int) else 6) = y7 at *
  generalize (if o = true then (5 : Int) else 4) = kv at *
  have HLv := Lib.hid (fun w' (hb : Below w.heap.size w w') => leave_any2 (h.below hb) hl (by omega))
  have HF := Lib.hid hF
  have HL := Lib.hid hl
  have HM := Lib.hid hm
  obtain ⟨kd, bg, fr, to, tx⟩ := t
  have hkd : (kd == 5) = o := ho
  have hv3 : (!o == (kd == 5)) = false := by rw [hkd]; cases o <;> rfl
  clear h hv hl hF hm ho hlast
  show Calls _ _ #[.pointer (some ⟨b, 0, none⟩), .agg #[.int .i64 kd, .bool bg, .int .i64 fr, .int .i64 to, .string ⟨tx.toArray⟩]] _ _
  go_enter Tryd.func34, Tryd.ntmps34
  go_wp2_with (first
    | (go_at_call 54; refine (HT.out _ (bel1 w _)).mono ?_; rintro e w' ⟨rfl, q, rfl⟩)
    | (go_at_call 55; refine (HV.out _ (bel_drew (bel1 w _) _)).mono ?_; rintro e w' ⟨rfl, rfl⟩)
    | (go_at_call 56; refine (HLv.out _ (bel_drew (bel1 w _) _)).mono ?_; rintro e w3 ⟨rfl, ht3, hn3⟩
       have hb2 : Below w.heap.size w ((w.alloc (.cells #[.int .i64 kd, .bool bg, .int .i64 fr, .int .i64 to, .string ⟨tx.toArray⟩] 48)).drewN q) := bel_drew (bel1 w _) q
       have hO2 : Own ((w.alloc (.cells #[.int .i64 kd, .bool bg, .int .i64 fr, .int .i64 to, .string ⟨tx.toArray⟩] 48)).drewN q) w.heap.size 48 _ := Own.fresh w 48 #[.int .i64 kd, .bool bg, .int .i64 fr, .int .i64 to, .string ⟨tx.toArray⟩]
       generalize (w.alloc (.cells #[.int .i64 kd, .bool bg, .int .i64 fr, .int .i64 to, .string ⟨tx.toArray⟩] 48)).drewN q = w2 at *
       have HB2 := Lib.hid hb2
       have HT3 := Lib.hid ht3
       have HN3 := Lib.hid hn3
       have hO3 := ht3.own hO2 (fun hj => by have := HF.out _ hj; omega)
       have n3 := hO3.at 3
       simp at n3
       clear hb2 hO2 ht3 hn3 hO3))
  refine wp_region_still_tail 7 (by kernel_rfl) (by kernel_rfl) ?_
  simp only [List.take_succ_cons, List.take_zero, List.drop_succ_cons, List.drop_zero]
  iterate 2 still_step
  still_call (HK.out w3.drew)
  repeat still_step
  refine wpStill_nil ?_
  change wpList _ _ _ _ _ w3.drew
  have HN4 := Lib.hid (show NR w3.drew b _ m y wi _ _ from HN3.out.drewN 1)
  have HT4 := Lib.hid (show Touch F w2 w3.drew from HT3.out.drewN 1)
  clear n3 HN3 HT3
  generalize w3.drew = w4 at *
  have HE := Lib.hid (show Calls Tryd.prog 47 #[.pointer (some ⟨b, 0, none⟩), .agg #[.int .i64 2, .int .i64 kv, .int .i64 x.fr, .int .i64 to, .bool false, .string ⟨#[]⟩, .int .i64 0, .string ⟨#[]⟩]] w4 (fun e' w5 => ∃ v, e' = .returned v ∧ GRow evK w5 w4.heap.size v [⟨2, kv, x.fr, to, stL op.reverse lo.reverse, []⟩] ∧ Below w4.heap.size w4 w5)
    from events_any HN4.out (by simp [HL.out]) (by simp; omega) ⟨2, kv, x.fr, to, ⟨false, [], 0⟩, []⟩)
  go_wp2_with (first
    | (go_at_call 47; refine HE.out.mono ?_; rintro e w5 ⟨ve, rfl, hev, hb5⟩
       have HEV := Lib.hid hev
       have HB5 := Lib.hid hb5
       have HN5 := Lib.hid (HN4.out.cut.below hb5)
       clear hev hb5)
    | (go_at_call 48; refine (HEnd.out _ _ HN5.out).mono ?_; rintro e w6 ⟨rfl, ht6, hn6⟩
       have HT6 := Lib.hid ht6
       have HN6 := Lib.hid hn6
       clear ht6 hn6))
  go_ret2
  have hz2 := HB2.out.size
  have hz4 := HT4.out.size
  have hz5 := HB5.out.size
  have hev := HEV.out
  rw [stL_rev] at hev
  have hevF : ∀ g, ve.ownBlock = some g → ¬ ((F g ∨ w2.heap.size ≤ g) ∧ g < w4.heap.size) := fun g hg hFg => by
    have := (hev.low hg).1
    omega
  have hT : Touch F w w4 := (Touch.of_new HB2.out).trans HT4.out (fun _ _ h => h)
  have hT5 : Touch F w w5 := hT.trans (Touch.of_new (F := F) HB5.out) (fun _ _ h => h)
  have hT6 : Touch F w w6 := hT5.trans HT6.out (fun j hj hh => by
    rcases hh.1 with hh | hh
    · exact hh
    · omega)
  exact ⟨ve, rfl, (hev.mono (by omega)).keep HT6.out hevF, hT6, HN6.out.mono (fun j _ hh => by
    rcases hh with hh | hh
    · rcases hh.1 with hh | hh
      · exact .inl hh
      · exact .inr (by omega)
    · exact .inr (by omega))⟩
end

end Go.Proofs.YthpkcapooeedeaaDoor

namespace Go.Proofs.YthpkcapooeedeaaDoor
open Go.RowKit
set_option linter.unusedVariables false

section
variable {w w' : World} {b : Nat} {F G : Nat → Prop} {m y wi : Int} {l : List Bool} {lv : List Lvl} {v : Value}
theorem comma_no (h : NR w b F m y wi l lv) (hy : y ≠ 6) :
    Calls Tryd.prog 35 #[.pointer (some ⟨b, 0, none⟩)] w fun e w' => e = .returned (.tuple #[.slice none 0 0, .int .i64 (if y == 7 then 9 else 8)]) ∧ w' = w := by
  have HR := Lib.hid (refuse_any b y w h.c1)
  have c1 := h.c1
  have hy' : (y != 6) = true := bne_iff_ne.2 hy
  generalize (if y == 7 then (9 : Int) else 8) = r at *
  clear h hy
  go_enter Tryd.func35, Tryd.ntmps35
  go_wp2_with (go_at_call 37; refine HR.out.mono ?_; rintro e w' ⟨rfl, rfl⟩)
  go_ret2
  exact ⟨rfl, rfl⟩
theorem comma_yes (h : NR w b F m 6 wi l lv) (o : Bool) (ho : l.getLast?.getD false = o) (h5 : l.length ≤ 5000) :
    Calls Tryd.prog 35 #[.pointer (some ⟨b, 0, none⟩)] w fun e w' => e = .returned (.tuple #[.slice none 0 0, .int .i64 0]) ∧ Aft F w w' b m (if o then 3 else 1) wi l lv := by
  have c1 := h.c1
  have f1 := h.free 1
  have hF := h.has.1
  have h1 := h.may 1
  have HT := Lib.hid (show Calls Tryd.prog 54 #[.pointer (some ⟨b, 3, none⟩)] (w.setCell ⟨b, 1, none⟩ (.int .i64 1)) (fun e w2 => e = .returned (.tuple #[.bool o, .bool (decide (0 < l.length))]) ∧ ∃ q, w2 = (w.setCell ⟨b, 1, none⟩ (.int .i64 1)).drewN q) from by
    obtain ⟨v, G, h', _⟩ := h1
    have := KB.top_any b G l _ h'.stk h5
    rwa [ho] at this)
  have HN := Lib.hid h1
  have HT1 := Lib.hid ((Touch.refl F w).setCell (p := ⟨b, 1, none⟩) (.inl hF) (.int .i64 1))
  generalize decide (0 < l.length) = z at *
  clear h ho h1
  cases o
  all_goals
    go_enter Tryd.func35, Tryd.ntmps35
    go_wp2_with (
      go_at_call 54; refine HT.out.mono ?_; rintro e w' ⟨rfl, q, rfl⟩
      have HN2 := Lib.hid (HN.out.drewN q)
      have HT2 := Lib.hid (HT1.out.drewN q)
      have d1 := HN2.out.c1
      have g1 := HN2.out.free 1
      clear HT
      generalize (w.setCell ⟨b, 1, none⟩ (.int .i64 1)).drewN q = w2 at *)
    go_ret2
    first
      | exact ⟨rfl, HT2.out, HN2.out.mono (fun k _ hk => .inl hk)⟩
      | exact ⟨rfl, HT2.out.setCell (p := ⟨b, 1, none⟩) (.inl hF) _, (HN2.out.may 3).mono (fun k _ hk => .inl hk)⟩
theorem colon_no (h : NR w b F m y wi l lv) (hy : y ≠ 5) :
    Calls Tryd.prog 36 #[.pointer (some ⟨b, 0, none⟩)] w fun e w' => e = .returned (.tuple #[.slice none 0 0, .int .i64 (if y == 7 then 9 else 8)]) ∧ w' = w := by
  have HR := Lib.hid (refuse_any b y w h.c1)
  have c1 := h.c1
  have hy' : (y != 5) = true := bne_iff_ne.2 hy
  generalize (if y == 7 then (9 : Int) else 8) = r at *
  clear h hy
  go_enter Tryd.func36, Tryd.ntmps36
  go_wp2_with (go_at_call 37; refine HR.out.mono ?_; rintro e w' ⟨rfl, rfl⟩)
  go_ret2
  exact ⟨rfl, rfl⟩
theorem colon_yes (h : NR w b F m 5 wi l lv) :
    Calls Tryd.prog 36 #[.pointer (some ⟨b, 0, none⟩)] w fun e w' => e = .returned (.tuple #[.slice none 0 0, .int .i64 0]) ∧ Aft F w w' b m 1 wi l lv := by
  have c1 := h.c1
  have f1 := h.free 1
  have hF := h.has.1
  have HN := Lib.hid (h.may 1)
  clear h
  go_enter Tryd.func36, Tryd.ntmps36
  go_wp2
  go_ret2
  exact ⟨rfl, (Touch.refl F w).setCell (p := ⟨b, 1, none⟩) (.inl hF) _, HN.out.mono (fun k _ hk => .inl hk)⟩

theorem begunKind_is (k : Int) (hk : k = 8 ∨ k = 9 ∨ k = 10) (w : World) : Calls Tryd.prog 49 #[.int .i64 k] w fun e w' => e = .returned (.tuple #[.int .i64 (beginK k), .bool true]) ∧ w = w' := by
  have := begunKind_any k w
  rcases hk with rfl | rfl | rfl <;> exact this

/-- A string, a number or a word begins where none may. -/
theorem beginN_no (h : NR w b F m y wi l lv) (t : Tok) (hk : t.kind = 8 ∨ t.kind = 9 ∨ t.kind = 10) (hn : ((y == 3 || y == 4) && t.kind == 8) = false) (hv : (y == 0 || y == 1 || y == 2) = false) :
    Calls Tryd.prog 32 #[.pointer (some ⟨b, 0, none⟩), .agg (tokCells t).toArray] w fun e w' => e = .returned (.tuple #[.slice none 0 0, .int .i64 (if y == 7 then 9 else 8)]) ∧ Below w.heap.size w w' := by
  have HV := Lib.hid (fun w' (hb : Below w.heap.size w w') => valueMay_any b y w' (h.below hb).c1)
  have HN := Lib.hid (fun w' (hb : Below w.heap.size w w') => nameMay_any b y w' (h.below hb).c1)
  have HR := Lib.hid (fun w' (hb : Below w.heap.size w w') => refuse_any b y w' (h.below hb).c1)
  have HK := Lib.hid (begunKind_is t.kind hk)
  simp only [hv] at HV
  obtain ⟨kd, bg, fr, to, tx⟩ := t
  have hn : ((y == 3 || y == 4) && kd == 8) = false := hn
  generalize (if y == 7 then (9 : Int) else 8) = r at *
  generalize (y == 3 || y == 4) = nm at *
  have HK : Hid (∀ w : World, Calls Tryd.prog 49 #[.int .i64 kd] w fun e w' => e = .returned (.tuple #[.int .i64 (beginK kd), .bool true]) ∧ w = w') := HK
  clear h hk hv
  show Calls _ _ #[.pointer (some ⟨b, 0, none⟩), .agg #[.int .i64 kd, .bool bg, .int .i64 fr, .int .i64 to, .string ⟨tx.toArray⟩]] _ _
  cases nm
  all_goals
    first
      | (have hn' : (kd == 8) = false := by simpa using hn)
      | skip
    clear hn
    go_enter Tryd.func32, Tryd.ntmps32
    go_wp2_with (first
      | (go_at_call 49; refine (HK.out _).mono ?_; rintro e w' ⟨rfl, rfl⟩)
      | (go_at_call 45; refine (HN.out _ (bel1 w _)).mono ?_; rintro e w' ⟨rfl, rfl⟩)
      | (go_at_call 50; refine (HV.out _ (bel1 w _)).mono ?_; rintro e w' ⟨rfl, rfl⟩)
      | (go_at_call 37; refine (HR.out _ (bel1 w _)).mono ?_; rintro e w' ⟨rfl, rfl⟩))
    go_ret2
    exact ⟨rfl, bel1 w _⟩

/-- A name begins. -/
theorem begin_name (h : NR w b F m y wi l lv) (t : Tok) (hk : t.kind = 8) (hn : (y == 3 || y == 4) = true) :
    Calls Tryd.prog 32 #[.pointer (some ⟨b, 0, none⟩), .agg (tokCells t).toArray] w fun e w' => e = .returned (.tuple #[.slice none 0 0, .int .i64 0]) ∧ Aft F w w' b m y 8 l lv := by
  have HN := Lib.hid (fun w' (hb : Below w.heap.size w w') => nameMay_any b y w' (h.below hb).c1)
  have HK := Lib.hid (begunKind_is 8 (.inl rfl))
  simp only [hn] at HN
  obtain ⟨kd, bg, fr, to, tx⟩ := t
  have hk : kd = 8 := hk
  subst hk
  have hF := h.has
  have h1 := h.below (bel1 w (.cells #[.int .i64 8, .bool bg, .int .i64 fr, .int .i64 to, .string ⟨tx.toArray⟩] 48))
  have c2 := h1.c2
  have f2 := h1.free 2
  have HH := Lib.hid ((h.in 8).below (bel1 (w.setCell ⟨b, 2, none⟩ (.int .i64 8)) (.cells #[.int .i64 8, .bool bg, .int .i64 fr, .int .i64 to, .string ⟨tx.toArray⟩] 48)))
  have hbN : b ≠ w.heap.size := by omega
  clear h h1 hn
  show Calls _ _ #[.pointer (some ⟨b, 0, none⟩), .agg #[.int .i64 8, .bool bg, .int .i64 fr, .int .i64 to, .string ⟨tx.toArray⟩]] _ _
  go_enter Tryd.func32, Tryd.ntmps32
  go_wp2_with (first
    | (go_at_call 49; refine (HK.out _).mono ?_; rintro e w' ⟨rfl, rfl⟩)
    | (go_at_call 45; refine (HN.out _ (bel1 w _)).mono ?_; rintro e w' ⟨rfl, rfl⟩))
  go_ret2
  exact ⟨rfl, ((Touch.refl F w).setCell (p := ⟨b, 2, none⟩) (.inl hF.1) (.int .i64 8)).alloc (.cells #[.int .i64 8, .bool bg, .int .i64 fr, .int .i64 to, .string ⟨tx.toArray⟩] 48), HH.out.mono (fun k _ hk => Or.inl hk)⟩

set_option maxHeartbeats 1000000 in
/-- A value begins. -/
theorem begin_value (h : NR w b F m y wi l lv) (hF : ∀ k, F k → k < w.heap.size) (t : Tok) (hk : t.kind = 8 ∨ t.kind = 9 ∨ t.kind = 10) (hl : l.length = lv.length) (h5 : l.length ≤ 5000) (hn : (y == 3 || y == 4) = false) (hv : (y == 0 || y == 1 || y == 2) = true) :
    Calls Tryd.prog 32 #[.pointer (some ⟨b, 0, none⟩), .agg (tokCells t).toArray] w fun e w' => ∃ v, e = .returned (.tuple #[v, .int .i64 0]) ∧ GRow evK w' w.heap.size v [⟨1, beginK t.kind, t.fr, 0, stL l lv, []⟩] ∧ Aft F w w' b m y t.kind l lv := by
  have HV := Lib.hid (fun w' (hb : Below w.heap.size w w') => valueMay_any b y w' (h.below hb).c1)
  have HN := Lib.hid (fun w' (hb : Below w.heap.size w w') => nameMay_any b y w' (h.below hb).c1)
  have HK := Lib.hid (begunKind_is t.kind hk)
  simp only [hv] at HV
  simp only [hn] at HN
  obtain ⟨kd, bg, fr, to, tx⟩ := t
  have HK : Hid (∀ w : World, Calls Tryd.prog 49 #[.int .i64 kd] w fun e w' => e = .returned (.tuple #[.int .i64 (beginK kd), .bool true]) ∧ w = w') := HK
  show Calls _ _ #[.pointer (some ⟨b, 0, none⟩), .agg #[.int .i64 kd, .bool bg, .int .i64 fr, .int .i64 to, .string ⟨tx.toArray⟩]] _ fun e w' => ∃ v, e = .returned (.tuple #[v, .int .i64 0]) ∧ GRow evK w' w.heap.size v [⟨1, beginK kd, fr, 0, stL l lv, []⟩] ∧ Aft F w w' b m y kd l lv
  generalize beginK kd = bk at *
  have hFb := h.has
  have h1 := h.below (bel1 w (.cells #[.int .i64 kd, .bool bg, .int .i64 fr, .int .i64 to, .string ⟨tx.toArray⟩] 48))
  have c2 := h1.c2
  have f2 := h1.free 2
  have HH := Lib.hid ((h.in kd).below (bel1 (w.setCell ⟨b, 2, none⟩ (.int .i64 kd)) (.cells #[.int .i64 kd, .bool bg, .int .i64 fr, .int .i64 to, .string ⟨tx.toArray⟩] 48)))
  have HF := Lib.hid hF
  have hbN : b ≠ w.heap.size := by omega
  have HE := Lib.hid (show Calls Tryd.prog 47 #[.pointer (some ⟨b, 0, none⟩), .agg #[.int .i64 1, .int .i64 bk, .int .i64 fr, .int .i64 0, .bool false, .string ⟨#[]⟩, .int .i64 0, .string ⟨#[]⟩]] ((w.setCell ⟨b, 2, none⟩ (.int .i64 kd)).alloc (.cells #[.int .i64 kd, .bool bg, .int .i64 fr, .int .i64 to, .string ⟨tx.toArray⟩] 48)) (fun e' w5 => ∃ v, e' = .returned v ∧ GRow evK w5 ((w.setCell ⟨b, 2, none⟩ (.int .i64 kd)).alloc (.cells #[.int .i64 kd, .bool bg, .int .i64 fr, .int .i64 to, .string ⟨tx.toArray⟩] 48)).heap.size v [⟨1, bk, fr, 0, stL l lv, []⟩] ∧ Below ((w.setCell ⟨b, 2, none⟩ (.int .i64 kd)).alloc (.cells #[.int .i64 kd, .bool bg, .int .i64 fr, .int .i64 to, .string ⟨tx.toArray⟩] 48)).heap.size ((w.setCell ⟨b, 2, none⟩ (.int .i64 kd)).alloc (.cells #[.int .i64 kd, .bool bg, .int .i64 fr, .int .i64 to, .string ⟨tx.toArray⟩] 48)) w5)
    from events_any HH.out hl h5 ⟨1, bk, fr, 0, ⟨false, [], 0⟩, []⟩)
  clear h h1 hn hv hk hF
  go_enter Tryd.func32, Tryd.ntmps32
  go_wp2_with (first
    | (go_at_call 49; refine (HK.out _).mono ?_; rintro e w' ⟨rfl, rfl⟩)
    | (go_at_call 45; refine (HN.out _ (bel1 w _)).mono ?_; rintro e w' ⟨rfl, rfl⟩)
    | (go_at_call 50; refine (HV.out _ (bel1 w _)).mono ?_; rintro e w' ⟨rfl, rfl⟩)
    | (go_at_call 47; refine HE.out.mono ?_; rintro e w5 ⟨ve, rfl, hev, hb5⟩; have HEV := Lib.hid hev; have HB5 := Lib.hid hb5; clear hev hb5))
  go_ret2
  have ht := ((Touch.refl F w).setCell (p := ⟨b, 2, none⟩) (.inl hFb.1) (.int .i64 kd)).alloc (.cells #[.int .i64 kd, .bool bg, .int .i64 fr, .int .i64 to, .string ⟨tx.toArray⟩] 48)
  exact ⟨ve, rfl, HEV.out.mono ht.size, ht.trans (Touch.of_new (F := F) HB5.out) (fun _ _ h => h), (HH.out.below HB5.out).mono (fun k _ hk => .inl hk)⟩
end

end Go.Proofs.YthpkcapooeedeaaDoor

namespace Go.Proofs.YthpkcapooeedeaaDoor
open Go.RowKit
set_option linter.unusedVariables false

theorem txt_T : (⟨lT.toArray⟩ : ByteArray) = wT := rfl
theorem txt_F : (⟨lF.toArray⟩ : ByteArray) = wF := rfl
theorem txt_N : (⟨lN.toArray⟩ : ByteArray) = wN := rfl

/-- What the words' kinds are. -/
theorem word_kind (tx : List UInt8) (h : tx = lT ∨ tx = lF ∨ tx = lN) (W : World) (hT : Tab W) :
    Calls Tryd.prog 63 #[.string ⟨tx.toArray⟩] W fun e w' => e = .returned (.tuple #[.int .i64 (if tx = lN then 0 else 1), .bool true]) ∧ Below W.heap.size W w' := by
  rcases h with rfl | rfl | rfl
  · rw [if_neg (by decide)]; exact kind_t W hT
  · rw [if_neg (by decide)]; exact kind_f W hT
  · rw [if_pos rfl]; exact kind_n W hT

theorem ended_word (t : Tok) (hk : t.kind = 10) (h : t.text = lT ∨ t.text = lF ∨ t.text = lN) (W : World) (hT : Tab W) :
    Calls Tryd.prog 44 #[.agg (tokCells t).toArray] W fun e w' => e = .returned (.tuple #[.int .i64 (scalarK t), .bool true]) ∧ Below W.heap.size W w' := by
  obtain ⟨kd, bg, fr, to, tx⟩ := t
  have hk : kd = 10 := hk
  subst hk
  have hs : scalarK ⟨10, bg, fr, to, tx⟩ = if tx = lN then 0 else 1 := rfl
  rw [hs]
  have h0 := hT.elim fun _ h => h.inside
  have HK := Lib.hid (word_kind tx h (W.alloc (.cells #[.int .i64 10, .bool bg, .int .i64 fr, .int .i64 to, .string ⟨tx.toArray⟩] 48)) (hT.stay (bel1 W _) h0))
  generalize (if tx = lN then (0 : Int) else 1) = r at *
  clear h hs
  show Calls _ _ #[.agg #[.int .i64 10, .bool bg, .int .i64 fr, .int .i64 to, .string ⟨tx.toArray⟩]] _ _
  go_enter Tryd.func44, Tryd.ntmps44
  go_wp2_with (go_at_call 63; refine HK.out.mono ?_; rintro e w' ⟨rfl, hb⟩)
  go_ret2
  exact ⟨rfl, (bel1 W _).trans (hb.mono (by simp))⟩
theorem ended_else (t : Tok) (hk : t.kind = 8 ∨ t.kind = 9) (W : World) :
    Calls Tryd.prog 44 #[.agg (tokCells t).toArray] W fun e w' => e = .returned (.tuple #[.int .i64 (scalarK t), .bool true]) ∧ Below W.heap.size W w' := by
  obtain ⟨kd, bg, fr, to, tx⟩ := t
  have hk : kd = 8 ∨ kd = 9 := hk
  have hs : scalarK ⟨kd, bg, fr, to, tx⟩ = beginK kd := by rcases hk with rfl | rfl <;> rfl
  rw [hs]
  have HB := Lib.hid (begunKind_is kd (by omega))
  have hne : (kd == 10) = false := beq_eq_false_iff_ne.2 (by omega)
  generalize beginK kd = r at *
  clear hk hs
  show Calls _ _ #[.agg #[.int .i64 kd, .bool bg, .int .i64 fr, .int .i64 to, .string ⟨tx.toArray⟩]] _ _
  go_enter Tryd.func44, Tryd.ntmps44
  go_wp2_with (go_at_call 49; refine (HB.out _).mono ?_; rintro e w' ⟨rfl, rfl⟩)
  go_ret2
  exact ⟨rfl, bel1 W _⟩
theorem ended_any (t : Tok) (hk : t.kind = 8 ∨ t.kind = 9 ∨ t.kind = 10) (h : t.kind = 10 → t.text = lT ∨ t.text = lF ∨ t.text = lN) (W : World) (hT : Tab W) :
    Calls Tryd.prog 44 #[.agg (tokCells t).toArray] W fun e w' => e = .returned (.tuple #[.int .i64 (scalarK t), .bool true]) ∧ Below W.heap.size W w' := by
  rcases hk with hk | hk | hk
  · exact ended_else t (.inl hk) W
  · exact ended_else t (.inr hk) W
  · exact ended_word t hk (h hk) W hT

section
variable {w w' : World} {b : Nat} {F G : Nat → Prop} {m y wi : Int} {l : List Bool} {lv : List Lvl} {v : Value}
set_option maxRecDepth 100000 in
set_option maxHeartbeats 4000000 in
/-- A value that has begun ends. -/
theorem end_value {op : List Bool} {lo : List Lvl} (h : NR w b F m y wi op.reverse lo.reverse) (hF : ∀ k, F k → k < w.heap.size) (hT : Tab w) (t : Tok) (hb : t.begun = false) (hw : t.kind = wi) (hk : t.kind = 8 ∨ t.kind = 9 ∨ t.kind = 10) (ht : t.kind = 10 → t.text = lT ∨ t.text = lF ∨ t.text = lN)
    (hl : op.length = lo.length) (h5 : op.length ≤ 4990) (hm : ∀ x ∈ lo, x.many ≤ 2000000) (hn : (y == 3 || y == 4) = false) :
    Calls Tryd.prog 31 #[.pointer (some ⟨b, 0, none⟩), .agg (tokCells t).toArray] w fun e w' => ∃ v, e = .returned (.tuple #[v, .int .i64 0]) ∧ GRow evK w' w.heap.size v [⟨2, scalarK t, t.fr, t.to, stR op lo, t.text⟩] ∧ Aft F w w' b m (if op.isEmpty then 7 else 6) 0 op.reverse (endL lo).reverse := by
  have h0 := hT.elim fun _ h => h.inside
  have HEK := Lib.hid (fun w' (hb : Below w.heap.size w w') => ended_any t hk ht w' (hT.stay hb h0))
  have HEnd := Lib.hid (fun (F : Nat → Prop) (w : World) (h : NR w b F m y 0 op.reverse lo.reverse) => endValue_any h hl (by omega) hm)
  generalize (if op.isEmpty = true then (7 : Int) else 6) = y7 at *
  have HH := Lib.hid (fun w' (hb : Below w.heap.size w w') => h.below hb)
  have hFb := h.has
  have HF := Lib.hid hF
  have HL := Lib.hid hl
  have HN := Lib.hid (fun (w' : World) (h : NR w' b F m y 0 op.reverse lo.reverse) => nameMay_any b y w' h.c1)
  simp only [hn] at HN
  obtain ⟨kd, bg, fr, to, tx⟩ := t
  have hb : bg = false := hb
  have hw : kd = wi := hw
  subst hb hw
  have HEK : Hid (∀ w', Below w.heap.size w w' → Calls Tryd.prog 44 #[.agg #[.int .i64 kd, .bool false, .int .i64 fr, .int .i64 to, .string ⟨tx.toArray⟩]] w' fun e w2 => e = .returned (.tuple #[.int .i64 (scalarK ⟨kd, false, fr, to, tx⟩), .bool true]) ∧ Below w'.heap.size w' w2) := HEK
  show Calls _ _ #[.pointer (some ⟨b, 0, none⟩), .agg #[.int .i64 kd, .bool false, .int .i64 fr, .int .i64 to, .string ⟨tx.toArray⟩]] _ fun e w' => ∃ v, e = .returned (.tuple #[v, .int .i64 0]) ∧ GRow evK w' w.heap.size v [⟨2, scalarK ⟨kd, false, fr, to, tx⟩, fr, to, stR op lo, tx⟩] ∧ Aft F w w' b m y7 0 op.reverse (endL lo).reverse
  generalize scalarK ⟨kd, false, fr, to, tx⟩ = sk at *
  have hne : (kd != kd) = false := by simp
  have hbN : b ≠ w.heap.size := by omega
  clear h hk ht hl hm hn hF hT
  go_enter Tryd.func31, Tryd.ntmps31
  go_wp2_with (
    go_at_call 44; refine (HEK.out _ (bel1 w _)).mono ?_; rintro e w2 ⟨rfl, hb2⟩
    have hB2 : Below w.heap.size w w2 := (bel1 w _).trans (hb2.mono (by simp))
    have hO := (Own.fresh w 48 #[.int .i64 kd, .bool false, .int .i64 fr, .int .i64 to, .string ⟨tx.toArray⟩]).stay hb2 (by simp)
    have n0 := hO.at 0
    have n1 := hO.at 1
    simp at n0 n1
    have HO := Lib.hid hO
    have HB := Lib.hid hB2
    have h2 := HH.out w2 hB2
    have c2 := h2.c2
    have f2 := h2.free 2
    clear hO hB2 hb2 h2)
  go_quiet (fail)
  have d2 : (w2.drewN nq).cell? ⟨b, 2, none⟩ = some (.int .i64 kd) := c2
  have g2 : (w2.drewN nq).frozen? ⟨b, 2, none⟩ = false := f2
  have HB3 := Lib.hid (bel_drew HB.out nq)
  have HO3 := Lib.hid (show Own (w2.drewN nq) w.heap.size 48 _ from HO.out)
  clear c2 f2 n0 n1 HB HO
  generalize w2.drewN nq = w3 at *
  have HN3 := Lib.hid (HH.out w3 HB3.out)
  go_wp2_with (first
    | (go_at_call 45; refine (HN.out _ (HN3.out.in 0)).mono ?_; rintro e w' ⟨rfl, rfl⟩
       have HN4 := Lib.hid (HN3.out.in 0)
       have HT4 := Lib.hid ((Touch.of_new (F := F) HB3.out).setCell (p := ⟨b, 2, none⟩) (.inl hFb.1) (.int .i64 0))
       have O4 := HO3.out.past (p := ⟨b, 2, none⟩) (Ne.symm hbN) (.int .i64 0)
       clear d2 g2 HN3 HO3 HB3
       generalize w3.setCell ⟨b, 2, none⟩ (.int .i64 0) = w4 at *
       have n2 := O4.at 2
       have n3 := O4.at 3
       have n4 := O4.at 4
       simp at n2 n3 n4
       clear O4)
    | (go_at_call 47
       refine (show Calls Tryd.prog 47 #[.pointer (some ⟨b, 0, none⟩), .agg #[.int .i64 2, .int .i64 sk, .int .i64 fr, .int .i64 to, .bool false, .string ⟨#[]⟩, .int .i64 0, .string ⟨tx.toArray⟩]] w4 (fun e' w5 => ∃ v, e' = .returned v ∧ GRow evK w5 w4.heap.size v [⟨2, sk, fr, to, stL op.reverse lo.reverse, tx⟩] ∧ Below w4.heap.size w4 w5) from events_any HN4.out (by simp [HL.out]) (by simp; omega) ⟨2, sk, fr, to, ⟨false, [], 0⟩, tx⟩).mono ?_
       rintro e w5 ⟨ve, rfl, hev, hb5⟩
       have HEV := Lib.hid hev
       have HB5 := Lib.hid hb5
       have HN5 := Lib.hid ((HN4.out.mono (H := fun j => F j ∧ j < w.heap.size) (fun j _ hj => ⟨hj, HF.out j hj⟩)).below hb5)
       clear hev hb5)
    | (go_at_call 48; refine (HEnd.out _ _ (HN5.out.mono (H := F) (fun j _ hj => hj.1))).mono ?_; rintro e w6 ⟨rfl, ht6, hn6⟩
       have HT6 := Lib.hid ht6
       have HN6 := Lib.hid hn6
       clear ht6 hn6))
  go_ret2
  have hz4 := HT4.out.size
  have hz5 := HB5.out.size
  have hev := HEV.out
  rw [stL_rev] at hev
  have hevF : ∀ g, ve.ownBlock = some g → ¬ F g := fun g hg hFg => by
    have := (hev.low hg).1
    have := HF.out g hFg
    omega
  have hT5 : Touch F w w5 := HT4.out.trans (Touch.of_new (F := F) HB5.out) (fun _ _ h => h)
  exact ⟨ve, rfl, (hev.mono hz4).keep HT6.out hevF, hT5.trans HT6.out (fun _ _ h => h), HN6.out.mono (fun j _ hh => by
    rcases hh with hh | hh
    · exact Or.inl hh
    · exact Or.inr (by omega))⟩

theorem NRaw.nameput {g n c k : Nat} {x : Lvl} (h : NRaw w b m y wi l lv (.slice (some ⟨g, 0, none⟩) n c) G) (hx : lv[k]? = some x) (s : List UInt8) :
    NRaw (w.setCell ⟨g, k * 3 + 2, none⟩ (.string ⟨s.toArray⟩)) b m y wi l (lv.set k ⟨x.fr, x.many, s⟩) (.slice (some ⟨g, 0, none⟩) n c) G := by
  have hg := h.off g rfl
  have ht : Touch (fun j => j = g) w (w.setCell ⟨g, k * 3 + 2, none⟩ (.string ⟨s.toArray⟩)) := (Touch.refl (fun j => j = g) w).setCell (p := ⟨g, k * 3 + 2, none⟩) (.inl rfl) _
  have := h.row.putAt (i := k) (j := 2) (a := ⟨x.fr, x.many, s⟩) (u := .string ⟨s.toArray⟩) hx (by decide) rfl
  exact ⟨StP.move h.stk ht (fun j hj e => hg (e ▸ hj)), by simpa [show lvK.n = 3 from rfl] using this, h.off⟩

set_option maxRecDepth 100000 in
set_option maxHeartbeats 4000000 in
/-- A name ends. -/
theorem end_name {op : List Bool} {lo : List Lvl} {o : Bool} {x : Lvl} (h : NR w b F m y wi (o :: op).reverse (x :: lo).reverse) (hF : ∀ k, F k → k < w.heap.size) (hT : Tab w) (t : Tok) (hb : t.begun = false) (hw : t.kind = wi) (hk : t.kind = 8 ∨ t.kind = 9 ∨ t.kind = 10) (ht : t.kind = 10 → t.text = lT ∨ t.text = lF ∨ t.text = lN)
    (hl : op.length = lo.length) (h5 : op.length ≤ 4990) (hn : (y == 3 || y == 4) = true) :
    Calls Tryd.prog 31 #[.pointer (some ⟨b, 0, none⟩), .agg (tokCells t).toArray] w fun e w' => e = .returned (.tuple #[.slice none 0 0, .int .i64 0]) ∧ Aft F w w' b m 5 0 (o :: op).reverse (⟨x.fr, x.many, t.text⟩ :: lo).reverse := by
  have h0 := hT.elim fun _ h => h.inside
  have HEK := Lib.hid (fun w' (hb : Below w.heap.size w w') => ended_any t hk ht w' (hT.stay hb h0))
  have hFb := h.has
  have HF := Lib.hid hF
  have HN := Lib.hid (fun (w' : World) (c1 : w'.cell? ⟨b, 1, none⟩ = some (.int .i64 y)) => nameMay_any b y w' c1)
  simp only [hn] at HN
  obtain ⟨v, G, h, hG1, hG2⟩ := h
  have HKK := Lib.hid (show (x :: lo).reverse.length = lo.length + 1 by simp)
  have HX := Lib.hid (show (x :: lo).reverse[lo.length]? = some x by simp)
  have HS := Lib.hid (show ∀ z : Lvl, (x :: lo).reverse.set lo.length z = (z :: lo).reverse by intro z; simp)
  have h5k : lo.length ≤ 5000 := by omega
  generalize (x :: lo).reverse = lv at *
  generalize (o :: op).reverse = l at *
  generalize lo.length = k at *
  obtain ⟨g, c, rfl, hc, hg, hgb, hG, _⟩ := h.last HKK.out HX.out
  have HM := Lib.hid (fun w' (hb : Below w.heap.size w w') => h.move (Touch.of_new (F := fun _ => False) hb) (fun _ _ h => h) (fun _ _ h => h))
  have HG1 := Lib.hid hG1
  have hFg := hG2 g rfl
  have HG2 := Lib.hid hG2
  obtain ⟨kd, bg, fr, to, tx⟩ := t
  have hb : bg = false := hb
  have hw : kd = wi := hw
  subst hb hw
  have HEK : Hid (∀ w', Below w.heap.size w w' → Calls Tryd.prog 44 #[.agg #[.int .i64 kd, .bool false, .int .i64 fr, .int .i64 to, .string ⟨tx.toArray⟩]] w' fun e w2 => e = .returned (.tuple #[.int .i64 (scalarK ⟨kd, false, fr, to, tx⟩), .bool true]) ∧ Below w'.heap.size w' w2) := HEK
  show Calls _ _ #[.pointer (some ⟨b, 0, none⟩), .agg #[.int .i64 kd, .bool false, .int .i64 fr, .int .i64 to, .string ⟨tx.toArray⟩]] _ fun e w' => e = .returned (.tuple #[.slice none 0 0, .int .i64 0]) ∧ Aft F w w' b m 5 0 l (⟨x.fr, x.many, tx⟩ :: lo).reverse
  generalize scalarK ⟨kd, false, fr, to, tx⟩ = sk at *
  have hne : (kd != kd) = false := by simp
  have hbN : b ≠ w.heap.size := by omega
  have hgN : g ≠ w.heap.size := by omega
  have hbg : b ≠ g := Ne.symm hgb
  clear h hk ht hl hn hF hT hG1 hG2
  go_enter Tryd.func31, Tryd.ntmps31
  go_wp2_with (
    go_at_call 44; refine (HEK.out _ (bel1 w _)).mono ?_; rintro e w2 ⟨rfl, hb2⟩
    have hB2 : Below w.heap.size w w2 := (bel1 w _).trans (hb2.mono (by simp))
    have hO := (Own.fresh w 48 #[.int .i64 kd, .bool false, .int .i64 fr, .int .i64 to, .string ⟨tx.toArray⟩]).stay hb2 (by simp)
    have n0 := hO.at 0
    have n1 := hO.at 1
    simp at n0 n1
    have HO := Lib.hid hO
    have HB := Lib.hid hB2
    have h2 := HM.out w2 hB2
    have c2 := (StP.cells h2.stk).2.2.1
    have f2 := StP.free h2.stk 2
    clear hO hB2 hb2 h2)
  go_quiet (fail)
  have d2 : (w2.drewN nq).cell? ⟨b, 2, none⟩ = some (.int .i64 kd) := c2
  have g2 : (w2.drewN nq).frozen? ⟨b, 2, none⟩ = false := f2
  have HB3 := Lib.hid (bel_drew HB.out nq)
  have HO3 := Lib.hid (show Own (w2.drewN nq) w.heap.size 48 _ from HO.out)
  clear c2 f2 n0 n1 HB HO
  generalize w2.drewN nq = w3 at *
  have HN3 := Lib.hid (HM.out w3 HB3.out)
  go_wp2_with (
    go_at_call 45; refine (HN.out _ (StP.cells (HN3.out.in 0).stk).2.1).mono ?_; rintro e w' ⟨rfl, rfl⟩
    have HN4 := Lib.hid (HN3.out.in 0)
    have HT4 := Lib.hid ((Touch.of_new (F := F) HB3.out).setCell (p := ⟨b, 2, none⟩) (.inl hFb.1) (.int .i64 0))
    have HO4 := Lib.hid (HO3.out.past (p := ⟨b, 2, none⟩) (Ne.symm hbN) (.int .i64 0))
    clear d2 g2 HN3 HO3 HB3
    generalize w3.setCell ⟨b, 2, none⟩ (.int .i64 0) = w4 at *)
  have HP := Lib.hid (top_lv (HN4.out.drewN 1) HKK.out h5k)
  have HO5 := Lib.hid (show Own w4.drew w.heap.size 48 _ from HO4.out)
  have n4 := HO5.out.at 4
  simp at n4
  go_region_with (
    go_at_call 46; refine HP.out.mono ?_; rintro e w' ⟨rfl, q, rfl⟩
    have HN5 := Lib.hid ((HN4.out.drewN 1).drewN q)
    have HT5 := Lib.hid ((HT4.out.drewN 1).drewN q)
    have n5 : ((w4.drewN 1).drewN q).cell? ⟨w.heap.size, 4, none⟩ = some (.string ⟨tx.toArray⟩) := n4
    generalize (w4.drewN 1).drewN q = w5 at *
    obtain ⟨g2, c2, e2, _, _, _, _, _, _, k2, k9⟩ := HN5.out.last HKK.out HX.out
    injection e2 with e2 _ ec
    injection e2 with e2
    injection e2 with e2 _ _
    subst e2 ec
    have k8 := k9 (k * 3 + 2)
    have c1 := (StP.cells HN5.out.stk).2.1
    have f1 := StP.free HN5.out.stk 1
    clear k9)
  all_goals
    go_wp2
    go_ret2
    have H6 := HN5.out.nameput HX.out tx
    rw [HS.out] at H6
    exact ⟨rfl, (HT5.out.setCell (p := ⟨g, k * 3 + 2, none⟩) (.inl hFg) (.string ⟨tx.toArray⟩)).setCell (p := ⟨b, 1, none⟩) (.inl hFb.1) (.int .i64 5), ⟨_, G, H6.may 5, fun j hj => .inl (HG1.out j hj), fun j hj => .inl (HG2.out j hj)⟩⟩
end

end Go.Proofs.YthpkcapooeedeaaDoor
