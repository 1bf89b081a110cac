/- The walk of LexSpans, over what package lex's All is proved to do. -/
import Derived.Test.YtoahnbjpmbhpfaaDoorLaw07
namespace Go.Proofs.YtoahnbjpmbhpfaaDoor
open Go.RowKit

def opI : Option Nat → Int
  | none => -1
  | some f => f

/-- Where LexSpans' loop is. -/
def RelLS (l : List UInt8) (ts : List Tok) (sE : Nat × Option Nat) (W3 wr : World) (a o i : Value) : Prop :=
  ∃ (k : Nat) (s : Nat × Option Nat), k ≤ ts.length ∧ i = .int .i64 k ∧ a = .int .i64 s.1 ∧ o = .int .i64 (opI s.2) ∧ s.1 ≤ l.length ∧ Spans l (ts.drop k) s sE ∧ Below W3.heap.size W3 wr

/-- Where the look at what lies between is. -/
def RelBk (i j : Nat) (v : Value) : Prop := ∃ m : Nat, i ≤ m ∧ m ≤ j ∧ v = .int .i64 m

set_option maxRecDepth 100000 in
set_option maxHeartbeats 4000000 in
theorem lexSpans_core {T : World → Prop} (hL : Lasts T) (hA : AllC T) (A : Option Addr) (len cap : Nat) (l : List UInt8) (W : World) (hT : T W) (hx : Rd W W.heap.size A len (byteCells l)) :
    Calls Tryd.prog 3 #[.slice A len cap] W fun e w' => e = .returned (.bool true) ∧ Below W.heap.size W w' := by
  have KV := Lib.hid (fun w h => alive7_any hA hL w h)
  by_cases h2 : 2000 < (len : Int)
  · clear hA
    go_enter Tryd.func3, Tryd.ntmps3
    go_wp2_with (first
      | (go_at_call 4; refine (KV.out _ hT).mono ?_; rintro e w1 ⟨rfl, hb1⟩))
    go_ret
    exact ⟨rfl, hb1⟩
  have h2' : (len : Int) ≤ 2000 := by omega
  have hll : l.length = len := by have := hx.1; rwa [byteCells_length] at this
  have KA := Lib.hid (fun w h1 h2 => hA A len cap l w h1 (by omega) h2)
  obtain ⟨sE, hsp, hse1, hse2, hse3⟩ := lexR_spans l
  rw [hll] at hse2 hse3
  generalize lexR l = r at *
  obtain ⟨ts, kd, av⟩ := r
  simp only [] at hsp hse1 hse2 hse3
  have HSP := Lib.hid hsp
  have HSE := Lib.hid hse3
  have HLL := Lib.hid hll
  clear hsp hse3 hA hll
  go_enter Tryd.func3, Tryd.ntmps3
  go_wp2_with (first
    | (go_at_call 4; refine (KV.out _ hT).mono ?_; rintro e w1 ⟨rfl, hb1⟩; have hT1 := hL _ _ hT hb1; have hx1 := (hx.stay hb1).more hb1.size)
    | (go_at_call 5; refine (KA.out _ hx1 hT1).mono ?_; rintro e w2 ⟨v, rfl, htk, hb2⟩
       obtain ⟨A2, c2, rfl, hc1, hc2, hcell⟩ := htk))
  have z1 := hb1.size
  have z2 := hb2.size
  have HC := Lib.hid hcell
  clear hcell
  go_loopw [5, 6, 22] (fun a o i wr => RelLS l ts sE (w2.alloc (.cells #[.int .i64 kd, .int .i64 av] 26)) wr a o i) (fun _ _ i _ => ts.length - (intOf i).toNat)
  case atStart => exact ⟨0, (0, none), Nat.zero_le _, rfl, rfl, rfl, Nat.zero_le _, HSP.out, Below.refl _ _⟩
  case round =>
    obtain ⟨k, s, hk, rfl, rfl, rfl, hs1, hsp, hbel⟩ := hrel
    have z3 : (w2.alloc (.cells #[.int .i64 kd, .int .i64 av] 26)).heap.size = w2.heap.size + 1 := by simp
    by_cases hlt : k < ts.length
    · obtain ⟨b, o, rfl, hbo, hcell⟩ := HC.out (by omega)
      have hcw : ∀ j, wr.cell? ⟨b, j, none⟩ = w2.cell? ⟨b, j, none⟩ := fun j =>
        (hbel.cell (p := ⟨b, j, none⟩) (by show b < _; omega)).trans ((below1 w2 (.cells #[.int .i64 kd, .int .i64 av] 26)).cell (p := ⟨b, j, none⟩) hbo)
      rw [List.drop_eq_getElem_cons hlt] at hsp
      obtain ⟨hok, hrest⟩ := hsp
      obtain ⟨c0, c1, c2', c3, c4⟩ := hcell k ts[k] (List.getElem?_eq_getElem hlt)
      rw [← hcw] at c0 c1 c2' c3 c4
      have hbz : W.heap.size ≤ wr.heap.size := by have := hbel.size; omega
      have hxr := (hx.stay ((hb1.trans (hb2.mono z1)).alloc (by omega) (.cells #[.int .i64 kd, .int .i64 av] 26))).stay (hbel.mono (by omega))
      clear hcell hcw
      generalize ts[k] = t at *
      obtain ⟨tk, tb, tf, tt, tx⟩ := t
      simp only [] at c0 c1 c2' c3 c4
      cases tb
      case true =>
        obtain ⟨g1, g2, g3, g4⟩ : s.2 = none ∧ s.1 ≤ tf ∧ tt = tf ∧ tf < l.length := hok
        have HR := Lib.hid (show Spans l (ts.drop (k + 1)) (s.1, some tf) sE from hrest)
        have hop : opI s.2 = -1 := by rw [g1]; rfl
        subst g3
        have hgf : tt < len := by rw [← HLL.out]; exact g4
        have q1 : ¬ ((tt : Int) < s.1) := by omega
        have q2 : ((tt : Int) != tt) = false := by simp
        have q3 : ¬ ((len : Int) ≤ tt) := by omega
        clear hrest g1 g4
        go_wp2
        go_roundw
        case rel => exact ⟨k + 1, (s.1, some tt), hlt, by go_num, rfl, rfl, hs1, HR.out, hbel.alloc (by have := hbel.size; omega) _⟩
        case measure => simp [intOf]; omega
      case false =>
        obtain ⟨g1, g2, g3, g4, g5⟩ : (s.2 = none ∨ s.2 = some tf) ∧ s.1 ≤ tf ∧ tf < tt ∧ tt ≤ l.length ∧ AllBlank l s.1 tf := hok
        have HR := Lib.hid (show Spans l (ts.drop (k + 1)) (tt, none) sE from hrest)
        have htl : tt ≤ len := by rw [← HLL.out]; exact g4
        have hlen : 0 < len := by omega
        obtain ⟨ad, rfl, had, hbytes⟩ := hxr.2 hlen
        have q1 : ¬ ((tf : Int) < s.1) := by omega
        have q2 : ((tf : Int) != tf) = false := by simp
        have q3 : ¬ ((tt : Int) ≤ tf) := by omega
        have q4 : ¬ ((len : Int) < tt) := by omega
        have q5 : (0 : Int) ≤ tf := by omega
        have hop : opI s.2 = -1 ∨ opI s.2 = tf := by
          rcases g1 with g1 | g1
          · exact .inl (by rw [g1]; rfl)
          · exact .inr (by rw [g1]; rfl)
        have HB := Lib.hid hbytes
        have HG := Lib.hid g5
        have hrel' := hbel.alloc (by have := hbel.size; omega) (.cells #[.int .i64 tk, .bool false, .int .i64 tf, .int .i64 tt, .string ⟨tx.toArray⟩] 30)
        clear hrest g1 g4 g5 hbytes
        generalize opI s.2 = ov at *
        rcases hop with rfl | rfl
        all_goals
          go_wp2
          go_loop [9] (fun v => RelBk s.1 tf v) (fun v => tf - (intOf v).toNat)
          case atStart => exact ⟨s.1, Nat.le_refl _, g2, rfl⟩
          case round =>
            obtain ⟨m, hm1, hm2, rfl⟩ := hrel
            by_cases hmt : m < tf
            · obtain ⟨c, hc, hbl⟩ := HG.out m hm1 hmt
              have hcell := HB.out m (.int .u8 c.toNat) (by unfold byteCells; rw [List.getElem?_map, hc]; rfl)
              have hmI : (m : Int) < tf := by omega
              have hml : m < len := by omega
              have hblI : (c.toNat : Int) = 32 ∨ (c.toNat : Int) = 9 ∨ (c.toNat : Int) = 10 ∨ (c.toNat : Int) = 13 := by rcases hbl with rfl | rfl | rfl | rfl <;> simp
              have hcell2 : (wr.alloc (.cells #[.int .i64 tk, .bool false, .int .i64 tf, .int .i64 tt, .string ⟨tx.toArray⟩] 30)).cell? (ad.add m) = some (.int .u8 c.toNat) :=
                ((below1 wr _).cell (p := ad.add m) (by rw [add_block]; omega)).trans hcell
              clear hc hcell hbl
              generalize (c.toNat : Int) = cn at *
              rcases hblI with rfl | rfl | rfl | rfl
              all_goals
                go_wp2
                go_round
                case rel => exact ⟨m + 1, by omega, hmt, by go_num⟩
                case measure => simp [intOf]; omega
            · have hmI : ¬ (m : Int) < tf := by omega
              go_wp2
              go_roundw
              case rel => exact ⟨k + 1, (tt, none), hlt, by go_num, rfl, rfl, (by rw [HLL.out]; exact htl), HR.out, hrel'⟩
              case measure => simp [intOf]; omega
    · rw [List.drop_of_length_le (by omega)] at hsp
      obtain rfl : s = sE := hsp
      have hown := (Own.fresh w2 26 #[.int .i64 kd, .int .i64 av]).stay hbel (by omega)
      have d0 := hown.at 0
      have d1 := hown.at 1
      simp at d0 d1
      have q1 : (s.1 : Int) ≤ av := by omega
      have q2 : (av : Int) ≤ len := by omega
      have hbF := ((hb1.trans (hb2.mono z1)).alloc (by omega) (.cells #[.int .i64 kd, .int .i64 av] 26)).trans (hbel.mono (by omega))
      by_cases hk1 : kd = 1
      · obtain ⟨e1, e2⟩ := HSE.out hk1
        have hop : opI s.2 = -1 := by rw [e1]; rfl
        subst hk1 e2
        clear e1
        generalize opI s.2 = ov at *
        subst hop
        go_wp2
        go_ret
        exact ⟨rfl, hbF⟩
      · have gk : (kd != 1) = true := by simp [hk1]
        clear hk1
        go_wp2
        go_ret
        exact ⟨rfl, hbF⟩

end Go.Proofs.YtoahnbjpmbhpfaaDoor
