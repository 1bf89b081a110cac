/- The walk of SliceAlls, over what package slice is proved to do. -/
import Derived.Test.YtkianpaihdidnaaRows
import Derived.Test.YtkianpaihdidnaaRef12E
import Derived.Test.YtkianpaihdidnaaSliB
import Derived.Test.YtkianpaihdidnaaSliE
namespace Go.Proofs.Ytkianpaihdidnaa
open Go.RowKit
set_option linter.unusedVariables false

/-- A selector's cells, two cells more, and what is older, stay. -/
def SelTwo (W : World) (b : Nat) (p1 p2 : Addr) (x : Value) (k : Int) (nm : ByteArray) (ix st en : Int) (hs he : Bool) (sd : Int) (w : World) : Prop :=
  w.cell? ⟨b, 0, none⟩ = some (.int .i64 k) ∧ w.cell? ⟨b, 1, none⟩ = some (.string nm) ∧ w.cell? ⟨b, 2, none⟩ = some (.int .i64 ix) ∧ w.cell? ⟨b, 3, none⟩ = some (.int .i64 st) ∧ w.cell? ⟨b, 4, none⟩ = some (.int .i64 en) ∧ w.cell? ⟨b, 5, none⟩ = some (.bool hs) ∧ w.cell? ⟨b, 6, none⟩ = some (.bool he) ∧ w.cell? ⟨b, 7, none⟩ = some (.int .i64 sd) ∧ Below W.heap.size W w ∧ b < w.heap.size ∧ W.heap.size ≤ w.heap.size ∧ w.cell? p1 = some x ∧ w.cell? p2 = some x
theorem SelTwo.both {W w : World} {b : Nat} {p1 p2 : Addr} {x : Value} {k ix st en sd : Int} {nm : ByteArray} {hs he : Bool} (h : SelTwo W b p1 p2 x k nm ix st en hs he sd w) : SelAt W b k nm ix st en hs he sd w ∧ w.cell? p1 = some x ∧ w.cell? p2 = some x := by
  obtain ⟨h0, h1, h2, h3, h4, h5, h6, h7, h8, h9, h10, h11, h12⟩ := h
  exact ⟨⟨h0, h1, h2, h3, h4, h5, h6, h7, h8, h9, h10⟩, h11, h12⟩
theorem SelTwo.of {W w : World} {b : Nat} {p1 p2 : Addr} {x : Value} {k ix st en sd : Int} {nm : ByteArray} {hs he : Bool} (h : SelAt W b k nm ix st en hs he sd w) (c1 : w.cell? p1 = some x) (c2 : w.cell? p2 = some x) : SelTwo W b p1 p2 x k nm ix st en hs he sd w := by
  obtain ⟨h0, h1, h2, h3, h4, h5, h6, h7, h8, h9, h10⟩ := h
  exact ⟨h0, h1, h2, h3, h4, h5, h6, h7, h8, h9, h10, c1, c2⟩
theorem SelTwo.on {W w w' : World} {b : Nat} {p1 p2 : Addr} {x : Value} {k ix st en sd : Int} {nm : ByteArray} {hs he : Bool} (h : SelTwo W b p1 p2 x k nm ix st en hs he sd w) (hb : Below w.heap.size w w') : SelTwo W b p1 p2 x k nm ix st en hs he sd w' := by
  obtain ⟨h, c1, c2⟩ := h.both
  exact SelTwo.of (h.on hb) ((hb.cell (cell_inside c1)).trans c1) ((hb.cell (cell_inside c2)).trans c2)
theorem SelTwo.drew {W w : World} {b : Nat} {p1 p2 : Addr} {x : Value} {k ix st en sd : Int} {nm : ByteArray} {hs he : Bool} (h : SelTwo W b p1 p2 x k nm ix st en hs he sd w) : SelTwo W b p1 p2 x k nm ix st en hs he sd w.drew := h.on ⟨rfl, rfl, rfl, Nat.le_refl _, fun _ _ => rfl⟩

theorem idxs_at (l : List Nat) (k : Nat) (hk : k < l.length) : ∃ x, x ∈ l ∧ (idxs l)[k]? = some (Value.int .i64 (x : Nat)) := by
  refine ⟨l[k], List.getElem_mem hk, ?_⟩
  unfold idxs
  rw [List.getElem?_map, List.getElem?_eq_getElem hk]
  rfl
/-- Where SliceAlls' loop is. -/
def RelSa (W : World) (b : Nat) (s : Sel) (len : Nat) (L : List Nat) (g1 g2 : Option Addr) (vi : Value) (wr : World) : Prop :=
  ∃ k : Nat, vi = .int .i64 k ∧ k ≤ len ∧ SelAt W b s.kind s.name s.index s.start s.en s.hs s.he s.stride wr ∧ Rd wr wr.heap.size g1 len (idxs L) ∧ Rd wr wr.heap.size g2 len (idxs L)

set_option maxRecDepth 100000 in
set_option maxHeartbeats 8000000 in
theorem sliceAlls_core (C : SliceC) (hV : ∀ w : World, Calls Try.prog 6 #[] w fun e w' => e = .returned (.bool true) ∧ Below w.heap.size w w') (s : Sel) (m : Int) (W : World) (hm : (Lit.int .u8 m).wf = true) :
    Calls Try.prog 4 #[.agg (selV s), .int .u8 m] W fun e w' => e = .returned (.bool true) ∧ Below W.heap.size W w' := by
  have KV := Lib.hid hV
  have hs0 := SelAt.start s (Below.refl W.heap.size W)
  simp only [Lit.wf, Bool.and_eq_true, decide_eq_true_eq] at hm
  have hmin : IntKind.u8.min = 0 := rfl
  have hmax : IntKind.u8.max = 255 := rfl
  rw [hmin, hmax] at hm
  clear hmin hmax
  obtain ⟨n, rfl⟩ := Int.eq_ofNat_of_zero_le hm.1
  have hn : (n : Int) ≤ 255 := hm.2
  have hn0 : 0 ≤ (n : Int) := hm.1
  clear hm
  by_cases hr : ¬ RightI s
  · have KR := Lib.hid (fun w => rright_no s w hr)
    unfold selV at *
    go_enter Try.func4, Try.ntmps4
    go_wp2_with (first
      | (go_at_call 6; refine (KV.out _).mono ?_; rintro e w1 ⟨rfl, hb1⟩; have hs1 := hs0.on hb1; obtain ⟨h0, h1, h2, h3, h4, h5, h6, h7, h8, h9, h10⟩ := hs1)
      | (go_at_call 7; refine (KR.out _).mono ?_; rintro e w2 ⟨rfl, hb2⟩))
    go_ret
    exact ⟨rfl, h8.trans (hb2.mono h10)⟩
  have hr : RightI s := Classical.not_not.1 hr
  have KR := Lib.hid (fun w => rright_yes s w hr)
  have K1 := Lib.hid (fun w => C.all s n w hr (by omega))
  have K2 := Lib.hid (fun w => rall_any s n w hr (by omega))
  have KH := Lib.hid (show ∀ x ∈ allI s n, ∀ w, Calls Try.prog 10 #[.agg (selV s), .int .i64 (x : Nat), .int .i64 n] w fun e w' => e = .returned (.bool true) ∧ Below w.heap.size w w' from fun x hx w => by
    have h := C.has s x n w hr (by omega) (by omega)
    rwa [(List.mem_filter.1 hx).2] at h)
  have hlen : (allI s n).length ≤ n := by
    have := List.length_filter_le (fun i : Nat => hasI s i n) (List.range n)
    rw [List.length_range] at this
    exact this
  generalize allI s n = L at *
  have HQ := Lib.hid (idxs_at L)
  have HLE := Lib.hid (show (L.length : Int) ≤ 255 by omega)
  clear hlen
  obtain ⟨len, hlen⟩ : ∃ len, len = L.length := ⟨_, rfl⟩
  rw [← hlen] at K1 K2 HLE HQ
  clear hlen
  have hwr : IntKind.i64.wrap (n : Int) = n := by
    rw [IntKind.wrap_i64]
    omega
  clear hr
  unfold selV at *
  go_enter Try.func4, Try.ntmps4
  go_upto_region 5 with (first
    | (go_at_call 6; refine (KV.out _).mono ?_; rintro e w1 ⟨rfl, hb1⟩; have hs1 := hs0.on hb1; have HS1 := Lib.hid hs1; obtain ⟨h0, h1, h2, h3, h4, h5, h6, h7, h8, h9, h10⟩ := hs1)
    | (go_at_call 7; refine (KR.out _).mono ?_; rintro e w2 ⟨rfl, hb2⟩; clear h0 h1 h2 h3 h4 h5 h6 h7 h8 h9 h10; have hs2 := HS1.out.on hb2; have HS2 := Lib.hid hs2; obtain ⟨h0, h1, h2, h3, h4, h5, h6, h7, h8, h9, h10⟩ := hs2))
  clear h0 h1 h2 h3 h4 h5 h6 h7 h8 h9 h10
  have hS : SelAt W W.heap.size s.kind s.name s.index s.start s.en s.hs s.he s.stride w2 := HS2.out
  clear HS1 HS2 hb1 hb2 hs0
  go_region_held3 (fun w' => w'.cell? ⟨W.heap.size, 0, none⟩ = some (.int .i64 s.kind) ∧ w'.cell? ⟨W.heap.size, 1, none⟩ = some (.string s.name) ∧ w'.cell? ⟨W.heap.size, 2, none⟩ = some (.int .i64 s.index) ∧ w'.cell? ⟨W.heap.size, 3, none⟩ = some (.int .i64 s.start) ∧ w'.cell? ⟨W.heap.size, 4, none⟩ = some (.int .i64 s.en) ∧ w'.cell? ⟨W.heap.size, 5, none⟩ = some (.bool s.hs) ∧ w'.cell? ⟨W.heap.size, 6, none⟩ = some (.bool s.he) ∧ w'.cell? ⟨W.heap.size, 7, none⟩ = some (.int .i64 s.stride) ∧ Below W.heap.size W w' ∧ W.heap.size < w'.heap.size ∧ W.heap.size ≤ w'.heap.size)
    (first | assumption | exact SelAt.on (by assumption) (by assumption) | exact SelAt.drew (by assumption))
    (first
      | (go_at_call 16; with_reducible refine (K1.out _).mono ?_; rintro e w' ⟨A1, cap1, rfl, r1, hb'⟩; (try have r2 := (r2.stay hb').more hb'.size))
      | (go_at_call 17; with_reducible refine (K2.out _).mono ?_; rintro e w' ⟨A2, cap2, rfl, r2, hb'⟩; (try have r1 := (r1.stay hb').more hb'.size)))
  all_goals
    have hst : SelAt W W.heap.size s.kind s.name s.index s.start s.en s.hs s.he s.stride w' := by assumption
    have hrel0 : RelSa W W.heap.size s len L A1 A2 (.int .i64 0) w' := ⟨0, rfl, Nat.zero_le _, hst, r1, r2⟩
    have HR0 := Lib.hid hrel0
    clear hst hrel0 r1 r2 hS hb'
    go_upto_region 9 with fail
    go_loopw [28] (fun vi wr => RelSa W W.heap.size s len L A1 A2 vi wr) (fun vi _ => ((len : Int) - intOf vi).toNat)
    case atStart => exact HR0.out
    case round =>
      obtain ⟨k, rfl, hk, hst, r1, r2⟩ := hrel
      have hle := HLE.out
      by_cases hlt : k < len
      · obtain ⟨x, hx, hq⟩ := HQ.out k hlt
        obtain ⟨g1, rfl, _, e1⟩ := r1.2 (by omega)
        obtain ⟨g2, rfl, _, e2⟩ := r2.2 (by omega)
        have c1 := e1 k _ hq
        have c2 := e2 k _ hq
        have KX := Lib.hid (KH.out x hx)
        have R1 := Lib.hid r1
        have R2 := Lib.hid r2
        have hkI : (k : Int) < len := by omega
        have hne : ((x : Int) != x) = false := by simp
        have hS : SelTwo W W.heap.size (g1.add k) (g2.add k) (.int .i64 (x : Nat)) s.kind s.name s.index s.start s.en s.hs s.he s.stride wr := SelTwo.of hst c1 c2
        clear hst r1 r2 e1 e2 hq c1 c2 hx HR0
        go_upto_region 11 with fail
        go_region_held3 (fun w' => w'.cell? ⟨W.heap.size, 0, none⟩ = some (.int .i64 s.kind) ∧ w'.cell? ⟨W.heap.size, 1, none⟩ = some (.string s.name) ∧ w'.cell? ⟨W.heap.size, 2, none⟩ = some (.int .i64 s.index) ∧ w'.cell? ⟨W.heap.size, 3, none⟩ = some (.int .i64 s.start) ∧ w'.cell? ⟨W.heap.size, 4, none⟩ = some (.int .i64 s.en) ∧ w'.cell? ⟨W.heap.size, 5, none⟩ = some (.bool s.hs) ∧ w'.cell? ⟨W.heap.size, 6, none⟩ = some (.bool s.he) ∧ w'.cell? ⟨W.heap.size, 7, none⟩ = some (.int .i64 s.stride) ∧ Below W.heap.size W w' ∧ W.heap.size < w'.heap.size ∧ W.heap.size ≤ w'.heap.size ∧ w'.cell? (g1.add k) = some (.int .i64 (x : Nat)) ∧ w'.cell? (g2.add k) = some (.int .i64 (x : Nat)))
          (first | assumption | exact SelTwo.on (by assumption) (by assumption) | exact SelTwo.drew (by assumption))
          (first | (go_at_call 10; with_reducible refine (KX.out _).mono ?_; rintro e w' ⟨rfl, hb'⟩))
        all_goals
          have hst2 : SelTwo W W.heap.size (g1.add k) (g2.add k) (.int .i64 (x : Nat)) s.kind s.name s.index s.start s.en s.hs s.he s.stride w' := by assumption
          have hbd : Below wr.heap.size wr w' := (show Below wr.heap.size wr wr.drew from ⟨rfl, rfl, rfl, Nat.le_refl _, fun _ _ => rfl⟩).trans hb'
          have HN := Lib.hid (show RelSa W W.heap.size s len L (some g1) (some g2) (.int .i64 ((k : Int) + 1)) w' from ⟨k + 1, by go_num, hlt, hst2.both.1, (R1.out.stay hbd).more hbd.size, (R2.out.stay hbd).more hbd.size⟩)
          clear hst2 hb' hbd hS
          go_wp2
          go_roundw
          case rel => exact HN.out
          case measure => simp [intOf]; omega
      · have hkI : ¬ (k : Int) < len := by omega
        clear r1 r2
        go_wp2
        go_ret
        exact ⟨rfl, hst.below⟩

end Go.Proofs.Ytkianpaihdidnaa
