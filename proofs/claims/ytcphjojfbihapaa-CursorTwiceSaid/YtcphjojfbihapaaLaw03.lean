/- The walks of the statements of layer 3. -/
import Derived.Test.YtcphjojfbihapaaStripB
import Derived.Test.YtcphjojfbihapaaRef03
import Derived.Test.YtcphjojfbihapaaJoin
import Derived.Lib.SlBytesConst
import Derived.OpenShut
namespace Go.Proofs.Ytcphjojfbihapaa
open Go.RowKit

section
variable {F : Nat → Prop} {sb : Nat} {p : Int} {xs : List Int} (w : World)
theorem from_any (h : Strip w F sb p xs) :
    Calls Try.prog 16 #[.pointer (some ⟨sb, 0, none⟩)] w fun e w' => e = .returned (.int .i64 p) ∧ w = w' := by
  obtain ⟨A, c, g, N, all, h, _, _⟩ := h
  exact from_raw w h
theorem len_any (h : Strip w F sb p xs) :
    Calls Try.prog 15 #[.pointer (some ⟨sb, 0, none⟩)] w fun e w' => e = .returned (.int .i64 xs.length) ∧ ∃ q, w' = w.drewN q := by
  obtain ⟨A, c, g, N, all, h, hx, hg⟩ := h
  have := len_raw w h
  have e : ((N : Int) - g) = xs.length := by
    rw [← hx.out, List.length_drop, h.len]
    have := h.left
    omega
  rw [e] at this
  exact this
theorem to_any (h : Strip w F sb p xs) :
    Calls Try.prog 12 #[.pointer (some ⟨sb, 0, none⟩)] w fun e w' => e = .returned (.int .i64 (p + xs.length)) ∧ ∃ q, w' = w.drewN q := by
  obtain ⟨A, c, g, N, all, h, hx, hg⟩ := h
  have := to_raw w h
  have e : ((N : Int) - g) = xs.length := by
    rw [← hx.out, List.length_drop, h.len]
    have := h.left
    omega
  rw [e] at this
  exact this
theorem get_whole (h : Strip w F sb p xs) (t : Int) (ht : t = p + xs.length) :
    Calls Try.prog 13 #[.pointer (some ⟨sb, 0, none⟩), .int .i64 p, .int .i64 t] w fun e w' => e = .returned (.tuple #[.string (strOfNums xs), .bool true]) ∧ ∃ q, w' = w.drewN q := by
  obtain ⟨A, c, g, N, all, h, hx, hg⟩ := h
  have e : ((N : Int) - g) = xs.length := by
    rw [← hx.out, List.length_drop, h.len]
    have := h.left
    omega
  refine get_raw w h p t (Int.le_refl _) (by omega) (by omega) _ ?_
  rw [hx.out, Int.sub_self, show (t - p).toNat = xs.length by omega]
  simp
end

theorem Rd.of_block {w : World} {b : Nat} {t : TypeId} {l : List Value} {k : Nat} {fr : Nat × Nat} (h : w.heap[b]? = some (.cells l.toArray t fr)) (hk : l.length = k) : Rd w (b + 1) (some ⟨b, 0, none⟩) k l := by
  refine ⟨hk, fun _ => ⟨_, rfl, Nat.lt_succ_self _, fun j u hu => ?_⟩⟩
  rw [add_none, cell_of_row w b _ _ t fr h]
  simpa using hu

/-- What the example's Cut leaves. -/
def CutIn (W : World) (l : List (List Int)) (e : Ending) (w' : World) : Prop :=
  ∃ A c, e = .returned (.slice A l.length c) ∧ RdBB w' w'.heap.size A l.length l ∧ Below W.heap.size W w'

theorem cut_here (W : World) :
    Calls Try.prog 6 #[.slice (some ⟨W.heap.size, 0, none⟩) 5 5, .slice (some ⟨W.heap.size + 1, 0, none⟩) 2 2]
      ((W.alloc (.cells #[.int .u8 97, .int .u8 98, .int .u8 99, .int .u8 100, .int .u8 101] 5 (5, 6))).alloc (.cells #[.int .i64 2, .int .i64 0] 3)) (CutIn W [[97, 98], [], [99, 100, 101]]) := by
  have hw : ((W.alloc (.cells #[.int .u8 97, .int .u8 98, .int .u8 99, .int .u8 100, .int .u8 101] 5 (5, 6))).alloc (.cells #[.int .i64 2, .int .i64 0] 3)).heap.size = W.heap.size + 2 := by simp
  have hb := ((Below.refl W.heap.size W).alloc (Nat.le_refl _) (.cells #[.int .u8 97, .int .u8 98, .int .u8 99, .int .u8 100, .int .u8 101] 5 (5, 6))).alloc (by simp) (.cells #[.int .i64 2, .int .i64 0] 3)
  have h0 : ((W.alloc (.cells #[.int .u8 97, .int .u8 98, .int .u8 99, .int .u8 100, .int .u8 101] 5 (5, 6))).alloc (.cells #[.int .i64 2, .int .i64 0] 3)).heap[W.heap.size]? = some (.cells #[.int .u8 97, .int .u8 98, .int .u8 99, .int .u8 100, .int .u8 101] 5 (5, 6)) := by
    rw [Below.heap_alloc _ _ _ (by simp)]; exact heap_alloc_new W _
  have h1 : ((W.alloc (.cells #[.int .u8 97, .int .u8 98, .int .u8 99, .int .u8 100, .int .u8 101] 5 (5, 6))).alloc (.cells #[.int .i64 2, .int .i64 0] 3)).heap[W.heap.size + 1]? = some (.cells #[.int .i64 2, .int .i64 0] 3 (0, 0)) := by
    have := heap_alloc_new (W.alloc (.cells #[.int .u8 97, .int .u8 98, .int .u8 99, .int .u8 100, .int .u8 101] 5 (5, 6))) (.cells #[.int .i64 2, .int .i64 0] 3)
    rwa [show (W.alloc (.cells #[.int .u8 97, .int .u8 98, .int .u8 99, .int .u8 100, .int .u8 101] 5 (5, 6))).heap.size = W.heap.size + 1 by simp] at this
  generalize (W.alloc (.cells #[.int .u8 97, .int .u8 98, .int .u8 99, .int .u8 100, .int .u8 101] 5 (5, 6))).alloc (.cells #[.int .i64 2, .int .i64 0] 3) = w at *
  have r0 := Rd.of_block (l := [97, 98, 99, 100, 101].map (Value.int .u8)) h0 rfl
  have r1 := Rd.of_block (l := [2, 0].map (Value.int .i64)) h1 rfl
  refine (cut_any _ 5 5 [97, 98, 99, 100, 101] _ 2 2 [2, 0] w (r0.more (by omega)) (by decide) (by decide) (r1.more (by omega)) (by decide)).mono ?_
  rintro e w1 ⟨v, vs, rfl, hown1, hch1, hb1⟩
  obtain ⟨A, c, rfl, _, _⟩ := own_slice hown1
  exact ⟨A, c, rfl, RdBB.of_chunks hown1 hch1, hb.trans (hb1.mono (by omega))⟩

set_option maxRecDepth 100000 in
set_option maxHeartbeats 1000000 in
theorem alive3_any (W : World) :
    Calls Try.prog 5 #[] W fun e w' => e = .returned (.bool true) ∧ Below W.heap.size W w' := by
  have kc := fun (w : World) (C : Array Value) (n c : Nat) => Lib.run_convert_bytes_const (P := Try.prog) w 22 5 C n c Try.underlying22 Try.underlying5
  have HC := Lib.hid (cut_here W)
  have hs0 : (strOfNums [97, 98]).toList = [97, 98] := by decide +kernel
  have hs2 : (strOfNums [99, 100, 101]).toList = [99, 100, 101] := by decide +kernel
  go_enter Try.func5, Try.ntmps5
  go_wp2_with (first
    | (go_at_call 6
       refine HC.out.mono ?_
       rintro e w1 ⟨A, c, rfl, hbb, hbw1⟩)
    | (go_at_call 10
       refine (new_any 7 _ (by decide)).mono ?_
       rintro e w2 ⟨rfl, hs2, hb2⟩
       rw [show max (7 : Int) 0 = 7 from rfl] at hs2)
    | (go_at_call 11
       go_must (
         refine (add_any _ (hs2.touch ((Touch.refl (fun _ => False) _).alloc _) (fun _ _ _ h => h)) _ _ _ (Rd.of_list (l := [1, 2, 3].map (Value.int .u8)) (Own.fresh _ _ _) rfl) (by decide)).mono ?_
         rintro e w3 ⟨rfl, hs3, ht3⟩
         rw [List.nil_append] at hs3
         have hb3 : Below w1.heap.size w1 w3 := (hb2.alloc hb2.size _).trans (ht3.below (fun k _ hk => by omega) (by have := hb2.size; simp; omega))
         have hbb3 := hbb.stay hb3
         obtain ⟨ad, A0, c0, e0, _, hc0, _, hr0⟩ := hbb3.get 0 (by decide)
         obtain ⟨ad', A2, c2, e2, _, hc2, _, hr2⟩ := hbb3.get 2 (by decide)
         subst e0
         injection e2 with e2
         subst e2
         have hc0' : w3.cell? ad = some (.slice A0 2 c0) := hc0
         have hc2' : w3.cell? ⟨ad.block, ad.off + 2, none⟩ = some (.slice A2 3 c2) := hc2
         have cv0 := conv_any (c := c0) (n := 2) (xs := [97, 98]) hr0
         have cv2 := conv_any (c := c2) (n := 3) (xs := [99, 100, 101]) hr2
         clear hc0 hc2 hr0 hr2))
    | (go_at_call 14; refine (drop_any _ hs3 8 1 (by decide) (by decide)).mono ?_; rintro e w4 ⟨rfl, hs4, ht4⟩)
    | (go_at_call 16; refine (from_any _ hs4).mono ?_; rintro e w' ⟨rfl, rfl⟩)
    | (go_at_call 15; refine (len_any _ hs4).mono ?_; rintro e w' ⟨rfl, q, rfl⟩))
  go_ret
  have z1 := hbw1.size
  have z2 := hb2.size
  exact ⟨rfl, (hbw1.trans (hb3.mono z1)).trans ((ht4.below (B := W.heap.size) (fun k _ hk => by rcases hk with hk | hk <;> (try simp at hk) <;> omega) (by have := hb3.size; omega)).trans (below_drew _ _ _))⟩

theorem cutM_mem (zs : List Int) : ∀ b, ∀ x ∈ cutM b zs, ∀ y ∈ x, y ∈ b := by
  intro b x hx y hy
  rw [← cutM_flat zs b]
  exact List.mem_flatten.2 ⟨x, hx, hy⟩

theorem row_spot {w : World} {b1 : Nat} {A : Option Addr} {n c : Nat} {vs : List Value} {e : TypeId} (h : w.ownsRow b1 e 1 (.slice A n c) n vs) : ∀ ad, A = some ad → ad.spot = none := by
  intro ad e
  subst e
  rcases h.2 with ⟨hv, _⟩ | ⟨g, cap, cur, hv, _⟩
  · cases hv
  · injection hv with hA _ _
    injection hA with hA
    rw [hA]

theorem byte_range {n : Int} (h : (Lit.int .u8 n).wf = true) : 0 ≤ n ∧ n < 256 := by
  have := bounds_u8 h
  omega

theorem IsRow.len_cap {k : IntKind} {w : World} {A : Option Addr} {len cap : Nat} {zs : List Int} (h : IsRow k w A len cap zs) : len ≤ cap := by
  rcases h with ⟨_, rfl, rfl, _⟩ | ⟨_, _, hl, _⟩ <;> omega

set_option maxRecDepth 100000 in
set_option maxHeartbeats 2000000 in
theorem cuts_core (A1 : Option Addr) (n1 c1 : Nat) (xs : List Int) (A2 : Option Addr) (n2 c2 : Nat) (zs : List Int) (W : World)
    (h1 : Rd W W.heap.size A1 n1 (xs.map (Value.int .u8))) (hx : ∀ y ∈ xs, 0 ≤ y ∧ y < 256) (hc1 : n1 ≤ c1) (hb1 : n1 ≤ 1000) (h2 : Rd W W.heap.size A2 n2 (zs.map (Value.int .i64))) (hb2 : n2 ≤ 200) :
    Calls Try.prog 3 #[.slice A1 n1 c1, .slice A2 n2 c2] W fun e w' => e = .returned (.bool true) ∧ Below W.heap.size W w' := by
  have hl1 : xs.length = n1 := by simpa using h1.1
  have hl2 : zs.length = n2 := by simpa using h2.1
  have KC := Lib.hid (fun (w : World) (hb : Below W.heap.size W w) => cut_any A1 n1 c1 xs A2 n2 c2 zs w ((h1.stay hb).more hb.size) hc1 (by omega) ((h2.stay hb).more hb.size) (by omega))
  have KR := Lib.hid (fun (w : World) (hb : Below W.heap.size W w) => rcut_any A1 n1 c1 xs A2 n2 c2 zs w ((h1.stay hb).more hb.size) hc1 (by omega) ((h2.stay hb).more hb.size) (by omega))
  have hlen : (cutM xs zs).length ≤ 201 := by have := cutM_length zs xs; omega
  have hfl : (cutM xs zs).flatten = xs := cutM_flat zs xs
  have hmem : ∀ x ∈ cutM xs zs, ∀ y ∈ x, 0 ≤ y ∧ y < 256 := fun x hx' y hy => hx y (cutM_mem zs xs x hx' y hy)
  have CB := fun (w : World) (hb : Below W.heap.size W w) => conv_any (c := c1) (h1.stay hb)
  generalize cutM xs zs = l at *
  have hfn : l.flatten.length ≤ 1000000 := by rw [hfl, hl1]; omega
  rw [← hfl] at CB
  clear hfl hl1 hl2 h1 h2 hx
  obtain ⟨m, hm⟩ : ∃ m, l.length = m := ⟨_, rfl⟩
  rw [hm] at hlen
  have HM := Lib.hid hm
  clear hm
  have CB := Lib.hid CB
  go_enter Try.func3, Try.ntmps3
  go_wp2_with (first
    | (go_at_call 5; refine (alive3_any _).mono ?_; rintro e w1 ⟨rfl, hw1⟩)
    | (go_at_call 6
       refine (KC.out w1 hw1).mono ?_
       rintro e w2 ⟨v2, vs2, rfl, hown2, hch2, hw2⟩
       rw [HM.out] at hown2
       obtain ⟨A, c, rfl, hcn, hcm⟩ := own_slice hown2
       have hsp := row_spot hown2
       have hbb2 := RdBB.of_chunks hown2 hch2
       have hw2' := hw1.trans (hw2.mono hw1.size)
       clear hown2 hch2 hw2))
  go_region_with (first
    | (go_at_call 8
       refine (KR.out _ hw2'.drew).mono ?_
       rintro e w3 ⟨v3, vs3, rfl, hown3, hch3, hw3⟩
       rw [HM.out] at hown3
       obtain ⟨A', c', rfl, hcn', hcm'⟩ := own_slice hown3
       have hbb3 := RdBB.of_chunks hown3 hch3
       have hw3 : Below w2.heap.size w2 w3 := ((Below.refl _ w2).drew).trans hw3
       have hw3' := hw2'.trans (hw3.mono hw2'.size)
       have hbb2' := hbb2.stay hw3
       clear hown3 hch3)
    | (go_at_call 7
       refine (same_yes _ _ _ _ _ _ l _ _ _ hbb2' hbb3 (by omega)).mono ?_
       rintro e w4 ⟨rfl, hw4⟩
       have hw4' := hw3'.trans (hw4.mono hw3'.size)
       have hbb4 := hbb2'.stay (hw4.mono hw3.size)
       have cb4 := CB.out _ hw4'
       have JN := Lib.hid (join_any _ _ c l _ w4 hbb4 hsp hcn hmem hfn (by omega)))
    | (go_at_call 9
       refine JN.out.mono ?_
       rintro e w5 ⟨A5, n5, c5, rfl, cv5, hw5⟩
       have hw5' := hw4'.trans (hw5.mono hw4'.size)
       have cb5 := CB.out _ hw5'))
  all_goals
    go_wp2
    go_ret
    exact ⟨rfl, hw5'⟩

theorem cursorCuts_walk (A1 : Option Addr) (n1 c1 : Nat) (zs1 : List Int) (A2 : Option Addr) (n2 c2 : Nat) (zs2 : List Int) (W : World) (h1 : IsRow .u8 W A1 n1 c1 zs1) (h2 : IsRow .i64 W A2 n2 c2 zs2) :
    Calls Try.prog 3 #[.slice A1 n1 c1, .slice A2 n2 c2] W fun e w' => e = .returned (.bool true) ∧ Below W.heap.size W w' := by
  by_cases hl : n1 ≤ 1000
  · by_cases hl2 : n2 ≤ 200
    · exact cuts_core A1 n1 c1 (zs1.take n1) A2 n2 c2 (zs2.take n2) W (Rd.of_row h1) (fun y hy => byte_range (h1.wf y (List.mem_of_mem_take hy))) h1.len_cap hl (Rd.of_row h2) hl2
    · have hl' : (n1 : Int) ≤ 1000 := by omega
      have hl2' : 200 < (n2 : Int) := by omega
      go_enter Try.func3, Try.ntmps3
      go_wp2_with (go_at_call 5; refine (alive3_any _).mono ?_; rintro e w1 ⟨rfl, hw1⟩)
      go_ret
      exact ⟨rfl, hw1⟩
  · have hl' : 1000 < (n1 : Int) := by omega
    go_enter Try.func3, Try.ntmps3
    go_wp2_with (go_at_call 5; refine (alive3_any _).mono ?_; rintro e w1 ⟨rfl, hw1⟩)
    go_ret
    exact ⟨rfl, hw1⟩

end Go.Proofs.Ytcphjojfbihapaa
