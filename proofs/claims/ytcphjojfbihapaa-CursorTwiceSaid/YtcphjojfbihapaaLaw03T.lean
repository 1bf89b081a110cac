/- The walk of CursorTwice. -/
import Derived.Test.YtcphjojfbihapaaLaw03
namespace Go.Proofs.Ytcphjojfbihapaa
open Go.RowKit

/-- Chunks that are read only, and the set of their blocks. -/
def RdBS (w : World) (G : Nat → Prop) (A : Option Addr) (n : Nat) (xss : List (List Int)) : Prop :=
  ∃ vs, RdS w G A n vs ∧ vs.length = xss.length ∧ ∀ (i : Nat) u x, vs[i]? = some u → xss[i]? = some x → ∃ A' c, u = .slice A' x.length c ∧ x.length ≤ c ∧ RdS w G A' x.length (x.map (Value.int .u8))

theorem RdBS.of_chunks {w : World} {base : Nat} {G : Nat → Prop} {A : Option Addr} {n c : Nat} {vs : List Value} {xss : List (List Int)} {e : TypeId} (h : w.ownsRow base e 1 (.slice A n c) n vs) (hc : Chunks w base vs xss) (hG : ∀ g, base ≤ g → g < w.heap.size → G g) : RdBS w G A n xss :=
  ⟨vs, RdS.of_row h hG, hc.1, fun i u x hu hx => by
    have h' := hc.2 i u x hu hx
    obtain ⟨A', c', rfl, hn, _⟩ := own_slice h'
    exact ⟨A', c', rfl, hn, RdS.of_row h' hG⟩⟩

theorem RdBS.stay {w w' : World} {F G : Nat → Prop} {A : Option Addr} {n : Nat} {xss : List (List Int)} (h : RdBS w G A n xss) (ht : Touch F w w') (hd : ∀ k, k < w.heap.size → G k → ¬ F k) : RdBS w' G A n xss := by
  obtain ⟨vs, h1, h2, h3⟩ := h
  exact ⟨vs, h1.stay ht hd, h2, fun i u x hu hx => by
    obtain ⟨A', c, e, hn, hr⟩ := h3 i u x hu hx
    exact ⟨A', c, e, hn, hr.stay ht hd⟩⟩

theorem RdBS.live {w : World} {G : Nat → Prop} {A : Option Addr} {n : Nat} {xss : List (List Int)} (h : RdBS w G A n xss) : RdBB w w.heap.size A n xss := by
  obtain ⟨vs, h1, h2, h3⟩ := h
  exact ⟨vs, h1.live, h2, fun i u x hu hx => by
    obtain ⟨A', c, e, hn, hr⟩ := h3 i u x hu hx
    exact ⟨A', c, e, hn, hr.live⟩⟩

theorem Strip.live {w : World} {F : Nat → Prop} {sb : Nat} {p : Int} {xs : List Int} (h : Strip w F sb p xs) : Strip w (fun k => F k ∧ k < w.heap.size) sb p xs := h.mono (fun _ hk hF => ⟨hF, hk⟩)

/-- Where the outer loop is: the first k chunks are in the strip. -/
def RelT (l : List (List Int)) (W : World) (sb B1 B2 : Nat) (A : Option Addr) (m : Nat) (wr : World) (n i : Value) : Prop :=
  ∃ (k : Nat), k ≤ m ∧ i = .int .i64 k ∧ n = .int .i64 (((l.take k).flatten).length : Nat) ∧ B2 ≤ wr.heap.size ∧ Strip wr (fun b => b = sb ∨ B2 ≤ b) sb 0 (l.take k).flatten ∧
    RdBS wr (fun b => B1 ≤ b ∧ b < B2) A m l ∧ Below W.heap.size W wr

/-- Where the inner loop is: of the chunk's own chunks the first k are in the strip too. -/
def RelTI (pre : List Int) (d : List (List Int)) (W : World) (sb B1 B2 B3 B4 : Nat) (A : Option Addr) (m : Nat) (l : List (List Int)) (A' : Option Addr) (m' : Nat) (wr : World) (n i : Value) : Prop :=
  ∃ (k : Nat), k ≤ m' ∧ i = .int .i64 k ∧ n = .int .i64 ((pre ++ (d.take k).flatten).length : Nat) ∧ B4 ≤ wr.heap.size ∧ Strip wr (fun b => b = sb ∨ (B2 ≤ b ∧ b < B3) ∨ B4 ≤ b) sb 0 (pre ++ (d.take k).flatten) ∧
    RdBS wr (fun b => B1 ≤ b ∧ b < B2) A m l ∧ RdBS wr (fun b => B3 ≤ b ∧ b < B4) A' m' d ∧ Below W.heap.size W wr

theorem take_flat (l : List (List Int)) (k : Nat) (h : k < l.length) : (l.take (k + 1)).flatten = (l.take k).flatten ++ l.getD k [] := by
  rw [List.take_succ_eq_append_getElem h, List.flatten_append]
  simp [List.getD, h]

theorem take_flat_le (l : List (List Int)) (k : Nat) : (l.take k).flatten.length ≤ l.flatten.length := by
  have : l.flatten = (l.take k).flatten ++ (l.drop k).flatten := by rw [← List.flatten_append, List.take_append_drop]
  rw [this]
  simp

set_option maxRecDepth 100000 in
set_option maxHeartbeats 2000000 in
theorem twice_core (A1 : Option Addr) (n1 c1 : Nat) (xs : List Int) (A2 : Option Addr) (n2 c2 : Nat) (zs : List Int) (A3 : Option Addr) (n3 c3 : Nat) (ys : List Int) (W : World)
    (h1 : Rd W W.heap.size A1 n1 (xs.map (Value.int .u8))) (hc1 : n1 ≤ c1) (hb1 : n1 ≤ 1000) (h2 : Rd W W.heap.size A2 n2 (zs.map (Value.int .i64))) (hb2 : n2 ≤ 100) (h3 : Rd W W.heap.size A3 n3 (ys.map (Value.int .i64))) (hb3 : n3 ≤ 100) :
    Calls Try.prog 4 #[.slice A1 n1 c1, .slice A2 n2 c2, .slice A3 n3 c3] W fun e w' => e = .returned (.bool true) ∧ Below W.heap.size W w' := by
  have hl1 : xs.length = n1 := by simpa using h1.1
  have hl2 : zs.length = n2 := by simpa using h2.1
  have hl3 : ys.length = n3 := by simpa using h3.1
  have KC := Lib.hid (fun (w : World) (hb : Below W.heap.size W w) => cut_any A1 n1 c1 xs A2 n2 c2 zs w ((h1.stay hb).more hb.size) hc1 (by omega) ((h2.stay hb).more hb.size) (by omega))
  have KD := Lib.hid (fun (w : World) (hb : Below W.heap.size W w) A n c x (h : Rd w w.heap.size A n (x.map (Value.int .u8))) (hc : n ≤ c) (hn : n ≤ 1000) => cut_any A n c x A3 n3 c3 ys w h hc (by omega) ((h3.stay hb).more hb.size) (by omega))
  have hlen : (cutM xs zs).length ≤ 101 := by have := cutM_length zs xs; omega
  have hfl : (cutM xs zs).flatten = xs := cutM_flat zs xs
  have hdlen := Lib.hid (fun x : List Int => (show (cutM x ys).length ≤ 101 by have := cutM_length ys x; omega))
  have hdfl := Lib.hid (fun x : List Int => cutM_flat ys x)
  have CB := Lib.hid (fun (w : World) (hb : Below W.heap.size W w) => conv_any (c := c1) (h1.stay hb))
  generalize cutM xs zs = l at *
  have hxn : ∀ k, (l.take k).flatten.length ≤ 1000 := fun k => by have := take_flat_le l k; rw [hfl, hl1] at this; omega
  have hxe : ∀ x ∈ l, x.length ≤ 1000 := by
    intro x hx
    have := List.Sublist.length_le (List.sublist_flatten_of_mem hx)
    rw [hfl, hl1] at this
    omega
  clear hl2 hl3 h1 h2 h3
  obtain ⟨m, hm⟩ : ∃ m, l.length = m := ⟨_, rfl⟩
  rw [hm] at hlen
  have HM := Lib.hid hm
  have HFL := Lib.hid hfl
  have HL1 := Lib.hid hl1
  have HXN := Lib.hid hxn
  have HXE := Lib.hid hxe
  clear hm hfl hl1 hxn hxe
  have hq1 : (n1 : Int) ≤ 1000 := by omega
  have hq2 : (n2 : Int) ≤ 100 := by omega
  have hq3 : (n3 : Int) ≤ 100 := by omega
  go_enter Try.func4, Try.ntmps4
  go_wp2_with (first
    | (go_at_call 5; refine (alive3_any _).mono ?_; rintro e w1 ⟨rfl, hw1⟩)
    | (go_at_call 10
       refine (new_any 0 _ (by decide)).mono ?_
       rintro e w2 ⟨rfl, hs2, hb2⟩
       rw [show max (0 : Int) 0 = 0 from rfl] at hs2
       have hw2 := hw1.trans (hb2.mono hw1.size)
       have hz2 := hs2.choose_spec.choose_spec.choose_spec.choose_spec.choose_spec.1.own.inside)
    | (go_at_call 6
       refine (KC.out w2 hw2).mono ?_
       rintro e w3 ⟨v3, vs3, rfl, hown3, hch3, hb3⟩
       rw [HM.out] at hown3
       obtain ⟨A, c, rfl, hcn, hcm⟩ := own_slice hown3
       have hbs3 := RdBS.of_chunks (G := fun b => w2.heap.size ≤ b ∧ b < w3.heap.size) hown3 hch3 (fun g h1 h2 => ⟨h1, h2⟩)
       have hw3 := hw2.trans (hb3.mono hw2.size)
       have hs3 := hs2.touch (Touch.of_new (F := fun _ => False) hb3) (fun _ _ _ h => h)
       have hz3 := hb3.size
       clear hown3 hch3 hs2))
  have hz1 := hw1.size
  generalize w1.heap.size = sb at *
  generalize w2.heap.size = B1 at *
  obtain ⟨B2, hB2⟩ : ∃ B, B = w3.heap.size := ⟨_, rfl⟩
  rw [← hB2] at hbs3 hz3
  have HB2 := Lib.hid (Nat.le_of_eq hB2)
  clear hB2
  go_loopw [8, 37] (fun n i wr => RelT l W sb B1 B2 A m wr n i) (fun _ i _ => m - (intOf i).toNat)
  case atStart => exact ⟨0, Nat.zero_le _, rfl, rfl, HB2.out, hs3.mono (fun _ _ h => .inl h), hbs3, hw3⟩
  case round =>
    obtain ⟨k, hk, rfl, rfl, hsz, hst, hbs, hbel⟩ := hrel
    obtain ⟨wo, rfl⟩ : ∃ wo : World, wo = wr := ⟨_, rfl⟩
    by_cases hlt : k < m
    · obtain ⟨ad, A', c', rfl, _, hcell, hxc, hxr⟩ := hbs.live.get k hlt
      have hxk : (l.getD k []).length ≤ 1000 := HXE.out _ (by rw [List.getD_eq_getElem?_getD, List.getElem?_eq_getElem (by rw [HM.out]; exact hlt)]; simp)
      have hpre := HXN.out (k + 1)
      rw [take_flat l k (by rw [HM.out]; exact hlt)] at hpre
      have hpre1 := HXN.out k
      have HT := Lib.hid (take_flat l k (by rw [HM.out]; exact hlt))
      generalize l.getD k [] = x at *
      generalize hp : (l.take k).flatten = pre at *
      have HP := Lib.hid hp
      clear hp
      go_wp2_with (
        (go_at_call 6
         refine (KD.out wo hbel A' x.length c' x (hxr.more (Nat.le_refl _)) hxc hxk).mono ?_
         rintro e w4 ⟨v4, vs4, rfl, hown4, hch4, hb4⟩
         obtain ⟨A4, c4, rfl, hcn4, hcm4⟩ := own_slice hown4
         have hdl := hdlen.out x
         have hdf := hdfl.out x
         generalize cutM x ys = d at *
         obtain ⟨m', hm'⟩ : ∃ m', d.length = m' := ⟨_, rfl⟩
         rw [hm'] at hown4 hcn4 hdl
         have HM' := Lib.hid hm'
         have HDF := Lib.hid hdf
         obtain ⟨B4, hB4⟩ : ∃ B, B = w4.heap.size := ⟨_, rfl⟩
         obtain ⟨B3, hB3⟩ : ∃ B, B = wo.heap.size := ⟨_, rfl⟩
         have hbd4 := RdBS.of_chunks (G := fun b => B3 ≤ b ∧ b < B4) hown4 hch4 (fun g h1 h2 => ⟨by omega, by omega⟩)
         have htb : Touch (fun _ => False) wo w4 := Touch.of_new hb4
         have hbs4 := hbs.stay htb (fun _ _ _ h => h)
         have hst4 := (hst.live.touch htb (fun _ _ _ h => h)).mono (G := fun b => b = sb ∨ (B2 ≤ b ∧ b < B3) ∨ B4 ≤ b) (fun b _ hb => by omega)
         have hbel4 := hbel.trans (hb4.mono hbel.size)
         have hz4 := hb4.size
         have HB3 : Hid (B3 = wo.heap.size) := hB3
         have HB4 : Hid (B4 = w4.heap.size) := hB4
         have q34 : B3 ≤ B4 := by omega
         have q23 : B2 ≤ B3 := by omega
         clear hm' hdf hB3 hB4 hown4 hch4 hst hbs htb))
      rw [HM'.out]
      go_loopw [8, 45] (fun n i wr => RelTI pre d W sb B1 B2 B3 B4 (some ad) m l A4 m' wr n i) (fun _ i _ => m' - (intOf i).toNat)
      case atStart => exact ⟨0, Nat.zero_le _, rfl, by simp, Nat.le_of_eq HB4.out, by simpa using hst4, hbs4, hbd4, hbel4⟩
      case round =>
        obtain ⟨j, hj, rfl, rfl, hsz5, hst5, hbs5, hbd5, hbel5⟩ := hrel
        by_cases hlt' : j < m'
        · obtain ⟨ad5, A5, c5, rfl, _, hcell5, hxc5, hxr5⟩ := hbd5.live.get j hlt'
          have HT5 := Lib.hid (take_flat d j (by rw [HM'.out]; exact hlt'))
          have hle5 : (pre ++ (d.take j).flatten).length + (d.getD j []).length ≤ 1000 := by
            have h1 := take_flat_le d (j + 1)
            rw [HT5.out, HDF.out] at h1
            simp at h1 hpre ⊢
            omega
          generalize d.getD j [] = y at *
          have hlast : ((pre ++ (d.take (j + 1)).flatten).length : Int) = ((pre ++ (d.take j).flatten).length : Int) + y.length := by
            rw [HT5.out]
            simp
            omega
          have HLast := Lib.hid hlast
          have heq : pre ++ (d.take (j + 1)).flatten = (pre ++ (d.take j).flatten) ++ y := by rw [HT5.out, List.append_assoc]
          have HEq := Lib.hid heq
          clear hlast heq
          generalize (pre ++ (d.take j).flatten) = pj at *
          generalize hpj : (pre ++ (d.take (j + 1)).flatten) = pj1 at *
          have HPJ := Lib.hid hpj
          clear hpj
          go_wp2_with (
            (go_at_call 11
             go_must (
               refine (add_any wr hst5 A5 y.length c5 hxr5 (by omega)).mono ?_
               rintro e w6 ⟨rfl, hst6, ht6⟩
               have hbs6 := hbs5.stay ht6 (fun b _ hb => by omega)
               have hbd6 := hbd5.stay ht6 (fun b _ hb => by omega)
               have hst6' := hst6.mono (G := fun b => b = sb ∨ (B2 ≤ b ∧ b < B3) ∨ B4 ≤ b) (fun b _ hb => by omega)
               have hw0 := hbel5.size
               have hbel6 := hbel5.trans (ht6.below (B := W.heap.size) (fun b _ hb => by omega) hw0))
             have hz6 := ht6.size
             clear hst6 ht6))
          go_roundw
          case rel => exact ⟨j + 1, hlt', by go_num, by rw [show (pre ++ (d.take (j + 1)).flatten) = pj1 from HPJ.out, HLast.out], by omega, by rw [show (pre ++ (d.take (j + 1)).flatten) = pj1 from HPJ.out, HEq.out]; exact hst6', hbs6, hbd6, hbel6⟩
          case measure => simp [intOf]; omega
        · obtain rfl : j = m' := by omega
          rw [show d.take j = d from by rw [← HM'.out]; exact List.take_length, HDF.out] at hst5 ⊢
          have HTo := to_any wr hst5
          rw [Int.zero_add] at HTo
          have HTo := Lib.hid HTo
          go_wp2_with (go_at_call 12; refine HTo.out.mono ?_; rintro e w6 ⟨rfl, q, rfl⟩)
          go_roundw
          case rel => exact ⟨k + 1, hlt, by go_num, by rw [HT.out, List.length_append, Int.natCast_add], by show B2 ≤ wr.heap.size; omega, by rw [HT.out]; exact (hst5.same (w' := wr.drewN q) rfl).mono (fun b _ hb => by omega), hbs5.stay ((Touch.refl (fun _ => False) wr).drewN q) (fun _ _ _ h => h), hbel5.trans (below_drew _ _ _)⟩
          case measure => simp [intOf]; omega
    · obtain rfl : k = m := by omega
      rw [show l.take k = l from by rw [← HM.out]; exact List.take_length, HFL.out] at hst
      have hst := (hst : Strip wo (fun b => b = sb ∨ B2 ≤ b) sb 0 xs)
      have hg := Lib.hid (get_whole wo hst (n1 : Int) (by rw [HL1.out]; omega))
      have hd := Lib.hid (fun q => drop_any (wo.drewN q) (hst.same rfl) (n1 : Int) n1 (by rw [HL1.out]; omega) (by rw [HL1.out]; omega))
      have cb := fun q => CB.out (wo.drewN q) (hbel.trans (below_drew _ _ _))
      have hw0 := hbel.size
      go_wp2_with (first
        | (go_at_call 13; refine hg.out.mono ?_; rintro e w6 ⟨rfl, q, rfl⟩)
        | (go_at_call 14
           go_must (
             refine (hd.out _).mono ?_
             rintro e w7 ⟨rfl, hst7, ht7⟩
             rw [Int.zero_add, show xs.drop n1 = [] by rw [List.drop_eq_nil_of_le (by rw [HL1.out]; omega)]] at hst7))
        | (go_at_call 15; refine (len_any _ hst7).mono ?_; rintro e w8 ⟨rfl, q8, rfl⟩)
        | (go_at_call 16; refine (from_any _ (hst7.same (w' := w7.drewN q8) rfl)).mono ?_; rintro e w9 ⟨rfl, rfl⟩))
      go_ret
      have hdw := below_drew W.heap.size wo q
      have hb7 := ht7.below (B := W.heap.size) (fun b _ hb => by omega) hw0
      exact ⟨rfl, ((hbel.trans hdw).trans hb7).trans (below_drew _ _ _)⟩

theorem cursorTwice_walk (A1 : Option Addr) (n1 c1 : Nat) (zs1 : List Int) (A2 : Option Addr) (n2 c2 : Nat) (zs2 : List Int) (A3 : Option Addr) (n3 c3 : Nat) (zs3 : List Int) (W : World) (h1 : IsRow .u8 W A1 n1 c1 zs1) (h2 : IsRow .i64 W A2 n2 c2 zs2) (h3 : IsRow .i64 W A3 n3 c3 zs3) :
    Calls Try.prog 4 #[.slice A1 n1 c1, .slice A2 n2 c2, .slice A3 n3 c3] W fun e w' => e = .returned (.bool true) ∧ Below W.heap.size W w' := by
  by_cases hl : n1 ≤ 1000
  · have hl' : (n1 : Int) ≤ 1000 := by omega
    by_cases hl2 : n2 ≤ 100
    · have hl2' : (n2 : Int) ≤ 100 := by omega
      by_cases hl3 : n3 ≤ 100
      · exact twice_core A1 n1 c1 (zs1.take n1) A2 n2 c2 (zs2.take n2) A3 n3 c3 (zs3.take n3) W (Rd.of_row h1) h1.len_cap hl (Rd.of_row h2) hl2 (Rd.of_row h3) hl3
      · have hl3' : 100 < (n3 : Int) := by omega
        go_enter Try.func4, Try.ntmps4
        go_wp2_with (go_at_call 5; refine (alive3_any _).mono ?_; rintro e w1 ⟨rfl, hw1⟩)
        go_ret
        exact ⟨rfl, hw1⟩
    · have hl2' : 100 < (n2 : Int) := by omega
      go_enter Try.func4, Try.ntmps4
      go_wp2_with (go_at_call 5; refine (alive3_any _).mono ?_; rintro e w1 ⟨rfl, hw1⟩)
      go_ret
      exact ⟨rfl, hw1⟩
  · have hl' : 1000 < (n1 : Int) := by omega
    go_enter Try.func4, Try.ntmps4
    go_wp2_with (go_at_call 5; refine (alive3_any _).mono ?_; rintro e w1 ⟨rfl, hw1⟩)
    go_ret
    exact ⟨rfl, hw1⟩

end Go.Proofs.Ytcphjojfbihapaa
