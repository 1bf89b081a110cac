/- TruthStays: the acts' loop, walked. -/
import Derived.Test.YtfkbmecmancgpaaLawS18
import Derived.Deep.RegionHeld3
namespace Go.Proofs.Ytfkbmecmancgpaa
open Go.RowKit
set_option linter.unusedVariables false
set_option linter.unusedSimpArgs false

set_option maxRecDepth 100000 in
set_option maxHeartbeats 16000000 in
theorem stays_walk (acts : List ActV) (bs : List Bool) (W : World) (A A2 : Option Addr) (len c len2 c2 : Nat) (hl : acts.length = len) (ha : ActsAt W A acts) (hb : Rd W W.heap.size A2 len2 (bs.map Value.bool)) :
    Calls Try.prog 4 #[.slice A len c, .slice A2 len2 c2] W fun e w' => e = .returned (.bool true) ∧ Below W.heap.size W w' := by
  subst hl
  have KA := Lib.hid (alive18 W)
  obtain ⟨i0, hi, hz0, hz1', hz2⟩ := info_parts int_info
  by_cases h40 : 40 < acts.length
  · have g1 : (40 : Int) < acts.length := by omega
    go_enter Try.func4, Try.ntmps4
    go_wp2_with (first
      | (go_at_call 5
         go_must (
           refine KA.out.mono ?_
           rintro e w1 ⟨rfl, hb1⟩
           have HB1 := Lib.hid hb1
           clear hb1)))
    go_ret
    exact ⟨rfl, HB1.out⟩
  · have g1 : ¬ (40 : Int) < acts.length := by omega
    by_cases h100 : 100 < len2
    · have g2 : (100 : Int) < len2 := by omega
      go_enter Try.func4, Try.ntmps4
      go_wp2_with (first
        | (go_at_call 5
           go_must (
             refine KA.out.mono ?_
             rintro e w1 ⟨rfl, hb1⟩
             have HB1 := Lib.hid hb1
             clear hb1)))
      go_ret
      exact ⟨rfl, HB1.out⟩
    · have g2 : ¬ (100 : Int) < len2 := by omega
      have KN := Lib.hid (fun w (h : Below W.heap.size W w) => lb_new W w h)
      go_enter Try.func4, Try.ntmps4
      go_wp2_with (first
        | (go_at_call 5
           go_must (
             refine KA.out.mono ?_
             rintro e w1 ⟨rfl, hb1⟩
             have HB1 := Lib.hid hb1
             clear hb1))
        | (go_at_call 6
           go_must (
             refine (KN.out _ HB1.out).mono ?_
             rintro e w2 ⟨b, rfl, tag, hL, hb2, ht2⟩
             have HL := Lib.hid hL
             have HT2 := Lib.hid ht2
             have HB2 := Lib.hid (HB1.out.trans (hb2.mono HB1.out.size))
             clear hL hb2 ht2))
        | (go_at_call 7
           go_must (
             refine (no_any _ _).mono ?_
             rintro e w5 ⟨rfl, rfl⟩))
        | (go_at_call 8
           go_must (
             refine (yes_any _ _).mono ?_
             rintro e w5 ⟨rfl, rfl⟩)))
      have hA0 := Lib.hid (show RelA acts W (w5.heap.size + 1 + 1) b (.slice (some ⟨w5.heap.size + 1, 0, none⟩) 0 0) (.int .i64 0) _ from ⟨0, tag, st0, nd0, 2, [0, 1], [], _, rfl, Nat.zero_le _, by omega, by simp, stst_start HL.out⟩)
      generalize w5.heap.size + 1 + 1 = q at *
      generalize World.alloc (World.alloc (World.alloc w5 _) _) _ = wS at *
      clear HT2 HL KN KA
      go_loopw [7, 45] (fun v7 v45 wr => RelA acts W q b v7 v45 wr) (fun _ v45 _ => acts.length - (intOf v45).toNat)
      case atStart => exact hA0.out
      case round =>
        obtain ⟨k, tag, s, nd, n, ts, vs, vT, rfl, hk, hn, htl, hS⟩ := hrel
        by_cases hkl : k < acts.length
        · have hI : (k : Int) < acts.length := by omega
          obtain ⟨ad, rfl, hadb, hac⟩ := ha.1 (by omega)
          obtain ⟨a, hae⟩ : ∃ a, a = acts[k] := ⟨_, rfl⟩
          have hok := ha.2 a (by rw [hae]; exact List.getElem_mem hkl)
          have hat := hac k hkl
          rw [← hae] at hat
          have hat2 := hat.stay hS.lb.bel (by rw [add_block]; exact hadb)
          clear hae hat hac
          obtain ⟨kd, ax, ay, LA, ln, lc, ll, ys⟩ := a
          obtain ⟨k0, k1, k2, k3, k4⟩ := hat2
          replace k0 : wr.cell? (ad.add (k * 5)) = some (.int .i64 kd) := k0
          replace k1 : wr.cell? ⟨(ad.add (k * 5)).block, (ad.add (k * 5)).off + 1, none⟩ = some (.int .i64 ax) := k1
          replace k2 : wr.cell? ⟨(ad.add (k * 5)).block, (ad.add (k * 5)).off + 2, none⟩ = some (.int .i64 ay) := k2
          replace k3 : wr.cell? ⟨(ad.add (k * 5)).block, (ad.add (k * 5)).off + 3, none⟩ = some (.slice LA ln lc) := k3
          replace k4 : wr.cell? ⟨(ad.add (k * 5)).block, (ad.add (k * 5)).off + 4, none⟩ = some (.bool ys) := k4
          obtain ⟨hrd0, hwx, hwy, hwk, hwl, hnc, hcm⟩ := hok
          replace hrd0 : Rd W W.heap.size LA ln (ll.map (Value.int .i64)) := hrd0
          replace hwx : (Lit.int .i64 ax).wf = true := hwx
          replace hwy : (Lit.int .i64 ay).wf = true := hwy
          replace hwl : ∀ z ∈ ll, (Lit.int .i64 z).wf = true := hwl
          replace hnc : ln ≤ lc := hnc
          replace hcm : lc ≤ maxLen := hcm
          obtain ⟨p8, hp8⟩ : ∃ p8, p8 = wr.heap.size := ⟨_, rfl⟩
          obtain ⟨w1, hw1⟩ : ∃ w1, w1 = wr.alloc (.cells #[.int .i64 kd, .int .i64 ax, .int .i64 ay, .slice LA ln lc, .bool ys] 33) := ⟨_, rfl⟩
          have hb1 : Below wr.heap.size wr w1 := by rw [hw1]; exact (Below.refl wr.heap.size wr).alloc (Nat.le_refl _) _
          have hs1 : w1.heap.size = wr.heap.size + 1 := by rw [hw1]; simp
          have ho1 : Own w1 p8 33 #[.int .i64 kd, .int .i64 ax, .int .i64 ay, .slice LA ln lc, .bool ys] := by rw [hw1, hp8]; exact Own.fresh wr _ _
          have hS1 := hS.more hb1
          have htp8 : tag p8 = 0 := by
            by_cases e : tag p8 = 0
            · exact e
            · have := hS.lb.bk.live p8 e; omega
          have hqp8 : q ≠ p8 := by have := hS.cell.inside; omega
          have hTp8 : ∀ k, vT.ownBlock = some k → k ≠ p8 := fun k hk => by have := (own_lt hS.rT k hk).2; omega
          have HP8F := Lib.hid (And.intro htp8 (And.intro hqp8 hTp8))
          clear htp8 hqp8 hTp8
          have hwW : Below W.heap.size W w1 := hS1.lb.bel
          have hwW2 := Lib.hid hwW
          have hrd : Rd w1 W.heap.size LA ln (ll.map (Value.int .i64)) := hrd0.stay hwW
          have hln : ll.length = ln := by simpa using hrd0.1
          have HS1 := Lib.hid hS1
          have HO1 := Lib.hid ho1
          have HRD := Lib.hid hrd
          have HW1 := Lib.hid hw1
          have HB1' := Lib.hid hb1
          have HWL := Lib.hid hwl
          have HP8 := Lib.hid hp8
          clear hS hS1 ho1 hrd0 hrd hb1 hwl
          by_cases hL : 10 < ln
          · have gL : (10 : Int) < ln := by omega
            have HE := Lib.hid hwW
            rw [hw1] at HE
            clear hwW hw1
            go_wp2
            go_ret
            exact ⟨rfl, HE.out⟩
          · have gL : ¬ (10 : Int) < ln := by omega
            by_cases hvar : kd = 0 ∨ kd = 3
            · obtain ⟨AT, cT, hvT, hcT, hmT⟩ := row_slice HS1.out.rT
              subst hvT
              obtain ⟨AV, cV, hvV, hcV, hmV⟩ := row_slice HS1.out.rV
              subst hvV
              have hvl : vs.length ≤ 1000 := by
                have h1 := nodup_len n HS1.out.nodup (fun y hy => ((HS1.out.vars y).1 hy).1)
                omega
              have KV := Lib.hid (HS1.out.lb.var (by omega))
              have hsw : (kd == 0) = true ∨ (kd == 0) = false ∧ (kd == 3) = true := by
                rcases hvar with e | e
                · exact .inl (by rw [e]; rfl)
                · exact .inr ⟨by rw [e]; rfl, by rw [e]; rfl⟩
              clear hvar hwW hw1
              rcases hsw with q0 | ⟨q0, q3⟩
              all_goals
                go_wp2_with (first
                  | (go_at_call 11
                     rw [← HW1.out]
                     go_must (
                       refine KV.out.mono ?_
                       rintro e w6 ⟨rfl, s', tag', hL6, hT6, ht6, hv6, h06⟩
                       have hcq := (hT6.own HS1.out.cell (fun e => e HS1.out.tq)).at 0
                       simp at hcq
                       have HQ6 := Lib.hid (hT6.own HS1.out.cell (fun e => e HS1.out.tq))
                       have HRV := Lib.hid (hT6.row HS1.out.rV (fun k hk e => e (HS1.out.tV k hk)))
                       have HRT := Lib.hid (hT6.row HS1.out.rT (fun k hk e => e (HS1.out.tT k hk)))
                       have HL6 := Lib.hid hL6
                       have HT6 := Lib.hid hT6
                       have Ht6 := Lib.hid ht6
                       have HV6 := Lib.hid (And.intro hv6 h06)
                       clear hL6 hT6 ht6 hv6 h06)))
                clear k0 k1 k2 k3 k4
                clear hp8 hs1
                refine wp_region_noPanic ?_
                refine region_till (F := fun w' => w'.cell? ⟨q, 0, none⟩ = some (.slice AT ts.length cT)) (G := fun _ => True) (st := 9) (by kernel_rfl) ?_
                have hS : Till (fun w' : World => w'.cell? ⟨q, 0, none⟩ = some (.slice AT ts.length cT)) (fun _ => True) 9 (Array.replicate 10 false) w6.drew := ⟨trivial, fun _ => hcq⟩
                have HCQ := Lib.hid (fun (w' : World) (h' : Touch (fun k => (Value.slice AV vs.length cV).ownBlock = some k) w6 w') => show w'.cell? ⟨q, 0, none⟩ = some (.slice AT ts.length cT) from (h'.own HQ6.out (fun e => HS1.out.qT.2 e)).at 0)
                have e6 : (w6.drew.alloc (.cells #[.int .i64 n] 3)).heap.size = w6.heap.size + 1 := by
                  show (w6.drew.alloc (.cells #[.int .i64 n] 3)).heap.size = w6.drew.heap.size + 1
                  simp
                have X1 := Own.fresh w6.drew 3 #[.int .i64 n]
                have X2 := X1.over (.cells #[.int .i64 n] 3)
                have X3 := Own.fresh (w6.drew.alloc (.cells #[.int .i64 n] 3)) 3 #[.int .i64 n]
                rw [e6] at X3
                have HX1 := Lib.hid (show Own (w6.drew.alloc (.cells #[.int .i64 n] 3)) w6.heap.size 3 #[.int .i64 n] from X1)
                have HX2 := Lib.hid (show Own ((w6.drew.alloc (.cells #[.int .i64 n] 3)).alloc (.cells #[.int .i64 n] 3)) w6.heap.size 3 #[.int .i64 n] from X2)
                have HX3 := Lib.hid X3
                have HTa := Lib.hid (show Touch (fun _ => False) w6 (w6.drew.alloc (.cells #[.int .i64 n] 3)) from (Touch.refl _ w6).drew.alloc _)
                clear X1 X2 X3 e6
                refine takeG (i := 0) (v := ?_) (by simp only [List.getElem?_toArray, List.getElem?_cons_succ, List.getElem?_cons_zero]; rfl) rfl (by kernel_rfl) (by kernel_rfl) (by kernel_rfl) (fun _ _ _ h => h) (Or.inl ⟨by rfl, ?_⟩) hS (fun hS => ?_)
                rotate_left
                · (intro w' hSw; (try dsimp only at hSw); (try go_split_ands); go_simp; try with_reducible rfl)
                try simp only [Act.put, List.setIfInBounds_toArray, List.set_cons_zero, List.set_cons_succ]
                refine takeG (i := 1) (v := ?_) (by simp only [List.getElem?_toArray, List.getElem?_cons_succ, List.getElem?_cons_zero]; rfl) rfl (by kernel_rfl) (by kernel_rfl) (by kernel_rfl) (fun _ _ _ h => h) (Or.inl ⟨by rfl, ?_⟩) hS (fun hS => ?_)
                rotate_left
                · (intro w' hSw; (try dsimp only at hSw); (try go_split_ands); go_simp; try with_reducible rfl)
                try simp only [Act.put, List.setIfInBounds_toArray, List.set_cons_zero, List.set_cons_succ]
                refine takeF (i := 4) (v := ?_) (by simp only [List.getElem?_toArray, List.getElem?_cons_succ, List.getElem?_cons_zero]; rfl) rfl (by simp only [List.getElem?_toArray, List.getElem?_cons_succ, List.getElem?_cons_zero]; rfl) (by kernel_rfl) (by kernel_rfl) (by kernel_rfl) (by kernel_rfl) (by kernel_rfl) (fun _ _ _ h => h) (Or.inl ⟨by rfl, ?_⟩) hS (fun hS => ?_)
                rotate_left
                · (intro w' hSw; (try dsimp only at hSw); (try go_split_ands); go_simp; try with_reducible rfl)
                try simp only [Act.put, List.setIfInBounds_toArray, List.set_cons_zero, List.set_cons_succ]
                refine takeG (i := 5) (v := ?_) (by simp only [List.getElem?_toArray, List.getElem?_cons_succ, List.getElem?_cons_zero]; rfl) rfl (by kernel_rfl) (by kernel_rfl) (by kernel_rfl) (fun _ _ _ h => h) (Or.inl ⟨by rfl, ?_⟩) hS (fun hS => ?_)
                rotate_left
                · (intro w' hSw; (try dsimp only at hSw); (try go_split_ands); go_simp; try with_reducible rfl)
                try simp only [Act.put, List.setIfInBounds_toArray, List.set_cons_zero, List.set_cons_succ]
                refine till_ready (rs := [2, 6]) (by kernel_rfl) (by simp) (AllTill.cons (by simp only [List.getElem?_toArray, List.getElem?_cons_succ, List.getElem?_cons_zero]; rfl) (fun K hK => ?_) (AllTill.cons (by simp only [List.getElem?_toArray, List.getElem?_cons_succ, List.getElem?_cons_zero]; rfl) (fun K hK => ?_) AllTill.nil))
                · skip
                  go_simp
                  refine hK.out _ _ ⟨trivial, fun _ => by with_reducible first | exact HCQ.out _ ((Touch.refl _ w6).drew.alloc _) | exact HCQ.out _ (((Touch.refl _ w6).drew.alloc _).alloc _) | exact HCQ.out _ (HT7.out.alloc _)⟩ (fun hS => ?_)
                  clear hK K
                  try simp only [Act.put, List.setIfInBounds_toArray, List.set_cons_zero, List.set_cons_succ]
                  refine till_ready (rs := [3, 6]) (by kernel_rfl) (by simp) (AllTill.cons (by simp only [List.getElem?_toArray, List.getElem?_cons_succ, List.getElem?_cons_zero]; rfl) (fun K hK => ?_) (AllTill.cons (by simp only [List.getElem?_toArray, List.getElem?_cons_succ, List.getElem?_cons_zero]; rfl) (fun K hK => ?_) AllTill.nil))
                  · skip
                    refine step_append_rd rfl (.tmp 81) (.tmp 83) 27 rfl W.heap.size 3 i0 _ 8 Try.underlying27 hi hz0 hz1' hz2 rfl (.slice AV vs.length cV) vs.length (nums vs) rfl ((HTa.out).row HRV.out (fun _ _ f => f)) _ (some ⟨_, 0, none⟩) 1 1 [.int .i64 n] rfl (Rd.of_list (l := [.int .i64 n]) HX1.out rfl) (nums_one [n]) (by unfold maxLen; omega) (by omega) (Nat.le_trans HL6.out.bel.size (HTa.out).size) ?_
                    intro v7 w7 hown7 hg7 hnil7 hat7
                    have hT7 : Touch (fun k => (Value.slice AV vs.length cV).ownBlock = some k) w6 w7 := ((HTa.out).mono (G := (fun k => (Value.slice AV vs.length cV).ownBlock = some k)) (fun _ _ f => f.elim)).trans (touch_grown hg7) (fun _ _ h => h)
                    have c7F := HCQ.out _ hT7
                    have HT7 := Lib.hid hT7
                    have HO7 := Lib.hid hown7
                    have HAT7 := Lib.hid (show v7.ownBlock = (Value.slice AV vs.length cV).ownBlock ∨ ∃ g, v7.ownBlock = some g ∧ w6.heap.size ≤ g from hat7.imp id (fun e => ⟨_, e, (HTa.out).size⟩))
                    clear hown7 hg7 hnil7 hat7 hT7
                    refine hK.out _ _ ⟨trivial, fun _ => c7F⟩ (fun hS => ?_)
                    clear hK K
                    try simp only [Act.put, List.setIfInBounds_toArray, List.set_cons_zero, List.set_cons_succ]
                    refine till_ready (rs := [6]) (by kernel_rfl) (by simp) (AllTill.cons (by simp only [List.getElem?_toArray, List.getElem?_cons_succ, List.getElem?_cons_zero]; rfl) (fun K hK => ?_) AllTill.nil)
                    go_simp
                    refine hK.out _ _ ⟨trivial, fun _ => by with_reducible first | exact HCQ.out _ ((Touch.refl _ w6).drew.alloc _) | exact HCQ.out _ (((Touch.refl _ w6).drew.alloc _).alloc _) | exact HCQ.out _ (HT7.out.alloc _)⟩ (fun hS => ?_)
                    clear hK K
                    try simp only [Act.put, List.setIfInBounds_toArray, List.set_cons_zero, List.set_cons_succ]
                    refine till_ready (rs := [7]) (by kernel_rfl) (by simp) (AllTill.cons (by simp only [List.getElem?_toArray, List.getElem?_cons_succ, List.getElem?_cons_zero]; rfl) (fun K hK => ?_) AllTill.nil)
                    have hrT := ((Touch.refl (fun _ => False) w7).alloc (.cells #[.int .i64 n] 3)).row (HT7.out.row HRT.out (fun k hk e => HS1.out.apart k hk e)) (fun _ _ f => f)
                    refine step_append_rd rfl (.tmp 85) (.tmp 87) 27 rfl W.heap.size 3 i0 _ 8 Try.underlying27 hi hz0 hz1' hz2 rfl (.slice AT ts.length cT) ts.length (nums ts) rfl hrT _ (some ⟨_, 0, none⟩) 1 1 [.int .i64 n] rfl (Rd.of_list (l := [.int .i64 n]) (Own.fresh w7 3 #[.int .i64 n]) rfl) (nums_one [n]) (by unfold maxLen; omega) (by omega) (by have := HL6.out.bel.size; have := HT7.out.size; (try simp); omega) ?_
                    intro v8 w8 hown8 hg8 hnil8 hat8
                    obtain ⟨A8, c8, hv8, _, _⟩ := row_slice hown8
                    subst hv8
                    have hT8 := touch_grown hg8
                    have hq7 := ((Touch.refl (fun _ => False) w7).alloc (.cells #[.int .i64 n] 3)).own (HT7.out.own HQ6.out (fun e => HS1.out.qT.2 e)) (fun f => f)
                    have hq8 := hT8.own hq7 (fun e => HS1.out.qT.1 e)
                    have c8F : _ = _ := hq8.at 0
                    have f8F := hq8.free 0
                    simp at c8F
                    have hq9 := hq8.put 0 (.slice A8 (ts.length + 1) c8)
                    have hT9 := touch_set w8 q 0 (.slice A8 (ts.length + 1) c8)
                    have hS8 := var_next HS1.out HL6.out HT6.out Ht6.out HV6.out.1 HV6.out.2 HO7.out HT7.out HAT7.out ((Touch.refl (fun _ => False) w7).alloc (.cells #[.int .i64 n] 3)) hown8 hT8 (hat8.imp id (fun e => ⟨_, e, by first | exact Nat.le_refl _ | (simp; done)⟩)) hT9 hq9
                    have HA8 := Lib.hid (show RelA acts W q b v7 (.int .i64 ((k + 1 : Nat) : Int)) (w8.setCell ⟨q, 0, none⟩ (.slice A8 (ts.length + 1) c8)) from ⟨k + 1, tag', s', _, _, ts ++ [n], vs ++ [n], _, rfl, hkl, by omega, by simp; omega, hS8⟩)
                    clear hrT hown8 hg8 hnil8 hat8 hT8 hq7 hq8 hq9 hT9 hS8
                    refine hK.out _ _ ⟨trivial, fun _ => c8F⟩ (fun hS => ?_)
                    clear hK K
                    try simp only [Act.put, List.setIfInBounds_toArray, List.set_cons_zero, List.set_cons_succ]
                    refine till_ready (rs := [8]) (by kernel_rfl) (by simp) (AllTill.cons (by simp only [List.getElem?_toArray, List.getElem?_cons_succ, List.getElem?_cons_zero]; rfl) (fun K hK => ?_) AllTill.nil)
                    go_simp
                    refine hK.out _ _ ⟨trivial, fun _ => c8F⟩ (fun hS => ?_)
                    clear hK K
                    try simp only [Act.put, List.setIfInBounds_toArray, List.set_cons_zero, List.set_cons_succ]
                    refine till_ready (rs := [9]) (by kernel_rfl) (by simp) (AllTill.cons (by simp only [List.getElem?_toArray, List.getElem?_cons_succ, List.getElem?_cons_zero]; rfl) (fun K hK => ?_) AllTill.nil)
                    go_simp
                    refine hK.out _ _ ⟨trivial, till_come (by kernel_rfl)⟩ (fun hS => ?_)
                    clear hK K
                    try simp only [Act.put, List.setIfInBounds_toArray, List.set_cons_zero, List.set_cons_succ]
                    refine till_done (by kernel_rfl) ?_ _
                    refine NoPanic.normal ?_
                    go_wp2
                    go_roundw
                    case rel => exact HA8.out
                    case measure => simp [intOf]; omega
                  · skip
                    go_simp
                    refine hK.out _ _ ⟨trivial, fun _ => by with_reducible first | exact HCQ.out _ ((Touch.refl _ w6).drew.alloc _) | exact HCQ.out _ (((Touch.refl _ w6).drew.alloc _).alloc _) | exact HCQ.out _ (HT7.out.alloc _)⟩ (fun hS => ?_)
                    clear hK K
                    try simp only [Act.put, List.setIfInBounds_toArray, List.set_cons_zero, List.set_cons_succ]
                    refine till_ready (rs := [3]) (by kernel_rfl) (by simp) (AllTill.cons (by simp only [List.getElem?_toArray, List.getElem?_cons_succ, List.getElem?_cons_zero]; rfl) (fun K hK => ?_) AllTill.nil)
                    refine step_append_rd rfl (.tmp 81) (.tmp 83) 27 rfl W.heap.size 3 i0 _ 8 Try.underlying27 hi hz0 hz1' hz2 rfl (.slice AV vs.length cV) vs.length (nums vs) rfl ((HTa.out.alloc (.cells #[.int .i64 n] 3)).row HRV.out (fun _ _ f => f)) _ (some ⟨_, 0, none⟩) 1 1 [.int .i64 n] rfl (Rd.of_list (l := [.int .i64 n]) HX2.out rfl) (nums_one [n]) (by unfold maxLen; omega) (by omega) (Nat.le_trans HL6.out.bel.size (HTa.out.alloc (.cells #[.int .i64 n] 3)).size) ?_
                    intro v7 w7 hown7 hg7 hnil7 hat7
                    have hT7 : Touch (fun k => (Value.slice AV vs.length cV).ownBlock = some k) w6 w7 := ((HTa.out.alloc (.cells #[.int .i64 n] 3)).mono (G := (fun k => (Value.slice AV vs.length cV).ownBlock = some k)) (fun _ _ f => f.elim)).trans (touch_grown hg7) (fun _ _ h => h)
                    have c7F := HCQ.out _ hT7
                    have HT7 := Lib.hid hT7
                    have HO7 := Lib.hid hown7
                    have HAT7 := Lib.hid (show v7.ownBlock = (Value.slice AV vs.length cV).ownBlock ∨ ∃ g, v7.ownBlock = some g ∧ w6.heap.size ≤ g from hat7.imp id (fun e => ⟨_, e, (HTa.out.alloc (.cells #[.int .i64 n] 3)).size⟩))
                    have HY7 := Lib.hid ((touch_grown hg7).own HX3.out (fun e => by have := (own_lt HRV.out _ e).2; omega))
                    clear hown7 hg7 hnil7 hat7 hT7
                    refine hK.out _ _ ⟨trivial, fun _ => c7F⟩ (fun hS => ?_)
                    clear hK K
                    try simp only [Act.put, List.setIfInBounds_toArray, List.set_cons_zero, List.set_cons_succ]
                    refine till_ready (rs := [7]) (by kernel_rfl) (by simp) (AllTill.cons (by simp only [List.getElem?_toArray, List.getElem?_cons_succ, List.getElem?_cons_zero]; rfl) (fun K hK => ?_) AllTill.nil)
                    have hrT := ((Touch.refl (fun _ => False) w7)).row (HT7.out.row HRT.out (fun k hk e => HS1.out.apart k hk e)) (fun _ _ f => f)
                    refine step_append_rd rfl (.tmp 85) (.tmp 87) 27 rfl W.heap.size 3 i0 _ 8 Try.underlying27 hi hz0 hz1' hz2 rfl (.slice AT ts.length cT) ts.length (nums ts) rfl hrT _ (some ⟨_, 0, none⟩) 1 1 [.int .i64 n] rfl (Rd.of_list (l := [.int .i64 n]) HY7.out rfl) (nums_one [n]) (by unfold maxLen; omega) (by omega) (by have := HL6.out.bel.size; have := HT7.out.size; (try simp); omega) ?_
                    intro v8 w8 hown8 hg8 hnil8 hat8
                    obtain ⟨A8, c8, hv8, _, _⟩ := row_slice hown8
                    subst hv8
                    have hT8 := touch_grown hg8
                    have hq7 := ((Touch.refl (fun _ => False) w7)).own (HT7.out.own HQ6.out (fun e => HS1.out.qT.2 e)) (fun f => f)
                    have hq8 := hT8.own hq7 (fun e => HS1.out.qT.1 e)
                    have c8F : _ = _ := hq8.at 0
                    have f8F := hq8.free 0
                    simp at c8F
                    have hq9 := hq8.put 0 (.slice A8 (ts.length + 1) c8)
                    have hT9 := touch_set w8 q 0 (.slice A8 (ts.length + 1) c8)
                    have hS8 := var_next HS1.out HL6.out HT6.out Ht6.out HV6.out.1 HV6.out.2 HO7.out HT7.out HAT7.out ((Touch.refl (fun _ => False) w7)) hown8 hT8 (hat8.imp id (fun e => ⟨_, e, by first | exact Nat.le_refl _ | (simp; done)⟩)) hT9 hq9
                    have HA8 := Lib.hid (show RelA acts W q b v7 (.int .i64 ((k + 1 : Nat) : Int)) (w8.setCell ⟨q, 0, none⟩ (.slice A8 (ts.length + 1) c8)) from ⟨k + 1, tag', s', _, _, ts ++ [n], vs ++ [n], _, rfl, hkl, by omega, by simp; omega, hS8⟩)
                    clear hrT hown8 hg8 hnil8 hat8 hT8 hq7 hq8 hq9 hT9 hS8
                    refine hK.out _ _ ⟨trivial, fun _ => c8F⟩ (fun hS => ?_)
                    clear hK K
                    try simp only [Act.put, List.setIfInBounds_toArray, List.set_cons_zero, List.set_cons_succ]
                    refine till_ready (rs := [8]) (by kernel_rfl) (by simp) (AllTill.cons (by simp only [List.getElem?_toArray, List.getElem?_cons_succ, List.getElem?_cons_zero]; rfl) (fun K hK => ?_) AllTill.nil)
                    go_simp
                    refine hK.out _ _ ⟨trivial, fun _ => c8F⟩ (fun hS => ?_)
                    clear hK K
                    try simp only [Act.put, List.setIfInBounds_toArray, List.set_cons_zero, List.set_cons_succ]
                    refine till_ready (rs := [9]) (by kernel_rfl) (by simp) (AllTill.cons (by simp only [List.getElem?_toArray, List.getElem?_cons_succ, List.getElem?_cons_zero]; rfl) (fun K hK => ?_) AllTill.nil)
                    go_simp
                    refine hK.out _ _ ⟨trivial, till_come (by kernel_rfl)⟩ (fun hS => ?_)
                    clear hK K
                    try simp only [Act.put, List.setIfInBounds_toArray, List.set_cons_zero, List.set_cons_succ]
                    refine till_done (by kernel_rfl) ?_ _
                    refine NoPanic.normal ?_
                    go_wp2
                    go_roundw
                    case rel => exact HA8.out
                    case measure => simp [intOf]; omega
                · skip
                  go_simp
                  refine hK.out _ _ ⟨trivial, fun _ => by with_reducible first | exact HCQ.out _ ((Touch.refl _ w6).drew.alloc _) | exact HCQ.out _ (((Touch.refl _ w6).drew.alloc _).alloc _) | exact HCQ.out _ (HT7.out.alloc _)⟩ (fun hS => ?_)
                  clear hK K
                  try simp only [Act.put, List.setIfInBounds_toArray, List.set_cons_zero, List.set_cons_succ]
                  refine till_ready (rs := [2]) (by kernel_rfl) (by simp) (AllTill.cons (by simp only [List.getElem?_toArray, List.getElem?_cons_succ, List.getElem?_cons_zero]; rfl) (fun K hK => ?_) AllTill.nil)
                  go_simp
                  refine hK.out _ _ ⟨trivial, fun _ => by with_reducible first | exact HCQ.out _ ((Touch.refl _ w6).drew.alloc _) | exact HCQ.out _ (((Touch.refl _ w6).drew.alloc _).alloc _) | exact HCQ.out _ (HT7.out.alloc _)⟩ (fun hS => ?_)
                  clear hK K
                  try simp only [Act.put, List.setIfInBounds_toArray, List.set_cons_zero, List.set_cons_succ]
                  refine till_ready (rs := [3]) (by kernel_rfl) (by simp) (AllTill.cons (by simp only [List.getElem?_toArray, List.getElem?_cons_succ, List.getElem?_cons_zero]; rfl) (fun K hK => ?_) AllTill.nil)
                  refine step_append_rd rfl (.tmp 81) (.tmp 83) 27 rfl W.heap.size 3 i0 _ 8 Try.underlying27 hi hz0 hz1' hz2 rfl (.slice AV vs.length cV) vs.length (nums vs) rfl ((HTa.out.alloc (.cells #[.int .i64 n] 3)).row HRV.out (fun _ _ f => f)) _ (some ⟨_, 0, none⟩) 1 1 [.int .i64 n] rfl (Rd.of_list (l := [.int .i64 n]) HX3.out rfl) (nums_one [n]) (by unfold maxLen; omega) (by omega) (Nat.le_trans HL6.out.bel.size (HTa.out.alloc (.cells #[.int .i64 n] 3)).size) ?_
                  intro v7 w7 hown7 hg7 hnil7 hat7
                  have hT7 : Touch (fun k => (Value.slice AV vs.length cV).ownBlock = some k) w6 w7 := ((HTa.out.alloc (.cells #[.int .i64 n] 3)).mono (G := (fun k => (Value.slice AV vs.length cV).ownBlock = some k)) (fun _ _ f => f.elim)).trans (touch_grown hg7) (fun _ _ h => h)
                  have c7F := HCQ.out _ hT7
                  have HT7 := Lib.hid hT7
                  have HO7 := Lib.hid hown7
                  have HAT7 := Lib.hid (show v7.ownBlock = (Value.slice AV vs.length cV).ownBlock ∨ ∃ g, v7.ownBlock = some g ∧ w6.heap.size ≤ g from hat7.imp id (fun e => ⟨_, e, (HTa.out.alloc (.cells #[.int .i64 n] 3)).size⟩))
                  have HY7 := Lib.hid ((touch_grown hg7).own HX2.out (fun e => by have := (own_lt HRV.out _ e).2; omega))
                  clear hown7 hg7 hnil7 hat7 hT7
                  refine hK.out _ _ ⟨trivial, fun _ => c7F⟩ (fun hS => ?_)
                  clear hK K
                  try simp only [Act.put, List.setIfInBounds_toArray, List.set_cons_zero, List.set_cons_succ]
                  refine till_ready (rs := [7]) (by kernel_rfl) (by simp) (AllTill.cons (by simp only [List.getElem?_toArray, List.getElem?_cons_succ, List.getElem?_cons_zero]; rfl) (fun K hK => ?_) AllTill.nil)
                  have hrT := ((Touch.refl (fun _ => False) w7)).row (HT7.out.row HRT.out (fun k hk e => HS1.out.apart k hk e)) (fun _ _ f => f)
                  refine step_append_rd rfl (.tmp 85) (.tmp 87) 27 rfl W.heap.size 3 i0 _ 8 Try.underlying27 hi hz0 hz1' hz2 rfl (.slice AT ts.length cT) ts.length (nums ts) rfl hrT _ (some ⟨_, 0, none⟩) 1 1 [.int .i64 n] rfl (Rd.of_list (l := [.int .i64 n]) HY7.out rfl) (nums_one [n]) (by unfold maxLen; omega) (by omega) (by have := HL6.out.bel.size; have := HT7.out.size; (try simp); omega) ?_
                  intro v8 w8 hown8 hg8 hnil8 hat8
                  obtain ⟨A8, c8, hv8, _, _⟩ := row_slice hown8
                  subst hv8
                  have hT8 := touch_grown hg8
                  have hq7 := ((Touch.refl (fun _ => False) w7)).own (HT7.out.own HQ6.out (fun e => HS1.out.qT.2 e)) (fun f => f)
                  have hq8 := hT8.own hq7 (fun e => HS1.out.qT.1 e)
                  have c8F : _ = _ := hq8.at 0
                  have f8F := hq8.free 0
                  simp at c8F
                  have hq9 := hq8.put 0 (.slice A8 (ts.length + 1) c8)
                  have hT9 := touch_set w8 q 0 (.slice A8 (ts.length + 1) c8)
                  have hS8 := var_next HS1.out HL6.out HT6.out Ht6.out HV6.out.1 HV6.out.2 HO7.out HT7.out HAT7.out ((Touch.refl (fun _ => False) w7)) hown8 hT8 (hat8.imp id (fun e => ⟨_, e, by first | exact Nat.le_refl _ | (simp; done)⟩)) hT9 hq9
                  have HA8 := Lib.hid (show RelA acts W q b v7 (.int .i64 ((k + 1 : Nat) : Int)) (w8.setCell ⟨q, 0, none⟩ (.slice A8 (ts.length + 1) c8)) from ⟨k + 1, tag', s', _, _, ts ++ [n], vs ++ [n], _, rfl, hkl, by omega, by simp; omega, hS8⟩)
                  clear hrT hown8 hg8 hnil8 hat8 hT8 hq7 hq8 hq9 hT9 hS8
                  refine hK.out _ _ ⟨trivial, fun _ => c8F⟩ (fun hS => ?_)
                  clear hK K
                  try simp only [Act.put, List.setIfInBounds_toArray, List.set_cons_zero, List.set_cons_succ]
                  refine till_ready (rs := [8]) (by kernel_rfl) (by simp) (AllTill.cons (by simp only [List.getElem?_toArray, List.getElem?_cons_succ, List.getElem?_cons_zero]; rfl) (fun K hK => ?_) AllTill.nil)
                  go_simp
                  refine hK.out _ _ ⟨trivial, fun _ => c8F⟩ (fun hS => ?_)
                  clear hK K
                  try simp only [Act.put, List.setIfInBounds_toArray, List.set_cons_zero, List.set_cons_succ]
                  refine till_ready (rs := [9]) (by kernel_rfl) (by simp) (AllTill.cons (by simp only [List.getElem?_toArray, List.getElem?_cons_succ, List.getElem?_cons_zero]; rfl) (fun K hK => ?_) AllTill.nil)
                  go_simp
                  refine hK.out _ _ ⟨trivial, till_come (by kernel_rfl)⟩ (fun hS => ?_)
                  clear hK K
                  try simp only [Act.put, List.setIfInBounds_toArray, List.set_cons_zero, List.set_cons_succ]
                  refine till_done (by kernel_rfl) ?_ _
                  refine NoPanic.normal ?_
                  go_wp2
                  go_roundw
                  case rel => exact HA8.out
                  case measure => simp [intOf]; omega
            · by_cases hand : kd = 1
              · have q0 : ((kd : Int) == 0) = false := beq_eq_false_iff_ne.2 (fun e => hvar (.inl e))
                have q3 : ((kd : Int) == 3) = false := beq_eq_false_iff_ne.2 (fun e => hvar (.inr e))
                have q1 : ((kd : Int) == 1) = true := by rw [hand]; rfl
                clear hvar hand
                obtain ⟨AT, cT, hvT, hcT, hmT⟩ := row_slice HS1.out.rT
                subst hvT
                have eg : ∀ args w, (callFunc 17 args).run Try.prog w = .ok (.enter 17 args) w := enters_of Try.func17 (by kernel_rfl) rfl
                have KP := Lib.hid (fun (z : Int) (hz : (Lit.int .i64 z).wf = true) (w' : World) (hb : Below w1.heap.size w1 w') => pick_any ts z hz (HS1.out.more hb).full (by omega) w' q W.heap.size cT AT ((HS1.out.more hb).cell.at 0) (HS1.out.more hb).rT)
                have HG := Lib.hid (fun (w' : World) (h' : Touch (fun k => tag k ≠ 0 ∨ (Value.slice AT ts.length cT).ownBlock = some k ∨ k = q) w1 w') => (show w'.cell? ⟨p8, 1, none⟩ = some (.int .i64 ax) ∧ w'.cell? ⟨p8, 2, none⟩ = some (.int .i64 ay) from by
                  have := h'.own HO1.out (fun e => by
                    rcases e with e | e | e
                    · exact e HP8F.out.1
                    · exact HP8F.out.2.2 p8 e rfl
                    · exact HP8F.out.2.1 e.symm)
                  exact ⟨this.at 1, this.at 2⟩))
                have hcq := HS1.out.cell.at 0
                simp at hcq
                clear hwW hw1
                go_wp2
                rw [← HW1.out, ← HP8.out]
                clear k0 k1 k2 k3 k4
                clear hp8 hs1
                refine wp_region_noPanic ?_
                refine region_till (F := fun w' => w'.cell? ⟨q, 0, none⟩ = some (.slice AT ts.length cT)) (G := fun w' => w'.cell? ⟨p8, 1, none⟩ = some (.int .i64 ax) ∧ w'.cell? ⟨p8, 2, none⟩ = some (.int .i64 ay)) (st := 13) (by kernel_rfl) ?_
                have hS : Till (fun w' : World => w'.cell? ⟨q, 0, none⟩ = some (.slice AT ts.length cT)) (fun w' => w'.cell? ⟨p8, 1, none⟩ = some (.int .i64 ax) ∧ w'.cell? ⟨p8, 2, none⟩ = some (.int .i64 ay)) 13 (Array.replicate 14 false) w1.drew := ⟨HG.out _ (Touch.refl _ w1).drew, fun _ => hcq⟩
                refine takeF (i := 0) (v := ?_) (by simp only [List.getElem?_toArray, List.getElem?_cons_succ, List.getElem?_cons_zero]; rfl) rfl (by simp only [List.getElem?_toArray, List.getElem?_cons_succ, List.getElem?_cons_zero]; rfl) (by kernel_rfl) (by kernel_rfl) (by kernel_rfl) (by kernel_rfl) (by kernel_rfl) (fun _ _ _ h => h) (Or.inl ⟨by rfl, ?_⟩) hS (fun hS => ?_)
                rotate_left
                · (intro w' hSw; (try dsimp only at hSw); (try go_split_ands); go_simp; try with_reducible rfl)
                try simp only [Act.put, List.setIfInBounds_toArray, List.set_cons_zero, List.set_cons_succ]
                refine takeG (i := 1) (v := ?_) (by simp only [List.getElem?_toArray, List.getElem?_cons_succ, List.getElem?_cons_zero]; rfl) rfl (by kernel_rfl) (by kernel_rfl) (by kernel_rfl) (fun _ _ _ h => h) (Or.inl ⟨by rfl, ?_⟩) hS (fun hS => ?_)
                rotate_left
                · (intro w' hSw; (try dsimp only at hSw); (try go_split_ands); go_simp; try with_reducible rfl)
                try simp only [Act.put, List.setIfInBounds_toArray, List.set_cons_zero, List.set_cons_succ]
                refine takeG (i := 2) (v := ?_) (by simp only [List.getElem?_toArray, List.getElem?_cons_succ, List.getElem?_cons_zero]; rfl) rfl (by kernel_rfl) (by kernel_rfl) (by kernel_rfl) (fun _ _ _ h => h) (Or.inl ⟨by rfl, ?_⟩) hS (fun hS => ?_)
                rotate_left
                · (intro w' hSw; (try dsimp only at hSw); (try go_split_ands); go_simp; try with_reducible rfl)
                try simp only [Act.put, List.setIfInBounds_toArray, List.set_cons_zero, List.set_cons_succ]
                refine takeG (i := 3) (v := ?_) (by simp only [List.getElem?_toArray, List.getElem?_cons_succ, List.getElem?_cons_zero]; rfl) rfl (by kernel_rfl) (by kernel_rfl) (by kernel_rfl) (fun _ _ _ h => h) (Or.inl ⟨by rfl, ?_⟩) hS (fun hS => ?_)
                rotate_left
                · (intro w' hSw; (try dsimp only at hSw); (try go_split_ands); go_simp; try with_reducible rfl)
                try simp only [Act.put, List.setIfInBounds_toArray, List.set_cons_zero, List.set_cons_succ]
                refine takeG (i := 4) (v := ?_) (by simp only [List.getElem?_toArray, List.getElem?_cons_succ, List.getElem?_cons_zero]; rfl) rfl (by kernel_rfl) (by kernel_rfl) (by kernel_rfl) (fun _ _ _ h => h) (Or.inl ⟨by rfl, ?_⟩) hS (fun hS => ?_)
                rotate_left
                · (intro w' hSw; (try dsimp only at hSw); (try go_split_ands); go_simp; try with_reducible rfl)
                try simp only [Act.put, List.setIfInBounds_toArray, List.set_cons_zero, List.set_cons_succ]
                refine takeG (i := 6) (v := ?_) (by simp only [List.getElem?_toArray, List.getElem?_cons_succ, List.getElem?_cons_zero]; rfl) rfl (by kernel_rfl) (by kernel_rfl) (by kernel_rfl) (fun _ _ _ h => h) (Or.inl ⟨by rfl, ?_⟩) hS (fun hS => ?_)
                rotate_left
                · (intro w' hSw; (try dsimp only at hSw); (try go_split_ands); go_simp; try with_reducible rfl)
                try simp only [Act.put, List.setIfInBounds_toArray, List.set_cons_zero, List.set_cons_succ]
                refine takeG (i := 7) (v := ?_) (by simp only [List.getElem?_toArray, List.getElem?_cons_succ, List.getElem?_cons_zero]; rfl) rfl (by kernel_rfl) (by kernel_rfl) (by kernel_rfl) (fun _ _ _ h => h) (Or.inl ⟨by rfl, ?_⟩) hS (fun hS => ?_)
                rotate_left
                · (intro w' hSw; (try dsimp only at hSw); (try go_split_ands); go_simp; try with_reducible rfl)
                try simp only [Act.put, List.setIfInBounds_toArray, List.set_cons_zero, List.set_cons_succ]
                refine takeG (i := 8) (v := ?_) (by simp only [List.getElem?_toArray, List.getElem?_cons_succ, List.getElem?_cons_zero]; rfl) rfl (by kernel_rfl) (by kernel_rfl) (by kernel_rfl) (fun _ _ _ h => h) (Or.inl ⟨by rfl, ?_⟩) hS (fun hS => ?_)
                rotate_left
                · (intro w' hSw; (try dsimp only at hSw); (try go_split_ands); go_simp; try with_reducible rfl)
                try simp only [Act.put, List.setIfInBounds_toArray, List.set_cons_zero, List.set_cons_succ]
                refine till_ready (rs := [5]) (by kernel_rfl) (by simp) (AllTill.cons (by simp only [List.getElem?_toArray, List.getElem?_cons_succ, List.getElem?_cons_zero]; rfl) (fun K hK => ?_) AllTill.nil)
                go_simp
                first | (go_at_fn 17) | (go_at_call 17)
                refine (KP.out ax hwx _ ((Below.refl w1.heap.size w1).drew)).mono ?_
                rintro e w5 ⟨rfl, m5, hm5⟩
                have HB5 := Lib.hid (show Below w1.heap.size w1 w5 from by rw [hm5]; exact below_drewN ((Below.refl w1.heap.size w1).drew) m5)
                have c5F : w5.cell? ⟨q, 0, none⟩ = some (.slice AT ts.length cT) := by have := (HS1.out.more HB5.out).cell.at 0; simpa using this
                clear hm5
                try go_wp2_with fail
                refine hK.out _ _ ⟨HG.out _ (Touch.of_new HB5.out), fun _ => c5F⟩ (fun hS => ?_)
                clear hK K
                try simp only [Act.put, List.setIfInBounds_toArray, List.set_cons_zero, List.set_cons_succ]
                refine till_ready (rs := [9]) (by kernel_rfl) (by simp) (AllTill.cons (by simp only [List.getElem?_toArray, List.getElem?_cons_succ, List.getElem?_cons_zero]; rfl) (fun K hK => ?_) AllTill.nil)
                go_simp
                first | (go_at_fn 17) | (go_at_call 17)
                refine (KP.out ay hwy _ (HB5.out)).mono ?_
                rintro e w9 ⟨rfl, m9, hm9⟩
                have HB9 := Lib.hid (show Below w1.heap.size w1 w9 from by rw [hm9]; exact below_drewN (HB5.out) m9)
                have c9F : w9.cell? ⟨q, 0, none⟩ = some (.slice AT ts.length cT) := by have := (HS1.out.more HB9.out).cell.at 0; simpa using this
                clear hm9
                try go_wp2_with fail
                refine hK.out _ _ ⟨HG.out _ (Touch.of_new HB9.out), fun _ => c9F⟩ (fun hS => ?_)
                clear hK K
                try simp only [Act.put, List.setIfInBounds_toArray, List.set_cons_zero, List.set_cons_succ]
                refine till_ready (rs := [10]) (by kernel_rfl) (by simp) (AllTill.cons (by simp only [List.getElem?_toArray, List.getElem?_cons_succ, List.getElem?_cons_zero]; rfl) (fun K hK => ?_) AllTill.nil)
                go_simp
                go_at_call 12
                have hpx := HS1.out.ins _ (pickT_mem HS1.out.full ax)
                have hpy := HS1.out.ins _ (pickT_mem HS1.out.full ay)
                have HS3 := Lib.hid (HS1.out.more HB9.out)
                refine (HS3.out.lb.and (by omega) _ _ (wf_nat (by omega)) (wf_nat (by omega))).mono ?_
                rintro e w6 ⟨r, rfl, s', nd', n', tag', hL6, hT6, ht6, hJ6⟩
                clear hpx hpy
                have hq6 := hT6.own HS3.out.cell (fun e => e HS3.out.tq)
                have hr6 := hT6.row HS3.out.rT (fun k hk e => e (HS3.out.tT k hk))
                have HL6 := Lib.hid hL6
                have HT6 := Lib.hid hT6
                have Ht6 := Lib.hid ht6
                have HJ6 := Lib.hid hJ6
                have HQ6 := Lib.hid hq6
                have HR6 := Lib.hid hr6
                have c6F : _ = _ := hq6.at 0
                simp at c6F
                have HC6 := Lib.hid (fun (w' : World) (h' : Touch (fun _ => False) w6 w') => show w'.cell? ⟨q, 0, none⟩ = some (.slice AT ts.length cT) from (h'.own HQ6.out (fun f => f)).at 0)
                have HG6 := Lib.hid ((Touch.of_new (F := (fun k => tag k ≠ 0 ∨ (Value.slice AT ts.length cT).ownBlock = some k ∨ k = q)) HB9.out).trans (hT6.mono (G := (fun k => tag k ≠ 0 ∨ (Value.slice AT ts.length cT).ownBlock = some k ∨ k = q)) (fun _ _ e => .inl e)) (fun _ _ h => h))
                clear hL6 hT6 ht6 hJ6 hq6 hr6
                try go_wp2_with fail
                refine hK.out _ _ ⟨HG.out _ HG6.out, fun _ => c6F⟩ (fun hS => ?_)
                clear hK K
                try simp only [Act.put, List.setIfInBounds_toArray, List.set_cons_zero, List.set_cons_succ]
                refine till_ready (rs := [11]) (by kernel_rfl) (by simp) (AllTill.cons (by simp only [List.getElem?_toArray, List.getElem?_cons_succ, List.getElem?_cons_zero]; rfl) (fun K hK => ?_) AllTill.nil)
                go_simp
                refine hK.out _ _ ⟨HG.out _ (HG6.out.alloc _), fun _ => HC6.out _ ((Touch.refl _ _).alloc _)⟩ (fun hS => ?_)
                clear hK K
                try simp only [Act.put, List.setIfInBounds_toArray, List.set_cons_zero, List.set_cons_succ]
                refine till_ready (rs := [12]) (by kernel_rfl) (by simp) (AllTill.cons (by simp only [List.getElem?_toArray, List.getElem?_cons_succ, List.getElem?_cons_zero]; rfl) (fun K hK => ?_) AllTill.nil)
                refine step_append_rd rfl (.tmp 91) (.tmp 102) 27 rfl W.heap.size 3 i0 _ 8 Try.underlying27 hi hz0 hz1' hz2 rfl (.slice AT ts.length cT) ts.length (nums ts) rfl (HR6.out.alloc _) _ (some ⟨_, 0, none⟩) 1 1 [.int .i64 r] rfl (Rd.of_list (l := [.int .i64 r]) (Own.fresh w6 _ _) rfl) (nums_one [r]) (by unfold maxLen; omega) (by omega) (by have := HL6.out.bel.size; simp; omega) ?_
                intro v7 w7 hown7 hg7 hnil7 hat7
                obtain ⟨A7, c7, hv7, _, _⟩ := row_slice hown7
                subst hv7
                have hT7 : Touch (fun k => (Value.slice AT ts.length cT).ownBlock = some k) w6 w7 := ((Touch.refl (fun k => (Value.slice AT ts.length cT).ownBlock = some k) w6).alloc _).trans (touch_grown hg7) (fun _ _ h => h)
                have hq7 := hT7.own HQ6.out (fun e => HS3.out.qT.1 e)
                have c7F : _ = _ := hq7.at 0
                have f7F := hq7.free 0
                simp at c7F
                have hq8 := hq7.put 0 (.slice A7 (ts.length + 1) c7)
                have hT8 := touch_set w7 q 0 (.slice A7 (ts.length + 1) c7)
                have hS8 := thing_next HS3.out HL6.out HT6.out Ht6.out HJ6.out hown7 hT7 hT8 hq8 (hat7.imp id (fun e => ⟨_, e, by simp⟩))
                have HA8 := Lib.hid (show RelA acts W q b u7 (.int .i64 ((k + 1 : Nat) : Int)) (w7.setCell ⟨q, 0, none⟩ (.slice A7 (ts.length + 1) c7)) from ⟨k + 1, tag', s', nd', n', ts ++ [r], vs, _, rfl, hkl, by have := HJ6.out.le; omega, by simp; omega, hS8⟩)
                have HG7 := Lib.hid (HG6.out.trans (hT7.mono (G := (fun k => tag k ≠ 0 ∨ (Value.slice AT ts.length cT).ownBlock = some k ∨ k = q)) (fun _ _ e => .inr (.inl e))) (fun _ _ h => h))
                have HG8 := Lib.hid (HG7.out.trans (hT8.mono (G := (fun k => tag k ≠ 0 ∨ (Value.slice AT ts.length cT).ownBlock = some k ∨ k = q)) (fun _ _ e => .inr (.inr e))) (fun _ _ h => h))
                clear hown7 hg7 hnil7 hat7 hT7 hq7 hq8 hT8 hS8
                refine hK.out _ _ ⟨HG.out _ HG7.out, fun _ => c7F⟩ (fun hS => ?_)
                clear hK K
                try simp only [Act.put, List.setIfInBounds_toArray, List.set_cons_zero, List.set_cons_succ]
                refine till_ready (rs := [13]) (by kernel_rfl) (by simp) (AllTill.cons (by simp only [List.getElem?_toArray, List.getElem?_cons_succ, List.getElem?_cons_zero]; rfl) (fun K hK => ?_) AllTill.nil)
                go_simp
                refine hK.out _ _ ⟨HG.out _ HG8.out, till_come (by kernel_rfl)⟩ (fun hS => ?_)
                clear hK K
                try simp only [Act.put, List.setIfInBounds_toArray, List.set_cons_zero, List.set_cons_succ]
                refine till_done (by kernel_rfl) ?_ _
                refine NoPanic.normal ?_
                go_wp2
                go_roundw
                case rel => exact HA8.out
                case measure => simp [intOf]; omega
              · have q0 : ((kd : Int) == 0) = false := beq_eq_false_iff_ne.2 (fun e => hvar (.inl e))
                have q3 : ((kd : Int) == 3) = false := beq_eq_false_iff_ne.2 (fun e => hvar (.inr e))
                have q1 : ((kd : Int) == 1) = false := beq_eq_false_iff_ne.2 hand
                clear hvar hand
                obtain ⟨AT, cT, hvT, hcT, hmT⟩ := row_slice HS1.out.rT
                subst hvT
                have HF0 := Lib.hid (show RelF ts ll w1 (.slice (some ⟨w1.heap.size, 0, none⟩) 0 0) (.int .i64 0) (w1.alloc (.cells #[] 3)) from
                  ⟨0, rfl, Nat.zero_le _, World.ownsRow_lit (base := w1.heap.size) (e := 3) (size := 1) w1 #[] 0 (Nat.le_refl _) (by unfold maxLen; omega) rfl, (Below.refl w1.heap.size w1).alloc (Nat.le_refl _) _⟩)
                have cL := (((Below.refl w1.heap.size w1).alloc (Nat.le_refl _) (.cells #[] 3)).cell (p := ⟨p8, 3, none⟩) (by show p8 < w1.heap.size; omega)).trans (HO1.out.at 3)
                simp at cL
                rw [hw1, show (wr.alloc (.cells #[.int .i64 kd, .int .i64 ax, .int .i64 ay, .slice LA ln lc, .bool ys] 33)).heap.size = wr.heap.size + 1 by simp] at HF0
                rw [hw1] at cL
                clear hwW hw1
                have eg : ∀ args w, (callFunc 17 args).run Try.prog w = .ok (.enter 17 args) w := enters_of Try.func17 (by kernel_rfl) rfl
                rw [hp8] at cL
                go_wp2
                rw [← HW1.out, ← HP8.out] at *
                have e8 : p8 + 1 = w1.heap.size := by rw [hs1, ← hp8]
                rw [e8]
                clear k0 k1 k2 k3 k4
                clear hp8 HP8 HW1 HB1' hs1
                go_loopw [12, 59] (fun v12 v59 wr2 => RelF ts ll w1 v12 v59 wr2) (fun _ v59 _ => ln - (intOf v59).toNat)
                case atStart =>
                  have := HF0.out
                  rw [e8] at this
                  exact this
                case round =>
                  obtain ⟨j, rfl, hj, hro, hbl⟩ := hrel
                  have hS2 := HS1.out.more hbl
                  by_cases hjl : j < ll.length
                  · have hI2 : (j : Int) < ln := by omega
                    obtain ⟨aL, rfl, haLb, haLc⟩ := HRD.out.2 (by omega)
                    obtain ⟨z, hz⟩ : ∃ z, z = ll[j] := ⟨_, rfl⟩
                    have hcz := (hbl.cell (p := aL.add j) (by rw [add_block]; have := hwW2.out.size; omega)).trans (haLc j (.int .i64 z) (by rw [List.getElem?_map, List.getElem?_eq_getElem hjl, hz]; rfl))
                    have htk : ll.take (j + 1) = ll.take j ++ [z] := by rw [List.take_succ_eq_append_getElem hjl, hz]
                    have hzw := HWL.out z (by rw [hz]; exact List.getElem_mem hjl)
                    have KP := Lib.hid (pick_any ts z hzw hS2.full (by omega) wr q W.heap.size cT AT (hS2.cell.at 0) hS2.rT)
                    obtain ⟨A12, c12, hv12, hc12, hm12⟩ := row_slice hro
                    subst hv12
                    have HTK := Lib.hid htk
                    have HRO := Lib.hid hro
                    have HBL := Lib.hid hbl
                    have hz1 : w1.heap.size ≤ wr.heap.size := hbl.size
                    clear hS2 hz htk hro hbl haLc
                    go_wp2_with (first
                      | (go_at_fn 17
                         go_must (
                           refine KP.out.mono ?_
                           rintro e w5 ⟨rfl, m, rfl⟩
                           have hro5 : (wr.drewN m).ownsRow w1.heap.size 3 1 (.slice A12 j c12) j (nums ((ll.take j).map (pickT ts))) := HRO.out
                           have hz5 : w1.heap.size ≤ ((wr.drewN m).alloc (.cells #[.int .i64 (pickT ts z)] 3)).heap.size := by simp; omega))
                      | (at_builtin
                         go_must (
                           refine wpList_append_rd _ rfl (.tmp 63) (.tmp 67) _ rfl w1.heap.size 3 i0 _ 8 Try.underlying27 hi hz0 hz1' hz2 rfl (.slice A12 j c12) j (nums ((ll.take j).map (pickT ts))) rfl (hro5.alloc _) _ (some ⟨_, 0, none⟩) 1 1 [.int .i64 (pickT ts z)] rfl (Rd.of_list (l := [.int .i64 (pickT ts z)]) (Own.fresh _ _ _) rfl) (nums_one [pickT ts z]) (by unfold maxLen; omega) (by omega) hz5 ?_
                           intro v6 w6 hown6 hg6 hnil6 hat6
                           have HB6 := Lib.hid (show RelF ts ll w1 v6 (.int .i64 ((j + 1 : Nat) : Int)) w6 from
                             ⟨j + 1, rfl, hjl, by rw [HTK.out, List.map_append, nums_app]; exact hown6, ((below_drewN HBL.out m).alloc (by simpa using hz1) _).grown hg6 hz5 (fun g hg => (own_lt HRO.out g hg).1)⟩)
                           clear hown6 hg6 hnil6 hat6)))
                    go_roundw
                    case rel => exact HB6.out
                    case measure => simp [intOf]; omega
                  · have hI2 : ¬ (j : Int) < ln := by omega
                    have hje : j = ll.length := by omega
                    subst hje
                    rw [List.take_length, hln] at hro
                    obtain ⟨A12, c12, hv12, hc12, hm12⟩ := row_slice hro
                    subst hv12
                    have hS3 := hS2.more (Below.refl wr.heap.size wr).drew
                    have hzi : ((ll.map (pickT ts)).map fun (v : Nat) => (v : Int)).length = ll.length := by simp
                    have KO := Lib.hid (hS3.lb.or (by omega) A12 ln c12 ((ll.map (pickT ts)).map fun (v : Nat) => (v : Int)) wr.heap.size (Nat.le_refl _) (by
                      rw [← nums_ints]
                      exact Rd.of_owned (w := wr.drew) (World.ownsRow.drew hro)) (by omega) (by
                      intro z hz
                      obtain ⟨v, hv, rfl⟩ := List.mem_map.1 hz
                      obtain ⟨x, _, rfl⟩ := List.mem_map.1 hv
                      have := hS3.ins _ (pickT_mem hS3.full x)
                      exact wf_nat (by omega)))
                    have hcq := hS3.cell.at 0
                    simp at hcq
                    have HS3 := Lib.hid hS3
                    clear hro hbl hS2 hS3
                    go_wp2
                    refine wp_region_noPanic ?_
                    refine region_till (F := fun w' => w'.cell? ⟨q, 0, none⟩ = some (.slice AT ts.length cT)) (G := fun _ => True) (st := 6) (by kernel_rfl) ?_
                    have hS : Till (fun w' : World => w'.cell? ⟨q, 0, none⟩ = some (.slice AT ts.length cT)) (fun _ => True) 6 (Array.replicate 7 false) wr.drew := ⟨trivial, fun _ => hcq⟩
                    refine takeF (i := 0) (v := ?_) (by simp only [List.getElem?_toArray, List.getElem?_cons_succ, List.getElem?_cons_zero]; rfl) rfl (by simp only [List.getElem?_toArray, List.getElem?_cons_succ, List.getElem?_cons_zero]; rfl) (by kernel_rfl) (by kernel_rfl) (by kernel_rfl) (by kernel_rfl) (by kernel_rfl) (fun _ _ _ h => h) (Or.inl ⟨by rfl, ?_⟩) hS (fun hS => ?_)
                    rotate_left
                    · (intro w' hSw; (try dsimp only at hSw); (try go_split_ands); go_simp; try with_reducible rfl)
                    try simp only [Act.put, List.setIfInBounds_toArray, List.set_cons_zero, List.set_cons_succ]
                    refine takeG (i := 1) (v := ?_) (by simp only [List.getElem?_toArray, List.getElem?_cons_succ, List.getElem?_cons_zero]; rfl) rfl (by kernel_rfl) (by kernel_rfl) (by kernel_rfl) (fun _ _ _ h => h) (Or.inl ⟨by rfl, ?_⟩) hS (fun hS => ?_)
                    rotate_left
                    · (intro w' hSw; (try dsimp only at hSw); (try go_split_ands); go_simp; try with_reducible rfl)
                    try simp only [Act.put, List.setIfInBounds_toArray, List.set_cons_zero, List.set_cons_succ]
                    refine takeG (i := 2) (v := ?_) (by simp only [List.getElem?_toArray, List.getElem?_cons_succ, List.getElem?_cons_zero]; rfl) rfl (by kernel_rfl) (by kernel_rfl) (by kernel_rfl) (fun _ _ _ h => h) (Or.inl ⟨by rfl, ?_⟩) hS (fun hS => ?_)
                    rotate_left
                    · (intro w' hSw; (try dsimp only at hSw); (try go_split_ands); go_simp; try with_reducible rfl)
                    try simp only [Act.put, List.setIfInBounds_toArray, List.set_cons_zero, List.set_cons_succ]
                    refine till_ready (rs := [3]) (by kernel_rfl) (by simp) (AllTill.cons (by simp only [List.getElem?_toArray, List.getElem?_cons_succ, List.getElem?_cons_zero]; rfl) (fun K hK => ?_) AllTill.nil)
                    go_simp
                    go_at_call 13
                    refine KO.out.mono ?_
                    rintro e w6 ⟨r, rfl, s', nd', n', tag', hL6, hT6, ht6, hJ6⟩
                    have hq6 := hT6.own HS3.out.cell (fun e => e HS3.out.tq)
                    have hr6 := hT6.row HS3.out.rT (fun k hk e => e (HS3.out.tT k hk))
                    have HL6 := Lib.hid hL6
                    have HT6 := Lib.hid hT6
                    have Ht6 := Lib.hid ht6
                    have HJ6 := Lib.hid hJ6
                    have HQ6 := Lib.hid hq6
                    have HR6 := Lib.hid hr6
                    have c6F : _ = _ := hq6.at 0
                    simp at c6F
                    have HC6 := Lib.hid (fun (w' : World) (h' : Touch (fun _ => False) w6 w') => show w'.cell? ⟨q, 0, none⟩ = some (.slice AT ts.length cT) from (h'.own HQ6.out (fun f => f)).at 0)
                    clear hL6 hT6 ht6 hJ6 hq6 hr6
                    try go_wp2_with fail
                    refine hK.out _ _ ⟨trivial, fun _ => c6F⟩ (fun hS => ?_)
                    clear hK K
                    try simp only [Act.put, List.setIfInBounds_toArray, List.set_cons_zero, List.set_cons_succ]
                    refine till_ready (rs := [4]) (by kernel_rfl) (by simp) (AllTill.cons (by simp only [List.getElem?_toArray, List.getElem?_cons_succ, List.getElem?_cons_zero]; rfl) (fun K hK => ?_) AllTill.nil)
                    go_simp
                    refine hK.out _ _ ⟨trivial, fun _ => HC6.out _ ((Touch.refl _ _).alloc _)⟩ (fun hS => ?_)
                    clear hK K
                    try simp only [Act.put, List.setIfInBounds_toArray, List.set_cons_zero, List.set_cons_succ]
                    refine till_ready (rs := [5]) (by kernel_rfl) (by simp) (AllTill.cons (by simp only [List.getElem?_toArray, List.getElem?_cons_succ, List.getElem?_cons_zero]; rfl) (fun K hK => ?_) AllTill.nil)
                    refine step_append_rd rfl (.tmp 70) (.tmp 74) 27 rfl W.heap.size 3 i0 _ 8 Try.underlying27 hi hz0 hz1' hz2 rfl (.slice AT ts.length cT) ts.length (nums ts) rfl (HR6.out.alloc _) _ (some ⟨_, 0, none⟩) 1 1 [.int .i64 r] rfl (Rd.of_list (l := [.int .i64 r]) (Own.fresh w6 _ _) rfl) (nums_one [r]) (by unfold maxLen; omega) (by omega) (by have := HL6.out.bel.size; simp; omega) ?_
                    intro v7 w7 hown7 hg7 hnil7 hat7
                    obtain ⟨A7, c7, hv7, _, _⟩ := row_slice hown7
                    subst hv7
                    have hT7 : Touch (fun k => (Value.slice AT ts.length cT).ownBlock = some k) w6 w7 := ((Touch.refl (fun k => (Value.slice AT ts.length cT).ownBlock = some k) w6).alloc _).trans (touch_grown hg7) (fun _ _ h => h)
                    have hq7 := hT7.own HQ6.out (fun e => HS3.out.qT.1 e)
                    have c7F : _ = _ := hq7.at 0
                    have f7F := hq7.free 0
                    simp at c7F
                    have hq8 := hq7.put 0 (.slice A7 (ts.length + 1) c7)
                    have hT8 := touch_set w7 q 0 (.slice A7 (ts.length + 1) c7)
                    have hS8 := thing_next HS3.out HL6.out HT6.out Ht6.out HJ6.out hown7 hT7 hT8 hq8 (hat7.imp id (fun e => ⟨_, e, by simp⟩))
                    have HA8 := Lib.hid (show RelA acts W q b u7 (.int .i64 ((k + 1 : Nat) : Int)) (w7.setCell ⟨q, 0, none⟩ (.slice A7 (ts.length + 1) c7)) from ⟨k + 1, tag', s', nd', n', ts ++ [r], vs, _, rfl, hkl, by have := HJ6.out.le; omega, by simp; omega, hS8⟩)
                    clear hown7 hg7 hnil7 hat7 hT7 hq7 hq8 hT8 hS8
                    refine hK.out _ _ ⟨trivial, fun _ => c7F⟩ (fun hS => ?_)
                    clear hK K
                    try simp only [Act.put, List.setIfInBounds_toArray, List.set_cons_zero, List.set_cons_succ]
                    refine till_ready (rs := [6]) (by kernel_rfl) (by simp) (AllTill.cons (by simp only [List.getElem?_toArray, List.getElem?_cons_succ, List.getElem?_cons_zero]; rfl) (fun K hK => ?_) AllTill.nil)
                    go_simp
                    refine hK.out _ _ ⟨trivial, till_come (by kernel_rfl)⟩ (fun hS => ?_)
                    clear hK K
                    try simp only [Act.put, List.setIfInBounds_toArray, List.set_cons_zero, List.set_cons_succ]
                    refine till_done (by kernel_rfl) ?_ _
                    refine NoPanic.normal ?_
                    go_wp2
                    go_roundw
                    case rel => exact HA8.out
                    case measure => simp [intOf]; omega
        · have hI : ¬ (k : Int) < acts.length := by omega
          obtain ⟨AT, cT, hvT, hcT, hmT⟩ := row_slice hS.rT
          subst hvT
          obtain ⟨AV, cV, hvV, hcV, hmV⟩ := row_slice hS.rV
          subst hvV
          have hvl : vs.length ≤ 1000 := by
            have h1 := nodup_len n hS.nodup (fun y hy => ((hS.vars y).1 hy).1)
            omega
          have hcq := hS.cell.at 0
          simp at hcq
          obtain ⟨w2, hmk, hown2, hg2⟩ := run_make_full (P := Try.prog) wr W.heap.size 27 3 i0 (.int .i64 0) 1 Try.underlying27 hi hz0 hz1' .i64 .i64 ts.length (by rw [hz2]; omega) (by unfold maxLen; omega) hS.lb.bel.size
          have hrep : (madeCells (Value.int .i64 0).cells (ts.length * 1)).toList = nums (List.replicate ts.length 0) := by
            rw [Nat.mul_one]
            show (madeCells #[.int .i64 0] ts.length).toList = _
            rw [toList_madeCells_one]
            unfold nums
            rw [List.map_replicate]
            rfl
          rw [hrep] at hown2
          have hb2 : Below wr.heap.size wr w2 := (Below.refl wr.heap.size wr).grown hg2 (Nat.le_refl _) (by simp)
          have hS2 := hS.more hb2
          obtain ⟨gW, hgW⟩ : ∃ gW, gW = wr.heap.size := ⟨_, rfl⟩
          have htw : tag gW = 0 := by
            by_cases e : tag gW = 0
            · exact e
            · have := hS.lb.bk.live gW e; omega
          have hB0 : StB W w2 q b gW tag s nd n ts vs (List.replicate ts.length 0) (.slice AT ts.length cT) (.slice AV vs.length cV) := {
            lb := hS2.lb
            cell := hS2.cell
            tq := hS2.tq
            rT := hS2.rT
            tT := hS2.tT
            rV := hS2.rV
            tV := hS2.tV
            rW := by rw [hgW]; exact hown2
            tW := htw
            low := by rw [hgW]; exact hS.lb.bel.size
            qW := by have := hS.cell.inside; omega
            aT := fun e => by have := (own_lt hS.rT _ e).2; omega
            aV := fun e => by have := (own_lt hS.rV _ e).2; omega
            ins := hS2.ins
            vars := hS2.vars
            nodup := hS2.nodup
            was := fun j hj hne => by
              rw [List.getD_eq_getElem?_getD, List.getElem?_replicate, if_pos hj] at hne
              exact absurd rfl hne }
          have hmem : ∀ j, j < vs.length → vs.getD j 2 ∈ vs := fun j hj => by
            rw [List.getD_eq_getElem?_getD, List.getElem?_eq_getElem hj]
            exact List.getElem_mem hj
          have HMEM := Lib.hid hmem
          have HR0 := Lib.hid (show RelB W q b gW tag nd n ts vs (.slice AT ts.length cT) (.slice AV vs.length cV) (.int .i64 0) w2 from
            ⟨0, s, _, rfl, Nat.zero_le _, hB0, fun j hj => absurd hj (by omega), fun j _ hj => by
              have := (hS.vars _).1 (hmem j hj)
              exact hS.zero _ this.1 this.2⟩)
          have hn9 : n ≤ 1000 := by omega
          have htl9 : ts.length ≤ 1000 := by omega
          rw [← hgW] at hmk
          clear hown2 hg2 hb2 hS2 htw hB0 hmem hS hrep hgW
          go_wp2
          clear hmk hcq
          go_loopw [110] (fun v110 wr => RelB W q b gW tag nd n ts vs (.slice AT ts.length cT) (.slice AV vs.length cV) v110 wr) (fun v110 _ => vs.length - (intOf v110).toNat)
          case atStart => exact HR0.out
          case round =>
            obtain ⟨i, s, wl, rfl, hil0, hB, hset, hun⟩ := hrel
            by_cases hil : i < vs.length
            · have hI3 : (i : Int) < vs.length := by omega
              obtain ⟨gV, hAV, _, _⟩ := row_form hB.rV (by omega)
              subst hAV
              obtain ⟨_, hcx, _⟩ := row_cell hB.rV i hil
              obtain ⟨x, hx⟩ : ∃ x, x = vs.getD i 2 := ⟨_, rfl⟩
              rw [← hx] at hcx
              obtain ⟨hxn, hxv⟩ := (hB.vars x).1 (by rw [hx]; exact HMEM.out i hil)
              have hx0 : s.val x = 0 := by rw [hx]; exact hun i (Nat.le_refl _) hil
              have KS := Lib.hid (fun y => hB.lb.setYes hn9 x y hxv hx0)
              have HNX := Lib.hid (fun (s' : St18) (v : Nat) (hv : v ≠ 0) (hw : Went18 nd s s' x v) => (show (∀ j, j < i + 1 → s'.val (vs.getD j 2) ≠ 0) ∧ ∀ j, i + 1 ≤ j → j < vs.length → s'.val (vs.getD j 2) = 0 from by
                constructor
                · intro j hj
                  by_cases e : j = i
                  · rw [e, ← hx, hw.set]; exact hv
                  · have h1 := hset j (by omega)
                    rw [hw.ext _ h1]; exact h1
                · intro j hj hjl
                  have h1 := hun j (by omega) hjl
                  have hne : vs.getD j 2 ≠ x := by
                    rw [hx, List.getD_eq_getElem?_getD, List.getD_eq_getElem?_getD, List.getElem?_eq_getElem hjl, List.getElem?_eq_getElem hil]
                    intro e
                    exact (List.pairwise_iff_getElem.1 (List.nodup_iff_pairwise_ne.1 hB.nodup) i j hil hjl (by omega)) e.symm
                  rw [hw.var _ ((hB.vars _).1 (HMEM.out j hjl)).2 hne]
                  exact h1))
              have hfl : (∃ aY y, i < len2 ∧ A2 = some aY ∧ wr.cell? (aY.add i) = some (.bool y)) ∨ ¬ i < len2 := by
                by_cases hy : i < len2
                · left
                  obtain ⟨aY, hA2, haYb, haYc⟩ := hb.2 (by omega)
                  have hbl : i < bs.length := by have := hb.1; simp at this; omega
                  exact ⟨aY, bs[i], hy, hA2, (hB.lb.bel.cell (p := aY.add i) (by rw [add_block]; exact haYb)).trans (haYc i _ (by rw [List.getElem?_map, List.getElem?_eq_getElem hbl]; rfl))⟩
                · exact .inr hy
              have HB := Lib.hid hB
              clear hB hset hun hx
              have hfl2 : ∃ y : Bool, ((∃ aY, i < len2 ∧ A2 = some aY ∧ wr.cell? (aY.add i) = some (.bool y)) ∨ (¬ i < len2 ∧ y = false)) := by
                rcases hfl with ⟨aY, y, h1, h2, h3⟩ | h
                · exact ⟨y, .inl ⟨aY, h1, h2, h3⟩⟩
                · exact ⟨false, .inr ⟨h, rfl⟩⟩
              obtain ⟨y, hyy⟩ := hfl2
              clear hfl
              have KS1 := Lib.hid (KS.out y)
              have hyv : (if y = true then 1 else 2) ≠ 0 := by cases y <;> decide
              have HYV := Lib.hid hyv
              clear KS hyv
              rcases hyy with ⟨aY, hy, hA2, hcy⟩ | ⟨hy, hyf⟩
              · subst hA2
                have hyI : (i : Int) < len2 := by omega
                go_wp2_with (first
                  | (go_at_call 14
                     go_must (
                       refine KS1.out.mono ?_
                       rintro e w6 ⟨rfl, s', hL6, hT6, hW6⟩
                       have hB6 := HB.out.set hL6 hT6 hW6
                       have hcq := hB6.cell.at 0
                       simp at hcq
                       have HB6 := Lib.hid hB6
                       have HW6 := Lib.hid hW6
                       have HC0 := Lib.hid (show RelC W q b gW tag s' nd n ts vs (.slice AT ts.length cT) (.slice (some ⟨gV, 0, none⟩) vs.length cV) (.int .i64 0) w6 from ⟨0, wl, rfl, Nat.zero_le _, hB6⟩)
                       clear hL6 hT6 hW6 hB6)))
                clear hcx hcy
                clear hcq
                go_loopw [131] (fun v131 wr => RelC W q b gW tag s' nd n ts vs (.slice AT ts.length cT) (.slice (some ⟨gV, 0, none⟩) vs.length cV) v131 wr) (fun v131 _ => ts.length - (intOf v131).toNat)
                case atStart => exact HC0.out
                case round =>
                  obtain ⟨j, wl2, rfl, hj, hB2⟩ := hrel
                  by_cases hjl : j < ts.length
                  · have hI4 : (j : Int) < ts.length := by omega
                    obtain ⟨gT, hAT, _, _⟩ := row_form hB2.rT (by omega)
                    subst hAT
                    obtain ⟨_, hct, _⟩ := row_cell hB2.rT j hjl
                    obtain ⟨_, hcw, hfw⟩ := row_cell hB2.rW j (by rw [hB2.len]; exact hjl)
                    have KV := Lib.hid (hB2.lb.val (ts.getD j 2) _ rfl)
                    have hw0 := hB2.was j hjl
                    have hN := hB2.note j hjl
                    have hgw : ((wl2.getD j 2 : Int) != 0) = false ∨ ((wl2.getD j 2 : Int) != 0) = true ∧ ((s'.val (ts.getD j 2) : Int) != (wl2.getD j 2 : Int)) = false := by
                      by_cases e : wl2.getD j 2 = 0
                      · left; rw [e]; rfl
                      · right
                        refine ⟨bne_iff_ne.2 (by omega), ?_⟩
                        rw [hw0 e]
                        simp
                    have HC2 := Lib.hid (show RelC W q b gW tag s' nd n ts vs (.slice (some ⟨gT, 0, none⟩) ts.length cT) (.slice (some ⟨gV, 0, none⟩) vs.length cV) (.int .i64 ((j + 1 : Nat) : Int)) _ from ⟨j + 1, _, rfl, hjl, hN⟩)
                    clear hB2 hw0 hN
                    generalize s'.val (ts.getD j 2) = vy at *
                    generalize ts.getD j 2 = yy at *
                    generalize wl2.getD j 2 = w0 at *
                    rcases hgw with gw1 | ⟨gw1, gw2⟩
                    all_goals
                      go_wp2_with (first
                        | (go_at_call 16
                           go_must (
                             refine KV.out.mono ?_
                             rintro e w3 ⟨rfl, rfl⟩)))
                      go_roundw
                      case rel => exact HC2.out
                      case measure => simp [intOf]; omega
                  · have hI4 : ¬ (j : Int) < ts.length := by omega
                    have HR9 := Lib.hid (show RelB W q b gW tag nd n ts vs (.slice AT ts.length cT) (.slice (some ⟨gV, 0, none⟩) vs.length cV) (.int .i64 ((i + 1 : Nat) : Int)) wr from
                      ⟨i + 1, s', wl2, rfl, hil, hB2, (HNX.out s' _ (by first | exact HYV.out | decide) HW6.out).1, (HNX.out s' _ (by first | exact HYV.out | decide) HW6.out).2⟩)
                    clear hB2
                    go_wp2
                    go_roundw
                    case rel => exact HR9.out
                    case measure => simp [intOf]; omega
              · subst hyf
                have hyI : ¬ (i : Int) < len2 := by omega
                go_wp2_with (first
                  | (go_at_call 14
                     go_must (
                       refine KS1.out.mono ?_
                       rintro e w6 ⟨rfl, s', hL6, hT6, hW6⟩
                       have hB6 := HB.out.set hL6 hT6 hW6
                       have hcq := hB6.cell.at 0
                       simp at hcq
                       have HB6 := Lib.hid hB6
                       have HW6 := Lib.hid hW6
                       have HC0 := Lib.hid (show RelC W q b gW tag s' nd n ts vs (.slice AT ts.length cT) (.slice (some ⟨gV, 0, none⟩) vs.length cV) (.int .i64 0) w6 from ⟨0, wl, rfl, Nat.zero_le _, hB6⟩)
                       clear hL6 hT6 hW6 hB6)))
                clear hcx
                clear hcq
                go_loopw [131] (fun v131 wr => RelC W q b gW tag s' nd n ts vs (.slice AT ts.length cT) (.slice (some ⟨gV, 0, none⟩) vs.length cV) v131 wr) (fun v131 _ => ts.length - (intOf v131).toNat)
                case atStart => exact HC0.out
                case round =>
                  obtain ⟨j, wl2, rfl, hj, hB2⟩ := hrel
                  by_cases hjl : j < ts.length
                  · have hI4 : (j : Int) < ts.length := by omega
                    obtain ⟨gT, hAT, _, _⟩ := row_form hB2.rT (by omega)
                    subst hAT
                    obtain ⟨_, hct, _⟩ := row_cell hB2.rT j hjl
                    obtain ⟨_, hcw, hfw⟩ := row_cell hB2.rW j (by rw [hB2.len]; exact hjl)
                    have KV := Lib.hid (hB2.lb.val (ts.getD j 2) _ rfl)
                    have hw0 := hB2.was j hjl
                    have hN := hB2.note j hjl
                    have hgw : ((wl2.getD j 2 : Int) != 0) = false ∨ ((wl2.getD j 2 : Int) != 0) = true ∧ ((s'.val (ts.getD j 2) : Int) != (wl2.getD j 2 : Int)) = false := by
                      by_cases e : wl2.getD j 2 = 0
                      · left; rw [e]; rfl
                      · right
                        refine ⟨bne_iff_ne.2 (by omega), ?_⟩
                        rw [hw0 e]
                        simp
                    have HC2 := Lib.hid (show RelC W q b gW tag s' nd n ts vs (.slice (some ⟨gT, 0, none⟩) ts.length cT) (.slice (some ⟨gV, 0, none⟩) vs.length cV) (.int .i64 ((j + 1 : Nat) : Int)) _ from ⟨j + 1, _, rfl, hjl, hN⟩)
                    clear hB2 hw0 hN
                    generalize s'.val (ts.getD j 2) = vy at *
                    generalize ts.getD j 2 = yy at *
                    generalize wl2.getD j 2 = w0 at *
                    rcases hgw with gw1 | ⟨gw1, gw2⟩
                    all_goals
                      go_wp2_with (first
                        | (go_at_call 16
                           go_must (
                             refine KV.out.mono ?_
                             rintro e w3 ⟨rfl, rfl⟩)))
                      go_roundw
                      case rel => exact HC2.out
                      case measure => simp [intOf]; omega
                  · have hI4 : ¬ (j : Int) < ts.length := by omega
                    have HR9 := Lib.hid (show RelB W q b gW tag nd n ts vs (.slice AT ts.length cT) (.slice (some ⟨gV, 0, none⟩) vs.length cV) (.int .i64 ((i + 1 : Nat) : Int)) wr from
                      ⟨i + 1, s', wl2, rfl, hil, hB2, (HNX.out s' _ (by first | exact HYV.out | decide) HW6.out).1, (HNX.out s' _ (by first | exact HYV.out | decide) HW6.out).2⟩)
                    clear hB2
                    go_wp2
                    go_roundw
                    case rel => exact HR9.out
                    case measure => simp [intOf]; omega
            · have hI3 : ¬ (i : Int) < vs.length := by omega
              have hall : ∀ x, x < n → s.val x ≠ 0 := known_all hB.lb.mid (fun x hx hv => by
                obtain ⟨j, hj, e⟩ := List.getElem_of_mem ((hB.vars x).2 ⟨hx, hv⟩)
                have := hset j (by omega)
                rw [List.getD_eq_getElem?_getD, List.getElem?_eq_getElem hj, e] at this
                exact this)
              have hcq := hB.cell.at 0
              simp at hcq
              have HB := Lib.hid hB
              have HALL := Lib.hid hall
              clear hB hset hun hall
              go_wp2
              go_loop [160] (fun v => ∃ j : Nat, v = .int .i64 j ∧ j ≤ ts.length) (fun v => ts.length - (intOf v).toNat)
              case atStart => exact ⟨0, rfl, Nat.zero_le _⟩
              case round =>
                obtain ⟨j, rfl, hj⟩ := hrel
                by_cases hjl : j < ts.length
                · have hI5 : (j : Int) < ts.length := by omega
                  obtain ⟨gT, hAT, _, _⟩ := row_form HB.out.rT (by omega)
                  subst hAT
                  obtain ⟨_, hcy, _⟩ := row_cell HB.out.rT j hjl
                  have hym : ts.getD j 2 < n := HB.out.ins _ (by
                    rw [List.getD_eq_getElem?_getD, List.getElem?_eq_getElem hjl]
                    exact List.getElem_mem hjl)
                  have KV := Lib.hid (HB.out.lb.val (ts.getD j 2) _ rfl)
                  have g5 : ((s.val (ts.getD j 2) : Int) == 0) = false := beq_eq_false_iff_ne.2 (by have := HALL.out _ hym; omega)
                  generalize s.val (ts.getD j 2) = vy at *
                  generalize ts.getD j 2 = y at *
                  go_wp2_with (first
                    | (go_at_call 16
                       go_must (
                         refine KV.out.mono ?_
                         rintro e w3 ⟨rfl, rfl⟩)))
                  go_round
                  case rel => exact ⟨j + 1, by go_num, hjl⟩
                  case measure => simp [intOf]; omega
                · have hI5 : ¬ (j : Int) < ts.length := by omega
                  go_wp2
                  go_ret
                  exact ⟨rfl, HB.out.lb.bel⟩
end Go.Proofs.Ytfkbmecmancgpaa
