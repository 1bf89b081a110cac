/- A book: add, Var, New. -/
import Derived.Test.YtfkbmecmancgpaaAdd18
namespace Go.Proofs.Ytfkbmecmancgpaa
open Go.RowKit
set_option linter.unusedVariables false
set_option linter.unusedSimpArgs false

theorem bytesV_app (l m : List Nat) : bytesV (l ++ m) = bytesV l ++ bytesV m := List.map_append
theorem bytesV_one (l : List Nat) : ∀ u ∈ bytesV l, u.oneCell' = true := by
  intro u hu
  obtain ⟨n, _, rfl⟩ := List.mem_map.1 hu
  rfl

set_option maxRecDepth 100000 in
set_option maxHeartbeats 8000000 in
theorem add_any {s : St18} {W : World} {b : Nat} {tag : Nat → Nat} (h : Bk W b tag s) (hopn : ∀ x, (s.opn x).isSome = true → x < s.vals.length) (hn : s.vals.length ≤ 1000) (th : Th18) (hth : th.users = []) :
    Calls Try.prog 18 #[.pointer (some ⟨b, 0, none⟩), .agg #[.int .i64 th.left, .int .i64 th.one, .slice none 0 0]] W fun e w' =>
      e = .returned (.int .i64 s.vals.length) ∧ ∃ tag', Bk w' b tag' (addS s th) ∧ Touch (fun k => tag k ≠ 0) W w' ∧ ∀ k, k < W.heap.size → tag' k = tag k := by
  obtain ⟨i0, hi, hz0, hz1, hz2⟩ := info_parts u8_info
  obtain ⟨vv, mb, pb, uv, h⟩ := h
  have hrow := h.row
  obtain ⟨A, c, rfl, hc, hcm⟩ := row_slice h.row
  obtain ⟨W1, hW1⟩ : ∃ W1, W1 = W.alloc (.cells #[.int .i64 th.left, .int .i64 th.one, .slice none 0 0] 47) := ⟨_, rfl⟩
  have hbl : b < W.heap.size := h.book.inside
  have hml : mb < W.heap.size := h.map.lt
  have hz1' : W1.heap.size = W.heap.size + 1 := by rw [hW1]; simp
  have t1 : Touch (fun _ => False) W W1 := by rw [hW1]; exact (Touch.refl _ _).alloc _
  have hB1 := t1.own h.book (fun f => f)
  have c0 := hB1.at 0
  have c1 := hB1.at 1
  simp at c0 c1
  have hP1 : Own W1 W.heap.size 47 #[.int .i64 th.left, .int .i64 th.one, .slice none 0 0] := by rw [hW1]; exact Own.fresh _ _ _
  have hR1 := t1.row hrow (fun _ _ f => f)
  have hM1 := t1.opm h.map (fun f => f)
  have hrd : Rd (W1.alloc (.cells #[.int .u8 0] 5)) (W1.heap.size + 1) (some ⟨W1.heap.size, 0, none⟩) 1 [.int .u8 0] := Rd.of_list (l := [.int .u8 0]) (Own.fresh _ _ _) rfl
  rw [hz1'] at hrd
  have hbA : ∀ k, (Value.slice A s.vals.length c).ownBlock = some k → k ≠ b ∧ k ≠ mb ∧ k ≠ W.heap.size := fun k hk => by
    have e2 := h.trow k hk
    refine ⟨fun e => ?_, fun e => ?_, fun e => ?_⟩
    · rw [e, h.tbook] at e2; omega
    · rw [e, h.tmap] at e2; omega
    · have := (own_lt hrow k hk).2; omega
  have hbm : b ≠ mb := fun e => by have := h.tbook; rw [e, h.tmap] at this; omega
  have H := Lib.hid h
  have HB1 := Lib.hid hB1
  have HP1 := Lib.hid hP1
  have HR1 := Lib.hid hR1
  have HM1 := Lib.hid hM1
  have HBA := Lib.hid hbA
  have HT1 := Lib.hid t1
  have HO := Lib.hid hopn
  have HBM := Lib.hid hbm
  have HBL := Lib.hid (And.intro hbl hml)
  clear h hB1 hP1 hR1 hM1 hbA t1 hopn hrow hbm
  have HW1 := Lib.hid hW1
  rw [hW1] at c0 c1
  go_enter Try.func18, Try.ntmps18
  go_wp2_with (first
    | (at_builtin
       rw [← HW1.out]
       go_must (
         refine wpList_append_rd _ rfl (.tmp 15) (.tmp 16) _ rfl 0 5 i0 _ 1 Try.underlying41 hi hz0 hz1 hz2 rfl (.slice A s.vals.length c) s.vals.length (bytesV s.vals) rfl (HR1.out.alloc _) (W.heap.size + 1 + 1) (some ⟨W.heap.size + 1, 0, none⟩) 1 1 [.int .u8 0] rfl hrd (bytesV_one [0]) (by unfold maxLen; omega) (by omega) (Nat.zero_le _) ?_
         intro v3 w3 hown3 hg3 hnil3 hat3
         obtain ⟨A3, c3, rfl, hc3, hm3'⟩ := row_slice hown3
         have hT3 : Touch (fun k => (Value.slice A s.vals.length c).ownBlock = some k) W1 w3 := ((Touch.refl (fun k => (Value.slice A s.vals.length c).ownBlock = some k) W1).alloc _).trans (touch_grown hg3) (fun _ _ h => h)
         have hB3 := hT3.own HB1.out (fun e => (HBA.out b e).1 rfl)
         have b0 := hB3.at 0
         have b1 := hB3.at 1
         simp at b0 b1
         have bf := hB3.free 0
         obtain ⟨w4, hw4⟩ : ∃ w4, w4 = w3.setCell ⟨b, 0, none⟩ (.slice A3 (s.vals.length + 1) c3) := ⟨_, rfl⟩
         have hT4 : Touch (fun k => k = b) w3 w4 := by rw [hw4]; exact touch_set w3 b 0 (.slice A3 (s.vals.length + 1) c3)
         have hB4 : Own w4 b 44 #[(.slice A3 (s.vals.length + 1) c3), .map (some mb)] := by rw [hw4]; exact hB3.put 0 (.slice A3 (s.vals.length + 1) c3)
         have hv3 : (Value.slice A3 (s.vals.length + 1) c3).ownBlock = (Value.slice A s.vals.length c).ownBlock ∨ ∃ q, (Value.slice A3 (s.vals.length + 1) c3).ownBlock = some q ∧ W.heap.size < q ∧ q < w4.heap.size := by
           rcases hat3 with e | e
           · exact .inl e
           · right
             refine ⟨_, e, ?_, ?_⟩
             · simp; omega
             · have h1 := (own_lt hown3 _ e).2
               have h2 := hT4.size
               omega
         have hb3 : (Value.slice A3 (s.vals.length + 1) c3).ownBlock ≠ some b := by
           rcases hv3 with e | ⟨q, e, hq, _⟩
           · rw [e]; intro e2; exact (HBA.out b e2).1 rfl
           · rw [e]; intro e2; injection e2 with e2; have := HBL.out.1; omega
         have hm3 : (Value.slice A3 (s.vals.length + 1) c3).ownBlock ≠ some mb := by
           rcases hv3 with e | ⟨q, e, hq, _⟩
           · rw [e]; intro e2; exact (HBA.out mb e2).2.1 rfl
           · rw [e]; intro e2; injection e2 with e2; have := HBL.out.2; omega
         have hR4 := hT4.row hown3 (fun g hg e => hb3 (e ▸ hg))
         have hM4 := hT4.opm (hT3.opm HM1.out (fun e => (HBA.out mb e).2.1 rfl)) (fun e => HBM.out e.symm)
         have hP4 := hT4.own (hT3.own HP1.out (fun e => (HBA.out _ e).2.2 rfl)) (fun e => by have := HBL.out.1; omega)
         have b1' := hB4.at 1
         simp at b1'
         rw [hw4] at b1'
         have HT4 := Lib.hid (show Touch (fun k => k = b ∨ (Value.slice A s.vals.length c).ownBlock = some k) W w4 from
           ((HT1.out.mono (G := fun k => k = b ∨ (Value.slice A s.vals.length c).ownBlock = some k) (fun _ _ f => f.elim)).trans (hT3.mono (G := fun k => k = b ∨ (Value.slice A s.vals.length c).ownBlock = some k) (fun _ _ e => .inr e)) (fun _ _ h => h)).trans (hT4.mono (G := fun k => k = b ∨ (Value.slice A s.vals.length c).ownBlock = some k) (fun _ _ e => .inl e)) (fun _ _ h => h))
         have HB4 := Lib.hid hB4
         have HV3 := Lib.hid hv3
         have HR4 := Lib.hid hR4
         have HM4 := Lib.hid hM4
         have HP4 := Lib.hid hP4
         have HX3 := Lib.hid (And.intro hb3 hm3)
         have HW4 := Lib.hid hw4
         clear hT3 hB3 hT4 hB4 hv3 hb3 hm3 hR4 hM4 hP4 hown3 hg3 hnil3 hat3 hw4))
    | (at_mapUpdate
       rw [← HW4.out]
       go_must (
         refine wpList_put_opm _ rfl (.tmp 23) (.tmp 24) (.tmp 3) rfl mb s.vals.length _ rfl HM4.out s.vals.length W.heap.size rfl rfl (by omega) (by omega) ?_
         intro w5 hopm5 hg5
         have hT5 : Touch (fun k => some mb = some k) w4 w5 := touch_grown hg5
         have hne : ∀ k, k ≠ mb → ¬ (some mb = some k) := fun k hk e => by injection e with e; exact hk e.symm
         have HE := Lib.hid (H.out.added (fun x hx => HO.out x hx) hth (F := fun k => k = b ∨ k = mb ∨ (Value.slice A s.vals.length c).ownBlock = some k)
           ((HT4.out.mono (G := fun k => k = b ∨ k = mb ∨ (Value.slice A s.vals.length c).ownBlock = some k) (fun _ _ e => e.elim .inl (fun e => .inr (.inr e)))).trans (hT5.mono (G := fun k => k = b ∨ k = mb ∨ (Value.slice A s.vals.length c).ownBlock = some k) (fun _ _ e => by injection e with e; exact .inr (.inl e.symm))) (fun _ _ h => h)) (fun _ h => h)
           (hT5.own HB4.out (hne b HBM.out)) (by rw [bytesV_app]; exact hT5.row HR4.out (fun g hg => hne g (fun e => HX3.out.2 (e ▸ hg)))) hopm5 (hT5.own HP4.out (hne _ (by have := HBL.out.2; omega)))
           (by
             rcases HV3.out with e | ⟨q, e, h1, h2⟩
             · exact .inl e
             · exact .inr ⟨q, e, h1, Nat.lt_of_lt_of_le h2 hT5.size⟩))
         have HTE := Lib.hid (show Touch (fun k => tag k ≠ 0) W w5 from
           (HT4.out.mono (G := fun k => tag k ≠ 0) (fun k _ e => by
             rcases e with rfl | e
             · rw [H.out.tbook]; decide
             · rw [H.out.trow k e]; decide)).trans (hT5.mono (G := fun k => tag k ≠ 0) (fun k _ e => by injection e with e; rw [← e, H.out.tmap]; decide)) (fun _ _ h => h))
         clear hopm5 hg5 hT5 hne)))
  go_ret
  exact ⟨rfl, _, HE.out.1, HTE.out, HE.out.2⟩
end Go.Proofs.Ytfkbmecmancgpaa
