/- Package bits: Push, Top, Pop, Len, Words, All as one bundle; the two statements' walks. -/
import Derived.Test.YtddkljlggcbcjaaBits
namespace Go.Proofs.Ytddkljlggcbcjaa
open Go.RowKit
set_option linter.unusedVariables false

theorem push_any (b : Nat) (F : Nat → Prop) (l : List Bool) (x : Bool) (w : World) (h : StP w b F l) (hl : l.length ≤ 5000) :
    Calls Try.prog 6 #[.pointer (some ⟨b, 0, none⟩), .bool x] w fun e w' =>
      e = .returned (.tuple #[]) ∧ ∃ F', StP w' b F' (l ++ [x]) ∧ Touch F w w' ∧ ∀ k, k < w.heap.size → F' k → F k := by
  obtain ⟨ws, v, h⟩ := h
  by_cases hf : l.length = 64 * ((l.length + 63) / 64)
  · cases x
    · exact push_clear_new b F l ws v _ w h hl rfl hf
    · exact push_or_new b F l ws v _ w h hl rfl hf
  · cases x
    · exact push_clear_in b F l ws v _ w h hl rfl hf
    · exact push_or_in b F l ws v _ w h hl rfl hf

theorem len_any (b : Nat) (F : Nat → Prop) (l : List Bool) (w : World) (h : StP w b F l) :
    Calls Try.prog 9 #[.pointer (some ⟨b, 0, none⟩)] w fun e w' => e = .returned (.int .i64 l.length) ∧ w' = w := by
  obtain ⟨ws, v, h⟩ := h
  have h1 := h.own.at 1
  simp at h1
  clear h
  go_enter Try.func9, Try.ntmps9
  go_wp2
  go_ret
  exact ⟨rfl, rfl⟩

theorem words_any (b : Nat) (F : Nat → Prop) (l : List Bool) (w : World) (h : StP w b F l) :
    Calls Try.prog 10 #[.pointer (some ⟨b, 0, none⟩)] w fun e w' => e = .returned (.int .i64 (((l.length + 63) / 64 : Nat) : Int)) ∧ w' = w := by
  obtain ⟨ws, v, h⟩ := h
  obtain ⟨A, c, hv, hc⟩ := h.form
  have h0 := h.own.at 0
  rw [hv] at h0
  simp at h0
  clear h hv
  generalize (l.length + 63) / 64 = N at *
  go_enter Try.func10, Try.ntmps10
  go_wp2
  go_ret
  exact ⟨rfl, rfl⟩

theorem top_none (b : Nat) (F : Nat → Prop) (w : World) (h : StP w b F []) :
    Calls Try.prog 8 #[.pointer (some ⟨b, 0, none⟩)] w fun e w' => e = .returned (.tuple #[.bool false, .bool false]) ∧ ∃ q, w' = w.drewN q := by
  obtain ⟨ws, v, h⟩ := h
  have h1 := h.own.at 1
  simp at h1
  clear h
  go_enter Try.func8, Try.ntmps8
  go_wp2
  go_ret2
  exact ⟨rfl, 0, rfl⟩

theorem top_some (b : Nat) (F : Nat → Prop) (l : List Bool) (ws : List Nat) (v : Value) (N n : Nat) (w : World) (h : RawN w b F l ws v N) (hN : n < 64 * N) (hl : l.length = n + 1) (h5 : l.length ≤ 5000) (hNN : N ≤ 1000) :
    Calls Try.prog 8 #[.pointer (some ⟨b, 0, none⟩)] w fun e w' => e = .returned (.tuple #[.bool (bitOf ws n), .bool true]) ∧ ∃ q, w' = w.drewN q := by
  have h1 := h.own.at 1
  rw [hl] at h1
  simp at h1
  have hnI : (n : Int) ≤ 5000 := by omega
  have gz : (((n : Int) + 1) == 0) = false := by rw [beq_eq_false_iff_ne]; omega
  have HA := Lib.hid (at_at b F l ws v N n w h hN hNN)
  clear h hl
  go_enter Try.func8, Try.ntmps8
  go_wp2_with (go_at_call 15; refine HA.out.mono ?_; rintro e w' ⟨rfl, q, rfl⟩)
  go_ret2
  exact ⟨rfl, q, rfl⟩

theorem last_bit {w : World} {b N n : Nat} {F : Nat → Prop} {l : List Bool} {ws : List Nat} {v : Value} (h : RawN w b F l ws v N) (hl : l.length = n + 1) : l.getLast?.getD false = bitOf ws n := by
  rw [h.bit n (by omega), List.getLast?_eq_getElem?, hl, List.getD_eq_getElem?_getD]
  rfl

theorem top_any (b : Nat) (F : Nat → Prop) (l : List Bool) (w : World) (h : StP w b F l) (hl : l.length ≤ 5000) :
    Calls Try.prog 8 #[.pointer (some ⟨b, 0, none⟩)] w fun e w' =>
      e = .returned (.tuple #[.bool (l.getLast?.getD false), .bool (decide (0 < l.length))]) ∧ ∃ q, w' = w.drewN q := by
  rcases Nat.eq_zero_or_pos l.length with h0 | h0
  · obtain rfl : l = [] := List.eq_nil_of_length_eq_zero h0
    exact top_none b F w h
  · obtain ⟨n, hn⟩ : ∃ n, l.length = n + 1 := ⟨l.length - 1, by omega⟩
    obtain ⟨ws, v, h⟩ := h
    rw [last_bit h hn, decide_eq_true h0]
    exact top_some b F l ws v _ n w h (by omega) hn hl (by omega)

theorem back_bits {ws : List Nat} {l : List Bool} (hb : ∀ i, i < l.length → bitOf ws i = l.getD i false) (i : Nat) (hi : i < l.dropLast.length) : bitOf ws i = l.dropLast.getD i false := by
  rw [List.length_dropLast] at hi
  rw [hb i (by omega), List.getD_eq_getElem?_getD, List.getD_eq_getElem?_getD, List.getElem?_dropLast, if_pos (by omega)]
theorem take_bits (ws : List Nat) (n i : Nat) (hn : n % 64 = 0) (hi : i < n) : bitOf (ws.take (n / 64)) i = bitOf ws i := by
  unfold bitOf
  rw [List.getD_eq_getElem?_getD, List.getD_eq_getElem?_getD, List.getElem?_take_of_lt (by omega)]

/-- The number of bits goes down by one. -/
theorem RawN.popped {w : World} {b N n : Nat} {F : Nat → Prop} {l : List Bool} {ws : List Nat} {v : Value} (h : RawN w b F l ws v N) (hl : l.length = n + 1) : RawN (w.setCell ⟨b, 1, none⟩ (.int .i64 n)) b F l.dropLast ws v N :=
  ⟨by have := h.own.put 1 (.int .i64 n); simpa [hl] using this, h.row.stay (fun g hg => Below.heap_setCell _ _ _ _ (h.blocks hg).2.1), h.foot, h.apart, h.many, back_bits h.bit, h.small⟩
/-- The last word goes. -/
theorem RawN.cut {w : World} {b N k m c : Nat} {A : Option Addr} {F : Nat → Prop} {l : List Bool} {ws : List Nat} (h : RawN w b F l ws (.slice A m c) N) (hk : k ≤ N) (hl : l.length = 64 * k) : RawN (w.setCell ⟨b, 0, none⟩ (.slice A k c)) b F l (ws.take k) (.slice A k c) k := by
  have ho : (Value.slice A k c).ownBlock = (Value.slice A m c).ownBlock := by
    cases A with
    | none => rfl
    | some a => rfl
  refine ⟨by have := h.own.put 0 (.slice A k c); simpa using this, (h.row.cut (by rw [h.many]; exact hk)).stay (fun g hg => Below.heap_setCell _ _ _ _ (h.blocks (ho ▸ hg)).2.1), fun j => by rw [ho]; exact h.foot j, by rw [ho]; exact h.apart, ?_, ?_, fun x hx => h.small x (List.mem_of_mem_take hx)⟩
  · rw [List.length_take, h.many]; omega
  · intro i hi
    have := take_bits ws (64 * k) i (by omega) (by omega)
    rw [show 64 * k / 64 = k by omega] at this
    rw [this]
    exact h.bit i hi

theorem pop_none (b : Nat) (F : Nat → Prop) (w : World) (h : StP w b F []) :
    Calls Try.prog 7 #[.pointer (some ⟨b, 0, none⟩)] w fun e w' => e = .returned (.tuple #[.bool false, .bool false]) ∧ ∃ q, w' = w.drewN q := by
  have HT := Lib.hid (top_none b F w h)
  clear h
  go_enter Try.func7, Try.ntmps7
  go_wp2_with (go_at_call 8; refine HT.out.mono ?_; rintro e w' ⟨rfl, q, rfl⟩)
  go_ret2
  exact ⟨rfl, q, rfl⟩

set_option maxHeartbeats 1000000 in
theorem pop_some (b : Nat) (F : Nat → Prop) (l : List Bool) (ws : List Nat) (v : Value) (n : Nat) (w : World) (h : RawN w b F l ws v (n / 64 + 1)) (hl : l.length = n + 1) (h5 : l.length ≤ 5000) :
    Calls Try.prog 7 #[.pointer (some ⟨b, 0, none⟩)] w fun e w' => e = .returned (.tuple #[.bool (bitOf ws n), .bool true]) ∧ ∃ F', StP w' b F' l.dropLast ∧ Touch F w w' ∧ ∀ k, k < w.heap.size → F' k → F k := by
  have hdl : l.dropLast.length = n := by rw [List.length_dropLast]; omega
  have HT := Lib.hid (top_some b F l ws v _ n w h (by omega) hl h5 (by omega))
  obtain ⟨g, c, x, hv, hc, _, _, _, hxx, _, _, _⟩ := h.word (n / 64) (by rw [h.many]; omega)
  rw [h.many] at hv hc
  clear hxx
  have h1 := h.own.at 1
  have f1 := h.own.free 1
  have h0 := h.own.at 0
  have f0 := h.own.free 0
  rw [hv] at h0
  rw [hl] at h1
  simp at h0 h1
  have hnI : (n : Int) ≤ 5000 := by omega
  have hn0 : (0 : Int) ≤ (n : Int) := by omega
  have hwr : ((n : Int) + 1) - 1 = n := by omega
  have H := Lib.hid h
  have HL := Lib.hid hl
  have HV := Lib.hid hv
  have HD := Lib.hid hdl
  clear h hl hv hdl h5
  by_cases hm : n % 64 = 0
  · have hmI : ((n : Int) % 64 == 0) = true := by rw [beq_iff_eq]; omega
    obtain ⟨j, hj⟩ : ∃ j, n = 64 * j := ⟨n / 64, by omega⟩
    have hq : IntKind.i64.wrap ((n : Int) / 64) = (j : Int) := by
      rw [IntKind.wrap_i64]
      omega
    have hjc : (j : Int) ≤ c := by omega
    have hj0 : (0 : Int) ≤ j := by omega
    have hjN : n / 64 = j := by omega
    have HJ := Lib.hid hj
    have HJN := Lib.hid hjN
    have HMM := Lib.hid hm
    rw [hjN] at h0 hc
    clear hj hjN hm
    go_enter Try.func7, Try.ntmps7
    go_wp2_with (go_at_call 8; refine HT.out.mono ?_; rintro e w' ⟨rfl, q, rfl⟩)
    have HP := Lib.hid (show RawN ((w.drewN q).setCell ⟨b, 1, none⟩ (.int .i64 n)) b F l.dropLast ws v (n / 64 + 1) from (H.out.drewN q).popped HL.out)
    have HU := Lib.hid (show Touch F w ((w.drewN q).setCell ⟨b, 1, none⟩ (.int .i64 n)) from ((Touch.refl F w).drewN q).setCell (p := ⟨b, 1, none⟩) (.inl H.out.self) _)
    have k0 := HP.out.own.at 0
    have k1 := HP.out.own.at 1
    have z0 := HP.out.own.free 0
    rw [HV.out, HJN.out] at k0
    rw [HD.out] at k1
    simp at k0 k1
    clear h0 h1 f0 f1
    generalize (w.drewN q).setCell ⟨b, 1, none⟩ (.int .i64 n) = w2 at *
    refine wp_region_still_tail 13 (by kernel_rfl) (by kernel_rfl) ?_
    simp only [List.take_succ_cons, List.take_zero, List.drop_succ_cons, List.drop_zero]
    repeat still_step
    refine wpStill_nil ?_
    have y0 : (w2.drew).frozen? ⟨b, 0, none⟩ = false := z0
    have y1 : (w2.drew).cell? ⟨b, 0, none⟩ = some (.slice (some ⟨g, 0, none⟩) (j + 1) c) := k0
    have HP2 := Lib.hid (show RawN w2.drew b F l.dropLast ws v (n / 64 + 1) from HP.out.drewN 1)
    have HU2 := Lib.hid (show Touch F w w2.drew from HU.out.drewN 1)
    change wpList _ _ _ _ _ w2.drew
    clear k0 k1 z0 HP HU
    generalize w2.drew = w3 at *
    go_wp2
    go_ret2
    have hp := HP2.out
    rw [HV.out] at hp
    have hc := hp.cut (k := j) (by rw [HJN.out]; omega) (by rw [HD.out]; exact HJ.out)
    refine ⟨rfl, F, ⟨ws.take j, .slice (some ⟨g, 0, none⟩) j c, ?_⟩, HU2.out.setCell (p := ⟨b, 0, none⟩) (.inl H.out.self) _, fun _ _ h => h⟩
    · rw [show (l.dropLast.length + 63) / 64 = j by rw [HD.out]; have := HJ.out; omega]
      exact hc
  · have hmI : ((n : Int) % 64 == 0) = false := by rw [beq_eq_false_iff_ne]; omega
    have HMM := Lib.hid hm
    clear hm
    go_enter Try.func7, Try.ntmps7
    go_wp2_with (go_at_call 8; refine HT.out.mono ?_; rintro e w' ⟨rfl, q, rfl⟩)
    go_ret2
    refine ⟨rfl, F, ⟨ws, v, ?_⟩, ?_, fun _ _ h => h⟩
    · have := (H.out.drewN q).popped HL.out
      rw [show (l.dropLast.length + 63) / 64 = n / 64 + 1 by rw [HD.out]; have := HMM.out; omega]
      exact this
    · exact ((Touch.refl F w).drewN q).setCell (p := ⟨b, 1, none⟩) (.inl H.out.self) _

theorem pop_any (b : Nat) (F : Nat → Prop) (l : List Bool) (w : World) (h : StP w b F l) (hl : l.length ≤ 5000) :
    Calls Try.prog 7 #[.pointer (some ⟨b, 0, none⟩)] w fun e w' =>
      e = .returned (.tuple #[.bool (l.getLast?.getD false), .bool (decide (0 < l.length))]) ∧ ∃ F', StP w' b F' l.dropLast ∧ Touch F w w' ∧ ∀ k, k < w.heap.size → F' k → F k := by
  rcases Nat.eq_zero_or_pos l.length with h0 | h0
  · obtain rfl : l = [] := List.eq_nil_of_length_eq_zero h0
    refine (pop_none b F w h).mono ?_
    rintro e w' ⟨rfl, q, rfl⟩
    obtain ⟨ws, v, h⟩ := h
    exact ⟨rfl, F, ⟨ws, v, h.drewN q⟩, (Touch.refl F w).drewN q, fun _ _ h => h⟩
  · obtain ⟨n, hn⟩ : ∃ n, l.length = n + 1 := ⟨l.length - 1, by omega⟩
    obtain ⟨ws, v, h⟩ := h
    rw [last_bit h hn, decide_eq_true h0]
    rw [show (l.length + 63) / 64 = n / 64 + 1 by omega] at h
    exact pop_some b F l ws v n w h hn hl

theorem bools_step (l : List Bool) (k n : Nat) (hl : l.length = n) (hk : k < n) : ((bools (l.take k) ++ List.replicate (n - k) (Value.bool false)).toArray).setIfInBounds k (.bool (l.getD k false)) = (bools (l.take (k + 1)) ++ List.replicate (n - (k + 1)) (Value.bool false)).toArray := by
  have hlen : (bools (l.take k)).length = k := by rw [bools_length, List.length_take]; omega
  rw [set_tail _ _ k 0 _ hlen.symm, show n - k = (n - (k + 1)) + 1 by omega, List.replicate_succ, List.set_cons_zero, List.take_succ_eq_append_getElem (show k < l.length by omega), bools_append, List.append_assoc]
  congr 2
  rw [List.getD_eq_getElem?_getD, List.getElem?_eq_getElem (by omega)]
  rfl

/-- Where All's loop is. -/
def RelAl (w : World) (b : Nat) (F : Nat → Prop) (l : List Bool) (ws : List Nat) (v : Value) (N n : Nat) (wr : World) (i : Value) : Prop :=
  ∃ k : Nat, k ≤ n ∧ i = .int .i64 k ∧ Own wr w.heap.size 4 (bools (l.take k) ++ List.replicate (n - k) (Value.bool false)).toArray ∧ Below w.heap.size w wr ∧ RawN wr b F l ws v N

set_option maxHeartbeats 1000000 in
theorem all_any (b : Nat) (F : Nat → Prop) (l : List Bool) (w : World) (h : StP w b F l) (h5 : l.length ≤ 5000) :
    Calls Try.prog 13 #[.pointer (some ⟨b, 0, none⟩)] w fun e w' =>
      ∃ A c, e = .returned (.slice A l.length c) ∧ Rd w' w'.heap.size A l.length (bools l) ∧ ∃ F', StP w' b F' l ∧ Touch F w w' ∧ ∀ k, k < w.heap.size → F' k → F k := by
  obtain ⟨ws, v, h⟩ := h
  have h1 := h.own.at 1
  simp at h1
  have hnI : (l.length : Int) ≤ 5000 := by omega
  have H := Lib.hid h
  have HN2 := Lib.hid (show l.length ≤ 64 * ((l.length + 63) / 64) ∧ (l.length + 63) / 64 ≤ 1000 by omega)
  generalize hNN : (l.length + 63) / 64 = N at *
  have HM := Lib.hid hNN.symm
  clear h hNN
  generalize hn : l.length = n at *
  have HN := Lib.hid hn
  clear hn
  obtain ⟨i0, hi, hz0, hz1, hz2⟩ := info_parts bool_info
  have hmk := fun W => run_make (P := Try.prog) W 27 4 i0 _ Try.underlying27 hi hz0 .i64 .i64 (n : Int) (n : Int) (by omega) (by omega) (by rw [hz2]; omega) (by omega)
  rw [hz1] at hmk
  simp only [Nat.mul_one, Int.toNat_natCast] at hmk
  clear hi hz0 hz1 hz2
  go_enter Try.func13, Try.ntmps13
  go_wp2
  go_loopw [12] (fun i wr => RelAl w b F l ws v N n wr i) (fun i _ => n - (intOf i).toNat)
  case atStart =>
    refine ⟨0, Nat.zero_le _, rfl, ?_, below1f w _, H.out.move (Touch.of_new (F := fun _ => False) (below1f w _)) (fun _ _ h => h)⟩
    have := Own.fresh w 4 (madeCells #[.bool false] n)
    simpa [made_one, bools] using this
  case round =>
    obtain ⟨k, hk, rfl, hown, hbel, hr⟩ := hrel
    by_cases hlt : k < n
    · have hkI : (k : Int) < n := by omega
      have HA := Lib.hid (at_at b F l ws v N k wr hr (by have := HN2.out; omega) HN2.out.2)
      have HB := Lib.hid (hr.bit k (by rw [HN.out]; exact hlt))
      have HO := Lib.hid hown
      have HR := Lib.hid hr
      have HS := Lib.hid (bools_step l k n HN.out hlt)
      have hlen : (bools (l.take k)).length = k := by rw [bools_length, List.length_take, HN.out]; omega
      have HC := Lib.hid (show ∀ q, (wr.drewN q).cell? ⟨w.heap.size, k, none⟩ = some (.bool false) from fun q => by
        have := hown.at k
        rw [List.getElem?_toArray, List.getElem?_append_right (by omega), hlen, Nat.sub_self, List.getElem?_replicate, if_pos (by omega)] at this
        exact this)
      have HF := Lib.hid (show ∀ q, (wr.drewN q).frozen? ⟨w.heap.size, k, none⟩ = false from fun q => hown.free k)
      have HBL := Lib.hid hbel
      clear hown hr hlen
      go_wp2_with (go_at_call 15; refine HA.out.mono ?_; rintro e w' ⟨rfl, q, rfl⟩; have cz := HC.out q; have fz := HF.out q)
      go_roundw
      case rel =>
        have hnb : w.heap.size ≠ b := by have := H.out.own.inside; omega
        refine ⟨k + 1, hlt, by go_num, ?_, ?_, ?_⟩
        · have := (show Own (wr.drewN q) w.heap.size 4 _ from HO.out).put k (.bool (bitOf ws k))
          rw [HB.out, HS.out] at this
          rw [HB.out]
          exact this
        · exact (below_drewN HBL.out q).setCell (Nat.le_refl _) _
        · exact (HR.out.drewN q).move (G := fun j => j = w.heap.size) ((Touch.refl (fun j => j = w.heap.size) _).setCell (p := ⟨w.heap.size, k, none⟩) (.inl rfl) _) (fun j hj e => by have := H.out.inside hj; omega)
      case measure => simp [intOf]; omega
    · obtain rfl : k = n := by omega
      go_wp2
      go_ret
      have e : bools (l.take k) = bools l := by rw [List.take_of_length_le (by rw [HN.out]; exact Nat.le_refl _)]
      rw [Nat.sub_self, e] at hown
      refine ⟨_, _, rfl, ?_, F, ⟨ws, v, ?_⟩, Touch.of_new hbel, fun _ _ h => h⟩
      · have := Rd.of_list (k := k) hown (by simp [bools_length, HN.out])
        exact (by simpa using this : Rd wr (w.heap.size + 1) _ k (bools l)).more hown.inside
      · have := HM.out
        rw [HN.out, ← this]
        exact hr

/-- What package bits does, as the laws ask it. -/
theorem stackP : StackC StP where
  zero w := ⟨[], .slice none 0 0, ⟨Own.fresh _ _ _, GRow.nil _ _, fun k => by simp [Value.ownBlock], by simp [Value.ownBlock], rfl, fun i hi => absurd hi (by simp), fun x hx => by cases hx⟩⟩
  inside w b F l h := by
    obtain ⟨ws, v, h⟩ := h
    exact fun k hk => h.inside hk
  move w w' b F G l h ht hd := by
    obtain ⟨ws, v, h⟩ := h
    exact ⟨ws, v, h.move ht hd⟩
  push b F l x w h hl := push_any b F l x w h hl
  pop b F l w h hl := pop_any b F l w h hl
  top b F l w h hl := (top_any b F l w h hl).mono fun e w' he => by
    obtain ⟨rfl, q, rfl⟩ := he
    obtain ⟨ws, v, h⟩ := h
    exact ⟨rfl, F, ⟨ws, v, h.drewN q⟩, (Touch.refl F w).drewN q, fun _ _ h => h⟩
  len b F l w h hl := (len_any b F l w h).mono fun e w' he => by
    obtain ⟨rfl, rfl⟩ := he
    exact ⟨rfl, F, h, Touch.refl F w', fun _ _ h => h⟩
  words b F l w h hl := (words_any b F l w h).mono fun e w' he => by
    obtain ⟨rfl, rfl⟩ := he
    exact ⟨rfl, F, h, Touch.refl F w', fun _ _ h => h⟩
  all b F l w h hl := all_any b F l w h hl

theorem bitsBack_walk (A : Option Addr) (len cap : Nat) (bl : List Bool) (W : World) (h : IsBools W A len cap bl) :
    Calls Try.prog 4 #[.slice A len cap] W fun e w' => e = .returned (.bool true) ∧ Below W.heap.size W w' :=
  bitsBack_core stackP A len cap bl W (Rd.of_bools h)

theorem bitsRuns_walk (A : Option Addr) (len cap : Nat) (zs : List Int) (W : World) (h : IsRow .u8 W A len cap zs) :
    Calls Try.prog 3 #[.slice A len cap] W fun e w' => e = .returned (.bool true) ∧ Below W.heap.size W w' := by
  obtain ⟨l, hl⟩ := h.bytes
  exact bitsRuns_core stackP A len cap l W hl

end Go.Proofs.Ytddkljlggcbcjaa
