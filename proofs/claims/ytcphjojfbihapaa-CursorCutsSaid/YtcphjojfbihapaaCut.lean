/- The contracts of package cursor: Cut and Join. -/
import Derived.Test.YtcphjojfbihapaaSlc
import Derived.Outline
import Derived.WalkLawsBesides
import Derived.Deep.DeepMust
namespace Go.Proofs.Ytcphjojfbihapaa
open Go.RowKit

/-- The chunks. -/
def cutM : List Int → List Int → List (List Int)
  | b, [] => if b.isEmpty then [] else [b]
  | b, z :: zs => b.take z.toNat :: cutM (b.drop z.toNat) zs

theorem cutM_flat (zs : List Int) : ∀ b, (cutM b zs).flatten = b := by
  induction zs with
  | nil => intro b; cases b <;> simp [cutM]
  | cons z zs ih => intro b; simp [cutM, ih]

theorem cutM_length (zs : List Int) : ∀ b, (cutM b zs).length ≤ zs.length + 1 := by
  induction zs with
  | nil => intro b; cases b <;> simp [cutM]
  | cons z zs ih => intro b; have := ih (b.drop z.toNat); simp [cutM]; omega

theorem cutM_each (zs : List Int) : ∀ b, ∀ x ∈ cutM b zs, x.length ≤ b.length := by
  induction zs with
  | nil => intro b x hx; cases b <;> simp [cutM] at hx; subst hx; simp
  | cons z zs ih =>
    intro b x hx
    simp only [cutM, List.mem_cons] at hx
    rcases hx with rfl | hx
    · simp; omega
    · have := ih _ x hx
      simp at this
      omega

theorem slice_info : (Try.prog.info? 22).map (fun i => (i.zero, i.size, i.bytes)) = some (some (.slice none 0 0), 1, 24) := by kernel_rfl
theorem elem_ok (w : World) : (sizeOf (Try.prog.elem 22)).run Try.prog w = .ok 1 w := by kernel_rfl
theorem under_ok : Try.prog.underlying 22 = some (.slice (Try.prog.elem 22)) := by kernel_rfl

/-- Where Cut's loop is. -/
def RelCut (xs zs : List Int) (W wr : World) (b v i : Value) : Prop :=
  ∃ (k m c : Nat) (A : Option Addr) (r : List Int) (d : List (List Int)) (vs : List Value), k ≤ zs.length ∧ i = .int .i64 k ∧ b = .slice A m c ∧ m ≤ c ∧ m ≤ 140737488355328 ∧ Rd wr W.heap.size A m (r.map (Value.int .u8)) ∧
    wr.ownsRow W.heap.size 22 1 v k vs ∧ Chunks wr W.heap.size vs d ∧ Below W.heap.size W wr ∧ cutM xs zs = d ++ cutM r (zs.drop k)

/-- What Cut leaves. -/
def CutPost (W : World) (l : List (List Int)) (e : Ending) (w' : World) : Prop :=
  ∃ v vs, e = .returned v ∧ w'.ownsRow W.heap.size 22 1 v l.length vs ∧ Chunks w' W.heap.size vs l ∧ Below W.heap.size W w'

theorem drop_cons (zs : List Int) (k : Nat) (h : k < zs.length) : zs.drop k = zs.getD k 0 :: zs.drop (k + 1) := by
  rw [List.drop_eq_getElem_cons h]
  simp [List.getD, h]

set_option maxRecDepth 100000 in
set_option maxHeartbeats 1000000 in
theorem cut_any (A1 : Option Addr) (n1 c1 : Nat) (xs : List Int) (A2 : Option Addr) (n2 c2 : Nat) (zs : List Int) (W : World)
    (h1 : Rd W W.heap.size A1 n1 (xs.map (Value.int .u8))) (hc1 : n1 ≤ c1) (hb1 : n1 ≤ 140737488355328) (h2 : Rd W W.heap.size A2 n2 (zs.map (Value.int .i64))) (hb2 : n2 ≤ 1000000) :
    Calls Try.prog 6 #[.slice A1 n1 c1, .slice A2 n2 c2] W (CutPost W (cutM xs zs)) := by
  obtain ⟨i0, hi, hz0, hz1, hz2⟩ := info_parts slice_info
  have hl2 : zs.length = n2 := by simpa using h2.1
  subst hl2
  go_enter Try.func6, Try.ntmps6
  go_wp2
  go_loopw [0, 5, 10] (fun b v i wr => RelCut xs zs W wr b v i) (fun _ _ i _ => zs.length - (intOf i).toNat)
  case atStart => exact ⟨0, n1, c1, A1, xs, [], [], Nat.zero_le _, rfl, rfl, hc1, hb1, h1, World.ownsRow_nil _ _ _ _, Chunks.nil _ _, Below.refl _ _, by simp⟩
  case round =>
    obtain ⟨k, m, c, A, r, d, vs, hk, rfl, rfl, hmc, hm, hr, hown, hch, hbel, hcut⟩ := hrel
    by_cases hlt : k < zs.length
    · obtain ⟨ad2, rfl, hlt2, hc2⟩ := h2.2 (by omega)
      have hz := (hbel.cell (p := ad2.add k) (by rw [add_block]; exact hlt2)).trans (hc2 k (.int .i64 (zs.getD k 0)) (by simp [hlt]))
      have hdc := drop_cons zs k hlt
      generalize zs.getD k 0 = z at hz hdc
      clear hc2
      have hs : z ≤ 0 ∨ (0 < z ∧ z ≤ m) ∨ m < z := by omega
      obtain ⟨j, hj, hjt⟩ : ∃ j : Nat, min (max z 0) (m : Int) = j ∧ j ≤ m ∧ r.take z.toNat = r.take j ∧ r.drop z.toNat = r.drop j := by
        have hl : r.length = m := by simpa using hr.1
        refine ⟨min z.toNat m, by omega, by omega, ?_, ?_⟩
        · by_cases h : z.toNat ≤ m
          · rw [Nat.min_eq_left h]
          · rw [Nat.min_eq_right (by omega), List.take_of_length_le (by omega), List.take_of_length_le (by omega)]
        · by_cases h : z.toNat ≤ m
          · rw [Nat.min_eq_left h]
          · rw [Nat.min_eq_right (by omega), List.drop_of_length_le (by omega), List.drop_of_length_le (by omega)]
      obtain ⟨A', hlow, hlowR⟩ := slice_low 22 under_ok elem_ok A m c j hjt.1 hmc
      have hr' := hlowR _ _ _ hr
      have hr0 := (slice_high 22 under_ok elem_ok A m c j hjt.1 hmc).2 _ _ _ hr
      rw [← List.map_take] at hr0
      rw [← List.map_drop] at hr'
      have hjm : j ≤ m := hjt.1
      have HJ := Lib.hid hjt
      have HCut := Lib.hid hcut
      have HD := Lib.hid hdc
      have hrl : r.length = m := by simpa using hr.1
      have HRL := Lib.hid hrl
      clear hjt hlowR hcut hdc hrl
      rcases hs with hs | ⟨hs, hs'⟩ | hs
      all_goals
        go_wp2_with (first
          | (go_at_call 17; refine (clone_any hr0 (by omega) _).mono ?_
             rintro e w1 ⟨v1, rfl, ho1, hb1⟩
             obtain ⟨a1, c1', rfl, hc1n, hc1m⟩ := own_slice ho1
             have z1 := hb1.size
             have z0 := hbel.size
             have hown1 := own_stay hown hb1 (fun g hg => (own_live hown g hg).2)
             have hch1 := hch.stay hb1 (Nat.le_refl _)
             have ho1' := own_base ho1 z0)
          | (at_builtin; go_must (refine wpList_append_rd _ rfl (.tmp 19) (.tmp 24) _ rfl W.heap.size 22 i0 _ 24 Try.underlying25 hi hz0 hz1 hz2 rfl u5 k vs rfl (hown1.alloc _) (w1.heap.size + 1) (some ⟨w1.heap.size, 0, none⟩) 1 1 [.slice a1 j c1'] rfl (Rd.of_list (l := [.slice a1 j c1']) (Own.fresh _ _ _) rfl) (by intro u hu; simp at hu; subst hu; rfl) (by unfold maxLen; omega) (by omega) (by simp; omega) ?_)
             intro v2 w2 hown2 hg2 hnil2 hat2
             have hch2 := chunks_push (x := r.take j) hch1 (by rw [List.length_take, HRL.out, Nat.min_eq_left hjm]; exact ho1') hown1 hg2
             have hb2 := (hb1.mono z0).trans (below_push hown1 hg2 (Nat.le_trans z0 z1))
             clear hnil2 hat2 hg2 hch1 ho1' ho1 hown1 hr0))
        go_roundw
        case rel => exact ⟨k + 1, _, _, _, r.drop j, d ++ [r.take j], _, hlt, by go_num, rfl, by omega, by omega, hr'.stay hb2, hown2, hch2, hbel.trans hb2, by rw [HCut.out, HD.out]; simp [cutM, HJ.out.2.1, HJ.out.2.2]⟩
        case measure => simp [intOf]; omega
    · obtain rfl : k = zs.length := by omega
      have hdl : d.length = zs.length := by
        have h1 := hch.1
        have h2 := hown.1
        omega
      have hrl : r.length = m := by simpa using hr.1
      rw [List.drop_length] at hcut
      have HRL := Lib.hid hrl
      have HDL := Lib.hid hdl
      have HCut := Lib.hid hcut
      clear hrl hdl hcut
      by_cases hm0 : 0 < m
      · go_wp2_with (first
          | (go_at_call 17; refine (clone_any hr (by omega) _).mono ?_
             rintro e w1 ⟨v1, rfl, ho1, hb1⟩
             obtain ⟨a1, c1', rfl, hc1n, hc1m⟩ := own_slice ho1
             have z1 := hb1.size
             have z0 := hbel.size
             have hown1 := own_stay hown hb1 (fun g hg => (own_live hown g hg).2)
             have hch1 := hch.stay hb1 (Nat.le_refl _)
             have ho1' := own_base ho1 z0)
          | (at_builtin; go_must (refine wpList_append_rd _ rfl (.tmp 33) (.tmp 36) _ rfl W.heap.size 22 i0 _ 24 Try.underlying25 hi hz0 hz1 hz2 rfl u5 zs.length vs rfl (hown1.alloc _) (w1.heap.size + 1) (some ⟨w1.heap.size, 0, none⟩) 1 1 [.slice a1 m c1'] rfl (Rd.of_list (l := [.slice a1 m c1']) (Own.fresh _ _ _) rfl) (by intro u hu; simp at hu; subst hu; rfl) (by unfold maxLen; omega) (by omega) (by simp; omega) ?_)
             intro v2 w2 hown2 hg2 hnil2 hat2
             have hch2 := chunks_push (x := r) hch1 (by rw [HRL.out]; exact ho1') hown1 hg2
             have hb2 := (hb1.mono z0).trans (below_push hown1 hg2 (Nat.le_trans z0 z1))
             clear hnil2 hat2 hg2 hch1 ho1' ho1 hown1))
        go_ret
        have e : cutM xs zs = d ++ [r] := by
          rw [HCut.out]
          have := HRL.out
          cases r with
          | nil => simp at this; omega
          | cons _ _ => rfl
        refine ⟨v2, _, rfl, ?_, by rw [e]; exact hch2, hbel.trans hb2⟩
        rw [e, List.length_append, HDL.out]
        exact hown2
      · obtain rfl : m = 0 := by omega
        obtain rfl : r = [] := List.eq_nil_of_length_eq_zero HRL.out
        go_wp2
        go_ret
        have e : cutM xs zs = d := by
          rw [HCut.out]
          simp [cutM]
        exact ⟨_, _, rfl, by rw [e, HDL.out]; exact hown, by rw [e]; exact hch, hbel⟩

end Go.Proofs.Ytcphjojfbihapaa
